/- Walks over Make of the program and of the reference; own lemmas of the verifier, no statement is proved here. -/
import Derived.Test.YtpfkcplldhdipaaDoorK4
import Derived.Test.YtpfkcplldhdipaaDoorRegT
namespace Go.Proofs.YtpfkcplldhdipaaDoor
open Go.RowKit
/-- Number x of a table that is made. -/
def mkF (e m : Nat) (bs : List UInt8) (c x : Nat) : Nat := affN (gp m x e) (nb bs) c
def mkU (e m : Nat) (bs : List UInt8) (c x : Nat) : UInt8 := UInt8.ofNat (mkF e m bs c x)
def mkL (e m : Nat) (bs : List UInt8) (c : Nat) : List UInt8 := tabF (mkF e m bs c) 256
theorem mkL_length (e m : Nat) (bs : List UInt8) (c : Nat) : (mkL e m bs c).length = 256 := tabF_length _ _
theorem mkF_lt {e m c x : Nat} {bs : List UInt8} (hc : c < 256) : mkF e m bs c x < 256 := affN_lt hc
theorem cf48 (vs : Array Value) (w : World) : (callFunc 48 vs).run Tryd.prog w = .ok (.enter 48 vs) w := by go_simp
theorem cf47 (vs : Array Value) (w : World) : (callFunc 47 vs).run Tryd.prog w = .ok (.enter 47 vs) w := by go_simp
theorem cf54 (vs : Array Value) (w : World) : (callFunc 54 vs).run Tryd.prog w = .ok (.enter 54 vs) w := by go_simp
theorem cf53 (vs : Array Value) (w : World) : (callFunc 53 vs).run Tryd.prog w = .ok (.enter 53 vs) w := by go_simp
theorem retE {w : World} {v : Value} (e : Ending) (w' : World) (h : e = .returned v ∧ w = w') : ∃ u, e = .returned u ∧ Ext w w' ∧ K.holds (.eq v) w' u := by
  obtain ⟨rfl, rfl⟩ := h
  exact ⟨_, rfl, Ext.refl _, rfl⟩
theorem retX {w : World} {v : Value} (e : Ending) (w' : World) (h : e = .returned v ∧ Ext w w') : ∃ u, e = .returned u ∧ Ext w w' ∧ K.holds (.eq v) w' u := by
  obtain ⟨rfl, hx⟩ := h
  exact ⟨_, rfl, hx, rfl⟩
theorem exec_load33 {o : Oper} {a : Act} {w : World} {t : Tmp} {B : Nat} {bs : List UInt8} (ho : o.op = .load 71 (.tmp t)) (ht : a.tmps.getD t undef = .pointer (some ⟨B, 0, none⟩)) (hA : Arr8 w B bs) (hb : bs.length = 8) :
    (execOp a.eval o).run Tryd.prog w = .ok (.value (.agg (cellsOf bs).toArray)) w := by
  have h := run_loadVar_row (P := Tryd.prog) w B 71 71 (cellsOf bs).toArray (0, 0) _ hA Tryd.underlying71 rfl (size33' hb)
  unfold execOp
  simp only [ho, Act.eval, ht, Instr.loadAt, Instr.sureAddr, Sem.run_bind, Sem.run_pure, Result.andThen_ok, h]
/-- One store of a byte, at the end of a region. -/
theorem wp_store_u8 {o : Oper} {a : Act} {w : World} {K : Act → World → Prop} {Q : Exit → Act → World → Prop} (x y : Operand) (ho : o.op = .store 5 x y) (hd : o.dst = none)
    (g k n : Nat) (old : Value) (hx : a.eval x = .pointer (some ⟨g, k, none⟩)) (hy : a.eval y = .int .u8 n)
    (hc : w.cell? ⟨g, k, none⟩ = some old) (hf : w.frozen? ⟨g, k, none⟩ = false)
    (h : K a (w.setCell ⟨g, k, none⟩ (.int .u8 n))) : o.wp Tryd.prog a w K Q := by
  have hrun : (Instr.storeAt 5 (.pointer (some ⟨g, k, none⟩)) (.int .u8 n)).run Tryd.prog w = .ok () (w.setCell ⟨g, k, none⟩ (.int .u8 n)) := by go_simp
  unfold Oper.wp execOp
  simp only [ho, hx, hy, Sem.run_bind, Sem.run_pure, hrun, Result.andThen_ok]
  have h' : K (a.put o.dst undef) (w.setCell ⟨g, k, none⟩ (.int .u8 n)) := by rw [hd]; exact h
  exact h'
theorem mk_last {w w1 : World} {base G k n : Nat} {f : Nat → UInt8} (ho : Own w base (.slice (some ⟨G, 0, none⟩) 256 256) (fillTo f 256 k)) (hx : Ext w w1) (hk : k < 256) (hn : ((f k).toNat : Int) = n) :
    ∃ old, w1.cell? ⟨G, k, none⟩ = some old ∧ w1.frozen? ⟨G, k, none⟩ = false ∧ Own (w1.setCell ⟨G, k, none⟩ (.int .u8 n)) base (.slice (some ⟨G, 0, none⟩) 256 256) (fillTo f 256 (k + 1)) := by
  have h1 := ho.kept hx
  have h2 := h1.setn k (f k)
  rw [fillTo_set _ _ _ _ rfl, hn] at h2
  exact ⟨_, h1.celln (fillTo_length _ _ _) k hk, h1.freen k, h2⟩
theorem Arr8.set_ {w : World} {B k : Nat} {v : Value} {bs : List UInt8} (h : Arr8 w B bs) : Arr8 (w.setCell ⟨B + 1, k, none⟩ v) B bs :=
  (heap_setCell_other w ⟨B + 1, k, none⟩ B v (by simp)).trans h
def makeKs (ee m k c B : Nat) (bs : List UInt8) : List K := [.eq (.slice (some ⟨B + 1, 0, none⟩) 256 256), .eq (.int .i64 k), .eq (.int .i64 k), .eq (.int .u8 k), .eq (.int .i64 ee), .eq (.int .i64 m), .eq (.int .u8 (gp m k ee : Nat)), .eq (.agg (cellsOf bs).toArray), .eq (.int .u8 c), .eq (.int .u8 (mkF ee m bs c k : Nat)), .eq (.pointer (some ⟨B + 1, k, none⟩)), .any]
set_option maxRecDepth 100000 in
set_option maxHeartbeats 4000000 in
theorem make_any (ee m c : Nat) (bs : List UInt8) (w : World) (hb : bs.length = 8) (he : ee ≤ 1000) (hm : IsRest m) (hc : c < 256) (ho : Odd w) :
    Calls Tryd.prog 33 #[.int .i64 ee, .int .i64 m, .agg (cellsOf bs).toArray, .int .u8 c] w (RetB w (mkL ee m bs c)) := by
  have h0 := hm.lo
  have h1 := hm.hi
  have HM := hid hm
  go_enter Tryd.func33, Tryd.ntmps33
  have hA0 : Arr8 (w.alloc (.cells (cellsOf bs).toArray 71)) w.heap.size bs := heap_alloc_new w _
  have hE0 := Ext.alloc w (.cells (cellsOf bs).toArray 71)
  clear hm
  go_wp2_with (at_make; refine wpL_make rfl (.const (.int .i64 256)) (.const (.int .i64 256)) 22 rfl Tryd.underlying22 Tryd.info5 .i64 _ 256 rfl rfl rfl (by omega) w.heap.size (by simp) ?_; intro w2 hown2 hx2 _)
  have hA := hA0.later hx2
  have hE := hE0.trans hx2
  obtain ⟨B, hB⟩ : ∃ B, w.heap.size = B := ⟨_, rfl⟩
  have HB := hid hB
  rw [show (w.alloc (.cells (cellsOf bs).toArray 71)).heap.size = w.heap.size + 1 by simp] at hown2
  rw [hB] at hown2 hA ⊢
  have HH := hid (show Own w2 B (.slice (some ⟨B + 1, 0, none⟩) 256 256) (fillTo (mkU ee m bs c) 256 0) ∧ Arr8 w2 B bs ∧ Ext w w2 from ⟨by rw [fillTo_zero]; exact hown2, hA, hE⟩)
  clear hown2 hA hE hA0 hE0 hx2 hB
  go_loopw [28] (fun i wr => ∃ k : Nat, k ≤ 256 ∧ i = .int .i64 k ∧ Own wr B (.slice (some ⟨B + 1, 0, none⟩) 256 256) (fillTo (mkU ee m bs c) 256 k) ∧ Arr8 wr B bs ∧ Ext w wr) (fun i _ => 256 - (intOf i).toNat)
  case atStart => exact ⟨0, by omega, rfl, HH.out⟩
  case round =>
    obtain ⟨k, hk, rfl, hown, hA, hx⟩ := hrel
    clear HH
    by_cases hlt : k < 256
    · have HC := hid hown
      have HA := hid hA
      have HX := hid hx
      have HE6 := hid (show ee ≤ 1000000 by omega)
      have hO := hid (ho.later hx)
      clear ho
      clear hown hA hx
      go_wp2_with fail
      refine region_tail 11 _ mixed rfl (by kernel_rfl) (by kernel_rfl) rfl rfl rfl (kV (makeKs ee m k c B bs)) (kV_keep _) (forall_ops ⟨?_, ?_, ?_, ?_, ?_, ?_, ?_, ?_, ?_, ?_, ?_, fun h => absurd rfl h, trivial⟩) ?_
      · intro _ a w hk
        have s9 : a.tmps.getD 9 undef = .slice (some ⟨B + 1, 0, none⟩) 256 256 := hk.was 9 (by kernel_rfl) rfl
        exact step_move rfl rfl s9 rfl
      · intro _ a w hk
        have s10 : a.tmps.getD 10 undef = .int .i64 k := hk.was 10 (by kernel_rfl) rfl
        exact step_move rfl rfl s10 rfl
      · intro _ a w hk
        have s10 : a.tmps.getD 10 undef = .int .i64 k := hk.was 10 (by kernel_rfl) rfl
        exact step_move rfl rfl s10 rfl
      · intro _ a w hk
        have s33 := hk.eq_ 2 33 (by kernel_rfl) rfl
        refine step_val (v := .int .u8 k) (w' := w) rfl ?_ (Ext.refl w) rfl
        go_simp
        exact IntWalk.u8_in _ (by omega)
      · intro _ a w hk
        have s0 : a.tmps.getD 0 undef = .int .i64 ee := hk.was 0 (by kernel_rfl) rfl
        exact step_move rfl rfl s0 rfl
      · intro _ a w hk
        have s1 : a.tmps.getD 1 undef = .int .i64 m := hk.was 1 (by kernel_rfl) rfl
        exact step_move rfl rfl s1 rfl
      · intro _ a w hk
        have s34 := hk.eq_ 3 34 (by kernel_rfl) rfl
        have s35 := hk.eq_ 4 35 (by kernel_rfl) rfl
        have s36 := hk.eq_ 5 36 (by kernel_rfl) rfl
        exact step_call rfl rfl (by simp only [List.map_toArray, List.map_cons, List.map_nil, Act.eval, s34, s35, s36] <;> rfl) cf48 (pow_any k ee m w HM.out hlt HE6.out) (fun e w' h => retE e w' h)
      · intro _ a w hk
        have s6 : a.tmps.getD 6 undef = .pointer (some ⟨B, 0, none⟩) := hk.was 6 (by kernel_rfl) rfl
        exact step_val (v := .agg (cellsOf bs).toArray) (w' := w) rfl (exec_load33 rfl s6 (HA.out.later hk.ext) hb) (Ext.refl w) rfl
      · intro _ a w hk
        have s3 : a.tmps.getD 3 undef = .int .u8 c := hk.was 3 (by kernel_rfl) rfl
        exact step_move rfl rfl s3 rfl
      · intro _ a w hk
        have s37 := hk.eq_ 6 37 (by kernel_rfl) rfl
        have s38 := hk.eq_ 7 38 (by kernel_rfl) rfl
        have s39 := hk.eq_ 8 39 (by kernel_rfl) rfl
        exact step_call rfl rfl (by simp only [List.map_toArray, List.map_cons, List.map_nil, Act.eval, s37, s38, s39] <;> rfl) cf47 (aff_any (gp m k ee) c bs w hb (gp_lt HM.out _) hc (hO.out.later hk.ext)) (fun e w' h => retX e w' h)
      · intro _ a w hk
        have s31 := hk.eq_ 0 31 (by kernel_rfl) rfl
        have s32 := hk.eq_ 1 32 (by kernel_rfl) rfl
        refine step_val (v := .pointer (some ⟨B + 1, k, none⟩)) (w' := w) rfl ?_ (Ext.refl w) rfl
        have hlti : (k : Int) < 256 := by omega
        go_simp
      · intro a w1 hf
        have s31 := hf.eq_ 0 31 (by kernel_rfl) rfl
        have s32 := hf.eq_ 1 32 (by kernel_rfl) rfl
        have s33 := hf.eq_ 2 33 (by kernel_rfl) rfl
        have s34 := hf.eq_ 3 34 (by kernel_rfl) rfl
        have s35 := hf.eq_ 4 35 (by kernel_rfl) rfl
        have s36 := hf.eq_ 5 36 (by kernel_rfl) rfl
        have s37 := hf.eq_ 6 37 (by kernel_rfl) rfl
        have s38 := hf.eq_ 7 38 (by kernel_rfl) rfl
        have s39 := hf.eq_ 8 39 (by kernel_rfl) rfl
        have s40 := hf.eq_ 9 40 (by kernel_rfl) rfl
        have s41 := hf.eq_ 10 41 (by kernel_rfl) rfl
        have hx := hf.ext
        have e := hf.frame
        clear hf
        simp only [regFrame, Act.put, List.setIfInBounds_toArray, List.set_cons_zero, List.set_cons_succ, s31, s32, s33, s34, s35, s36, s37, s38, s39, s40, s41] at e
        clear s31 s32 s33 s34 s35 s36 s37 s38 s39 s40 s41
        subst e
        have HX1 := hid (Ext.trans HX.out hx)
        obtain ⟨old, hcell, hfrz, hown1⟩ := mk_last (n := mkF ee m bs c k) HC.out hx hlt (u8_nat _ (mkF_lt hc))
        have HO1 := hid hown1
        have HA1 := hid (HA.out.later hx)
        refine wp_store_u8 (.tmp 41) (.tmp 40) rfl rfl (B + 1) k (mkF ee m bs c k) old rfl rfl hcell hfrz ?_
        clear hx hown1 hcell hfrz
        go_wp2_with fail
        go_roundw
        case rel => exact ⟨k + 1, by omega, by go_num, HO1.out, Arr8.set_ HA1.out, Below.setCell HX1.out (by have := HB.out; simp; omega) _⟩
        case measure => simp [intOf]; omega
    · obtain rfl : k = 256 := by omega
      rw [fillTo_full] at hown
      have HC := hid hown
      have HX := hid hx
      clear hown hA hx
      go_wp2_with fail
      go_ret
      exact ⟨_, rfl, HB.out ▸ HC.out, HX.out⟩
def rmakeKs (ee m k c B : Nat) (bs : List UInt8) : List K := [.eq (.slice (some ⟨B + 1, 0, none⟩) 256 256), .eq (.int .i64 k), .eq (.int .i64 k), .eq (.int .u8 k), .eq (.int .i64 ee), .eq (.int .i64 m), .eq (.int .u8 (gp m k ee : Nat)), .eq (.agg (cellsOf bs).toArray), .eq (.int .u8 c), .eq (.int .u8 (mkF ee m bs c k : Nat)), .eq (.pointer (some ⟨B + 1, k, none⟩)), .any]
set_option maxRecDepth 100000 in
set_option maxHeartbeats 4000000 in
theorem rmake_any (ee m c : Nat) (bs : List UInt8) (w : World) (hb : bs.length = 8) (he : ee ≤ 1000) (hm : IsRest m) (hc : c < 256) :
    Calls Tryd.prog 38 #[.int .i64 ee, .int .i64 m, .agg (cellsOf bs).toArray, .int .u8 c] w (RetB w (mkL ee m bs c)) := by
  have h0 := hm.lo
  have h1 := hm.hi
  have HM := hid hm
  go_enter Tryd.func38, Tryd.ntmps38
  have hA0 : Arr8 (w.alloc (.cells (cellsOf bs).toArray 71)) w.heap.size bs := heap_alloc_new w _
  have hE0 := Ext.alloc w (.cells (cellsOf bs).toArray 71)
  clear hm
  go_wp2_with (at_make; refine wpL_make rfl (.const (.int .i64 256)) (.const (.int .i64 256)) 22 rfl Tryd.underlying22 Tryd.info5 .i64 _ 256 rfl rfl rfl (by omega) w.heap.size (by simp) ?_; intro w2 hown2 hx2 _)
  have hA := hA0.later hx2
  have hE := hE0.trans hx2
  obtain ⟨B, hB⟩ : ∃ B, w.heap.size = B := ⟨_, rfl⟩
  have HB := hid hB
  rw [show (w.alloc (.cells (cellsOf bs).toArray 71)).heap.size = w.heap.size + 1 by simp] at hown2
  rw [hB] at hown2 hA ⊢
  have HH := hid (show Own w2 B (.slice (some ⟨B + 1, 0, none⟩) 256 256) (fillTo (mkU ee m bs c) 256 0) ∧ Arr8 w2 B bs ∧ Ext w w2 from ⟨by rw [fillTo_zero]; exact hown2, hA, hE⟩)
  clear hown2 hA hE hA0 hE0 hx2 hB
  go_loopw [10] (fun i wr => ∃ k : Nat, k ≤ 256 ∧ i = .int .i64 k ∧ Own wr B (.slice (some ⟨B + 1, 0, none⟩) 256 256) (fillTo (mkU ee m bs c) 256 k) ∧ Arr8 wr B bs ∧ Ext w wr) (fun i _ => 256 - (intOf i).toNat)
  case atStart => exact ⟨0, by omega, rfl, HH.out⟩
  case round =>
    obtain ⟨k, hk, rfl, hown, hA, hx⟩ := hrel
    clear HH
    by_cases hlt : k < 256
    · have HC := hid hown
      have HA := hid hA
      have HX := hid hx
      have HE6 := hid (show ee ≤ 1000000 by omega)
      clear hown hA hx
      go_wp2_with fail
      refine region_tail 11 _ mixed rfl (by kernel_rfl) (by kernel_rfl) rfl rfl rfl (kV (rmakeKs ee m k c B bs)) (kV_keep _) (forall_ops ⟨?_, ?_, ?_, ?_, ?_, ?_, ?_, ?_, ?_, ?_, ?_, fun h => absurd rfl h, trivial⟩) ?_
      · intro _ a w hk
        have s9 : a.tmps.getD 9 undef = .slice (some ⟨B + 1, 0, none⟩) 256 256 := hk.was 9 (by kernel_rfl) rfl
        exact step_move rfl rfl s9 rfl
      · intro _ a w hk
        have s10 : a.tmps.getD 10 undef = .int .i64 k := hk.was 10 (by kernel_rfl) rfl
        exact step_move rfl rfl s10 rfl
      · intro _ a w hk
        have s10 : a.tmps.getD 10 undef = .int .i64 k := hk.was 10 (by kernel_rfl) rfl
        exact step_move rfl rfl s10 rfl
      · intro _ a w hk
        have s18 := hk.eq_ 2 18 (by kernel_rfl) rfl
        refine step_val (v := .int .u8 k) (w' := w) rfl ?_ (Ext.refl w) rfl
        go_simp
        exact IntWalk.u8_in _ (by omega)
      · intro _ a w hk
        have s0 : a.tmps.getD 0 undef = .int .i64 ee := hk.was 0 (by kernel_rfl) rfl
        exact step_move rfl rfl s0 rfl
      · intro _ a w hk
        have s1 : a.tmps.getD 1 undef = .int .i64 m := hk.was 1 (by kernel_rfl) rfl
        exact step_move rfl rfl s1 rfl
      · intro _ a w hk
        have s19 := hk.eq_ 3 19 (by kernel_rfl) rfl
        have s20 := hk.eq_ 4 20 (by kernel_rfl) rfl
        have s21 := hk.eq_ 5 21 (by kernel_rfl) rfl
        exact step_call rfl rfl (by simp only [List.map_toArray, List.map_cons, List.map_nil, Act.eval, s19, s20, s21] <;> rfl) cf54 (rpow_any k ee m w HM.out hlt HE6.out) (fun e w' h => retE e w' h)
      · intro _ a w hk
        have s6 : a.tmps.getD 6 undef = .pointer (some ⟨B, 0, none⟩) := hk.was 6 (by kernel_rfl) rfl
        exact step_val (v := .agg (cellsOf bs).toArray) (w' := w) rfl (exec_load33 rfl s6 (HA.out.later hk.ext) hb) (Ext.refl w) rfl
      · intro _ a w hk
        have s3 : a.tmps.getD 3 undef = .int .u8 c := hk.was 3 (by kernel_rfl) rfl
        exact step_move rfl rfl s3 rfl
      · intro _ a w hk
        have s22 := hk.eq_ 6 22 (by kernel_rfl) rfl
        have s23 := hk.eq_ 7 23 (by kernel_rfl) rfl
        have s24 := hk.eq_ 8 24 (by kernel_rfl) rfl
        exact step_call rfl rfl (by simp only [List.map_toArray, List.map_cons, List.map_nil, Act.eval, s22, s23, s24] <;> rfl) cf53 (raff_any (gp m k ee) c bs w hb (gp_lt HM.out _) hc) (fun e w' h => retX e w' h)
      · intro _ a w hk
        have s16 := hk.eq_ 0 16 (by kernel_rfl) rfl
        have s17 := hk.eq_ 1 17 (by kernel_rfl) rfl
        refine step_val (v := .pointer (some ⟨B + 1, k, none⟩)) (w' := w) rfl ?_ (Ext.refl w) rfl
        have hlti : (k : Int) < 256 := by omega
        go_simp
      · intro a w1 hf
        have s16 := hf.eq_ 0 16 (by kernel_rfl) rfl
        have s17 := hf.eq_ 1 17 (by kernel_rfl) rfl
        have s18 := hf.eq_ 2 18 (by kernel_rfl) rfl
        have s19 := hf.eq_ 3 19 (by kernel_rfl) rfl
        have s20 := hf.eq_ 4 20 (by kernel_rfl) rfl
        have s21 := hf.eq_ 5 21 (by kernel_rfl) rfl
        have s22 := hf.eq_ 6 22 (by kernel_rfl) rfl
        have s23 := hf.eq_ 7 23 (by kernel_rfl) rfl
        have s24 := hf.eq_ 8 24 (by kernel_rfl) rfl
        have s25 := hf.eq_ 9 25 (by kernel_rfl) rfl
        have s26 := hf.eq_ 10 26 (by kernel_rfl) rfl
        have hx := hf.ext
        have e := hf.frame
        clear hf
        simp only [regFrame, Act.put, List.setIfInBounds_toArray, List.set_cons_zero, List.set_cons_succ, s16, s17, s18, s19, s20, s21, s22, s23, s24, s25, s26] at e
        clear s16 s17 s18 s19 s20 s21 s22 s23 s24 s25 s26
        subst e
        have HX1 := hid (Ext.trans HX.out hx)
        obtain ⟨old, hcell, hfrz, hown1⟩ := mk_last (n := mkF ee m bs c k) HC.out hx hlt (u8_nat _ (mkF_lt hc))
        have HO1 := hid hown1
        have HA1 := hid (HA.out.later hx)
        refine wp_store_u8 (.tmp 26) (.tmp 25) rfl rfl (B + 1) k (mkF ee m bs c k) old rfl rfl hcell hfrz ?_
        clear hx hown1 hcell hfrz
        go_wp2_with fail
        go_roundw
        case rel => exact ⟨k + 1, by omega, by go_num, HO1.out, Arr8.set_ HA1.out, Below.setCell HX1.out (by have := HB.out; simp; omega) _⟩
        case measure => simp [intOf]; omega
    · obtain rfl : k = 256 := by omega
      rw [fillTo_full] at hown
      have HC := hid hown
      have HX := hid hx
      clear hown hA hx
      go_wp2_with fail
      go_ret
      exact ⟨_, rfl, HB.out ▸ HC.out, HX.out⟩
end Go.Proofs.YtpfkcplldhdipaaDoor
