/- Walk over turnBack of the program; own lemmas of the verifier, no statement is proved here. -/
import Derived.Test.YtgkfohgeelfceaaDoorX4
namespace Go.Proofs.YtgkfohgeelfceaaDoor
open Go.RowKit
theorem cf49 (vs : Array Value) (w : World) : (callFunc 49 vs).run Tryd.prog w = .ok (.enter 49 vs) w := by go_simp
theorem retE {w : World} {v : Value} (e : Ending) (w' : World) (h : e = .returned v ∧ w = w') : ∃ u, e = .returned u ∧ Ext w w' ∧ K.holds (.eq v) w' u := by
  obtain ⟨rfl, rfl⟩ := h
  exact ⟨_, rfl, Ext.refl _, rfl⟩
theorem retX {w : World} {v : Value} (e : Ending) (w' : World) (h : e = .returned v ∧ Ext w w') : ∃ u, e = .returned u ∧ Ext w w' ∧ K.holds (.eq v) w' u := by
  obtain ⟨rfl, hx⟩ := h
  exact ⟨_, rfl, hx, rfl⟩
theorem exec_load58 {o : Oper} {a : Act} {w : World} {t : Tmp} {B : Nat} {x : W2} (ho : o.op = .load 58 (.tmp t)) (ht : a.tmps.getD t undef = .pointer (some ⟨B, 0, none⟩)) (hA : B2 w B x) :
    (execOp a.eval o).run Tryd.prog w = .ok (.value (.agg x.cells)) w := by
  have h := run_loadVar_row (P := Tryd.prog) w B 58 58 x.cells (0, 0) _ hA Tryd.underlying58 rfl (W2.size x)
  unfold execOp
  simp only [ho, Act.eval, ht, Instr.loadAt, Instr.sureAddr, Sem.run_bind, Sem.run_pure, Result.andThen_ok, h]
theorem build58 (a b : UInt32) (w : World) : (Instr.build 58 #[(0, .int .u32 (a.toNat : Nat)), (1, .int .u32 (b.toNat : Nat))]).run Tryd.prog w = .ok (.agg (W2.mk a b).cells) w := by kernel_rfl
def tb1 (p : Nat) (t : T3) (x : W2) : List K := [.eq (.pointer (some ⟨p, 0, none⟩)), .eq (.pointer (some ⟨p, 0, none⟩)), .eq (.pointer (some ⟨p, 0, none⟩)), .eq (.int .i64 t.code), .eq (.agg x.cells), .eq (.agg (crs t x).cells), .any]
def tb7 (p : Nat) (ah y : W2) : List K := [.eq (.int .u32 (y.a.toNat : Nat)), .eq (.pointer (some ⟨p, 0, none⟩)), .eq (.pointer (some ⟨p, 0, none⟩)), .eq (.pointer (some ⟨p, 1, none⟩)), .eq (.pointer (some ⟨p, 1, none⟩)), .eq (.int .u32 (ah.a.toNat : Nat)), .eq (.int .u32 ((y.a - ah.a).toNat : Nat)), .eq (.int .u32 (y.b.toNat : Nat)), .eq (.pointer (some ⟨p, 0, none⟩)), .eq (.pointer (some ⟨p, 0, none⟩)), .eq (.pointer (some ⟨p, 1, none⟩)), .eq (.pointer (some ⟨p, 2, none⟩)), .eq (.int .u32 (ah.b.toNat : Nat)), .eq (.int .u32 ((y.b - ah.b).toNat : Nat)), .eq (.agg (W2.mk (y.a - ah.a) (y.b - ah.b)).cells), .any]
structure BackS (p b o c : Nat) (t : T3) (ah : W2) (ks : List UInt32) (G : Nat) (w w1 : World) : Prop where
  ext : Ext w w1
  sm : Small_ w1 p b o c t ah ks
  res : B2 w1 (G + 1) ⟨0, 0⟩
  rows : GRows w1
def BackJ (p b o c : Nat) (t : T3) (ah : W2) (ks : List UInt32) (x : W2) (G : Nat) (w : World) (a : Act) (w1 : World) : Prop :=
  ∃ (i : Nat) (y : W2) (u8 u9 u10 u11 u12 u13 u14 u15 u16 u17 u18 u19 u20 u21 u22 u23 u24 u25 u26 u27 u28 u29 u30 u31 u32 u33 u34 u35 u36 u37 u38 u39 u40 u41 u42 u43 u44 u45 u46 u47 u48 u49 u50 u51 u52 u53 u54 u55 u56 : Value),
    a = { tmps := #[.pointer (some ⟨p, 0, none⟩), .agg x.cells, undef, .pointer (some ⟨G, 0, none⟩), .pointer (some ⟨G + 1, 0, none⟩), .int .u32 (y.a.toNat : Nat), .int .u32 (y.b.toNat : Nat), .int .i64 ((ks.length - i : Nat) : Int), u8, u9, u10, u11, u12, u13, u14, u15, u16, u17, u18, u19, u20, u21, u22, u23, u24, u25, u26, u27, u28, u29, u30, u31, u32, u33, u34, u35, u36, u37, u38, u39, u40, u41, u42, u43, u44, u45, u46, u47, u48, u49, u50, u51, u52, u53, u54, u55, u56], defers := [] } ∧ i ≤ ks.length ∧
    y = bwd t ks ks.length (crs t x) i ∧ BackS p b o c t ah ks G w w1
set_option maxRecDepth 100000 in
set_option maxHeartbeats 4000000 in
theorem turnBack_any (p b o c : Nat) (t : T3) (ah : W2) (ks : List UInt32) (x : W2) (w : World) (hs : Small_ w p b o c t ah ks) (hn : ks.length ≤ 1000) (hG : GRows w) :
    Calls Tryd.prog 33 #[.pointer (some ⟨p, 0, none⟩), .agg x.cells] w (Ret2 w (backW t ah ks x)) := by
  have h1 := heap_alloc2_old w (.cells x.cells 58) (.cells #[.int .u32 0, .int .u32 0] 58)
  have h2 := heap_alloc2_new w (.cells x.cells 58) (.cells #[.int .u32 0, .int .u32 0] 58)
  have h3 := (Ext.alloc w (.cells x.cells 58)).trans (Ext.alloc _ (.cells #[.int .u32 0, .int .u32 0] 58))
  have HS := hid hs
  have HGR := hid hG
  clear hs hG
  go_enter Tryd.func33, Tryd.ntmps33
  go_wp2_with fail
  refine wp_scope_jumps2 0 (BackJ p b o c t ah ks x w.heap.size w) (fun a _ => iAt 7 a) rfl ?_ ?_
  · clear h1 h2 h3 HS HGR
    obtain ⟨G, hGe⟩ : ∃ G, w.heap.size = G := ⟨_, rfl⟩
    rw [hGe]
    have HGE := hid hGe
    clear hGe
    rintro a w1 ⟨i, y, u8, u9, u10, u11, u12, u13, u14, u15, u16, u17, u18, u19, u20, u21, u22, u23, u24, u25, u26, u27, u28, u29, u30, u31, u32, u33, u34, u35, u36, u37, u38, u39, u40, u41, u42, u43, u44, u45, u46, u47, u48, u49, u50, u51, u52, u53, u54, u55, u56, rfl, hi, hy, hS⟩
    have HSM := hid hS.sm
    have HX := hid hS.ext
    have HR := hid hS.res
    have HRO := hid hS.rows
    by_cases hlt : i < ks.length
    · have ct := hS.sm.tag
      have ck := hS.sm.keys
      have hroom := hS.sm.room
      have hcell := hS.sm.at_ (ks.length - 1 - i) (by omega)
      obtain ⟨k, hk⟩ : ∃ k, ks.getD (ks.length - 1 - i) 0 = k := ⟨_, rfl⟩
      rw [hk] at hcell
      have hst : bwd t ks ks.length (crs t x) (i + 1) = ⟨unmadeW t y.b y.a k, y.a⟩ := by rw [bwd, hk, ← hy]
      have HST := hid hst
      have hm := fun n => unmade_any t y.b y.a k (w1.drewN n) hS.rows
      have b1 := wlt y.a
      have b2 := wlt y.b
      obtain ⟨T, hT⟩ : ∃ T, t.code = T := ⟨_, rfl⟩
      rw [hT] at ct hm
      have hl := hid hy
      have HM := hid hm
      clear hy hk hst hS hm
      obtain ⟨m, hme⟩ : ∃ m, ks.length - i = m + 1 := ⟨ks.length - i - 1, by omega⟩
      have hmm : ks.length - 1 - i = m := by omega
      have hml : m < ks.length := by omega
      rw [hmm] at hcell
      rw [hme]
      have HMM := hid (show ks.length - (i + 1) = m by omega)
      have e1 : (((m + 1 : Nat) : Int)) - 1 = (m : Int) := by omega
      have e2 : (0 : Int) < ((m + 1 : Nat) : Int) := by omega
      clear hmm hme
      go_wp2_with fail
      go_quiet ((go_at_call 50; exact quietSame (HM.out _)))
      go_wp2_with fail
      go_step3
      (try simp only [Exit.jump])
      refine ⟨rfl, ⟨i + 1, ⟨unmadeW t y.b y.a k, y.a⟩, _, _, _, _, _, _, _, _, _, _, _, _, _, _, _, _, _, _, _, _, _, _, _, _, _, _, _, _, _, _, _, _, _, _, _, _, _, _, _, _, _, _, _, _, _, _, _, _, _, by rw [HMM.out], by omega, HST.out.symm, ⟨HX.out.drewN nq, HSM.out.later ((Ext.refl _).drewN nq), HR.out, HRO.out⟩⟩, ?_⟩
      simp [iAt]
    · obtain rfl : i = ks.length := by omega
      have HGE2 := hid (show w.heap.size ≤ G + 1 by have := HGE.out; omega)
      have HY := hid (show (⟨y.a - ah.a, y.b - ah.b⟩ : W2) = backW t ah ks x by rw [hy]; rfl)
      rw [Nat.sub_self]
      clear hy hS
      go_wp2_with fail
      refine region_upto 15 mixed rfl (by kernel_rfl) (by kernel_rfl) (by kernel_rfl) (kV (tb7 p ah y)) (kV_keep _) (forall_ops ⟨?_, ?_, ?_, ?_, ?_, ?_, ?_, ?_, ?_, ?_, ?_, ?_, ?_, ?_, ?_, trivial⟩) ?_
      · intro a w hk
        have s5 : a.tmps.getD 5 undef = .int .u32 (y.a.toNat : Nat) := hk.was 5 (by kernel_rfl) rfl
        exact step_move rfl rfl s5 rfl
      · intro a w hk
        have s0 : a.tmps.getD 0 undef = .pointer (some ⟨p, 0, none⟩) := hk.was 0 (by kernel_rfl) rfl
        exact step_move rfl rfl s0 rfl
      · intro a w hk
        have s43 := hk.eq_ 1 43 (by kernel_rfl) rfl
        refine step_val (v := .pointer (some ⟨p, 0, none⟩)) (w' := w) rfl ?_ (Ext.refl w) rfl
        go_simp
      · intro a w hk
        have s44 := hk.eq_ 2 44 (by kernel_rfl) rfl
        refine step_val (v := .pointer (some ⟨p, 1, none⟩)) (w' := w) rfl ?_ (Ext.refl w) rfl
        go_simp
      · intro a w hk
        have s45 := hk.eq_ 3 45 (by kernel_rfl) rfl
        refine step_val (v := .pointer (some ⟨p, 1, none⟩)) (w' := w) rfl ?_ (Ext.refl w) rfl
        go_simp
      · intro a w hk
        have s46 := hk.eq_ 4 46 (by kernel_rfl) rfl
        refine step_val (v := .int .u32 (ah.a.toNat : Nat)) (w' := w) rfl ?_ (Ext.refl w) rfl
        have hc := (HSM.out.later hk.ext).a0
        go_simp
      · intro a w hk
        have s42 := hk.eq_ 0 42 (by kernel_rfl) rfl
        have s47 := hk.eq_ 5 47 (by kernel_rfl) rfl
        refine step_val (v := .int .u32 ((y.a - ah.a).toNat : Nat)) (w' := w) rfl ?_ (Ext.refl w) rfl
        go_simp
        exact w_sub y.a ah.a
      · intro a w hk
        have s6 : a.tmps.getD 6 undef = .int .u32 (y.b.toNat : Nat) := hk.was 6 (by kernel_rfl) rfl
        exact step_move rfl rfl s6 rfl
      · intro a w hk
        have s0 : a.tmps.getD 0 undef = .pointer (some ⟨p, 0, none⟩) := hk.was 0 (by kernel_rfl) rfl
        exact step_move rfl rfl s0 rfl
      · intro a w hk
        have s50 := hk.eq_ 8 50 (by kernel_rfl) rfl
        refine step_val (v := .pointer (some ⟨p, 0, none⟩)) (w' := w) rfl ?_ (Ext.refl w) rfl
        go_simp
      · intro a w hk
        have s51 := hk.eq_ 9 51 (by kernel_rfl) rfl
        refine step_val (v := .pointer (some ⟨p, 1, none⟩)) (w' := w) rfl ?_ (Ext.refl w) rfl
        go_simp
      · intro a w hk
        have s52 := hk.eq_ 10 52 (by kernel_rfl) rfl
        refine step_val (v := .pointer (some ⟨p, 2, none⟩)) (w' := w) rfl ?_ (Ext.refl w) rfl
        go_simp
      · intro a w hk
        have s53 := hk.eq_ 11 53 (by kernel_rfl) rfl
        refine step_val (v := .int .u32 (ah.b.toNat : Nat)) (w' := w) rfl ?_ (Ext.refl w) rfl
        have hc := (HSM.out.later hk.ext).a1
        go_simp
      · intro a w hk
        have s49 := hk.eq_ 7 49 (by kernel_rfl) rfl
        have s54 := hk.eq_ 12 54 (by kernel_rfl) rfl
        refine step_val (v := .int .u32 ((y.b - ah.b).toNat : Nat)) (w' := w) rfl ?_ (Ext.refl w) rfl
        go_simp
        exact w_sub y.b ah.b
      · intro a w hk
        have s48 := hk.eq_ 6 48 (by kernel_rfl) rfl
        have s55 := hk.eq_ 13 55 (by kernel_rfl) rfl
        refine step_val (v := .agg (W2.mk (y.a - ah.a) (y.b - ah.b)).cells) (w' := w) rfl ?_ (Ext.refl w) rfl
        have e := build58 (y.a - ah.a) (y.b - ah.b) w
        simp only [execOp, Act.eval, List.map_toArray, List.map_cons, List.map_nil, s48, s55, Sem.run_bind, e, Sem.run_pure, Result.andThen]
      · intro a w2 hf
        have s42 := hf.eq_ 0 42 (by kernel_rfl) rfl
        have s43 := hf.eq_ 1 43 (by kernel_rfl) rfl
        have s44 := hf.eq_ 2 44 (by kernel_rfl) rfl
        have s45 := hf.eq_ 3 45 (by kernel_rfl) rfl
        have s46 := hf.eq_ 4 46 (by kernel_rfl) rfl
        have s47 := hf.eq_ 5 47 (by kernel_rfl) rfl
        have s48 := hf.eq_ 6 48 (by kernel_rfl) rfl
        have s49 := hf.eq_ 7 49 (by kernel_rfl) rfl
        have s50 := hf.eq_ 8 50 (by kernel_rfl) rfl
        have s51 := hf.eq_ 9 51 (by kernel_rfl) rfl
        have s52 := hf.eq_ 10 52 (by kernel_rfl) rfl
        have s53 := hf.eq_ 11 53 (by kernel_rfl) rfl
        have s54 := hf.eq_ 12 54 (by kernel_rfl) rfl
        have s55 := hf.eq_ 13 55 (by kernel_rfl) rfl
        have s56 := hf.eq_ 14 56 (by kernel_rfl) rfl
        have hx := hf.ext
        have e := hf.frame
        clear hf
        simp only [List.take_succ_cons, List.take_zero, regFrame, Act.put, List.setIfInBounds_toArray, List.set_cons_zero, List.set_cons_succ, s42, s43, s44, s45, s46, s47, s48, s49, s50, s51, s52, s53, s54, s55, s56] at e
        clear s42 s43 s44 s45 s46 s47 s48 s49 s50 s51 s52 s53 s54 s55 s56
        subst e
        simp only [List.drop_succ_cons, List.drop_zero]
        have HR2 := hid (HR.out.later hx)
        have HR3 := hid ((HR.out.later hx).put ⟨y.a - ah.a, y.b - ah.b⟩)
        have HX2 := hid (Below.setRow_ (Ext.trans HX.out hx) HGE2.out (W2.mk (y.a - ah.a) (y.b - ah.b)).cells)
        clear hx
        rw [HY.out] at HR3 HX2
        go_wp2_with (refine wpList_store_row rfl 58 (.tmp 4) (.tmp 56) rfl (G + 1) (W2.mk (y.a - ah.a) (y.b - ah.b)).cells rfl rfl 58 _ HR2.out (W2.size _) rfl (W2.all _) ?_)
        rw [HY.out]
        (try simp only [Exit.jump])
        exact ret_cell rfl rfl (G + 1) 58 _ (0, 0) rfl HR3.out Tryd.underlying58 (W2.size _) ⟨rfl, HX2.out⟩
  · intro hfirst
    obtain ⟨W1, hW1⟩ : ∃ W1, (w.alloc (.cells x.cells 58)).alloc (.cells #[.int .u32 0, .int .u32 0] 58) = W1 := ⟨_, rfl⟩
    rw [hW1] at h1 h2 h3
    obtain ⟨G, hGe⟩ : ∃ G, w.heap.size = G := ⟨_, rfl⟩
    have HB := hid (show B2 W1 G x by rw [← hGe]; exact h1)
    have HRes := hid (show B2 W1 (G + 1) ⟨0, 0⟩ by rw [← hGe]; exact h2)
    have HX := hid h3
    have HW := hid hW1
    have HGE := hid hGe
    clear h1 h2 h3 hW1
    go_wp2_with fail
    rw [HW.out]
    rw [hGe] at hfirst ⊢
    clear hGe HW
    have HSM := hid (HS.out.later HX.out)
    refine region_upto 6 mixed rfl (by kernel_rfl) (by kernel_rfl) (by kernel_rfl) (kV (tb1 p t x)) (kV_keep _) (forall_ops ⟨?_, ?_, ?_, ?_, ?_, ?_, trivial⟩) ?_
    · intro a w hk
      have s0 : a.tmps.getD 0 undef = .pointer (some ⟨p, 0, none⟩) := hk.was 0 (by kernel_rfl) rfl
      exact step_move rfl rfl s0 rfl
    · intro a w hk
      have s8 := hk.eq_ 0 8 (by kernel_rfl) rfl
      refine step_val (v := .pointer (some ⟨p, 0, none⟩)) (w' := w) rfl ?_ (Ext.refl w) rfl
      go_simp
    · intro a w hk
      have s9 := hk.eq_ 1 9 (by kernel_rfl) rfl
      refine step_val (v := .pointer (some ⟨p, 0, none⟩)) (w' := w) rfl ?_ (Ext.refl w) rfl
      go_simp
    · intro a w hk
      have s10 := hk.eq_ 2 10 (by kernel_rfl) rfl
      refine step_val (v := .int .i64 t.code) (w' := w) rfl ?_ (Ext.refl w) rfl
      have hc := (HSM.out.later hk.ext).tag
      go_simp
    · intro a w hk
      have s3 : a.tmps.getD 3 undef = .pointer (some ⟨G, 0, none⟩) := hk.was 3 (by kernel_rfl) rfl
      refine step_val (v := .agg x.cells) (w' := w) rfl ?_ (Ext.refl w) rfl
      exact exec_load58 rfl s3 (HB.out.later hk.ext)
    · intro a w hk
      have s11 := hk.eq_ 3 11 (by kernel_rfl) rfl
      have s12 := hk.eq_ 4 12 (by kernel_rfl) rfl
      exact step_call rfl rfl (by simp only [List.map_toArray, List.map_cons, List.map_nil, Act.eval, s11, s12] <;> rfl) cf49 (crossed_any t x w) (fun e w1 h => retX e w1 h)
    · intro a w1 hf
      have s8 := hf.eq_ 0 8 (by kernel_rfl) rfl
      have s9 := hf.eq_ 1 9 (by kernel_rfl) rfl
      have s10 := hf.eq_ 2 10 (by kernel_rfl) rfl
      have s11 := hf.eq_ 3 11 (by kernel_rfl) rfl
      have s12 := hf.eq_ 4 12 (by kernel_rfl) rfl
      have s13 := hf.eq_ 5 13 (by kernel_rfl) rfl
      have hx := hf.ext
      have e := hf.frame
      clear hf
      simp only [List.take_succ_cons, List.take_zero, regFrame, Act.put, List.setIfInBounds_toArray, List.set_cons_zero, List.set_cons_succ, s8, s9, s10, s11, s12, s13] at e
      clear s8 s9 s10 s11 s12 s13
      subst e
      simp only [List.drop_succ_cons, List.drop_zero]
      have HR2 := hid (HRes.out.later hx)
      have HB1 := hid (HB.out.later hx)
      have HB2 := hid ((HB.out.later hx).put (crs t x))
      have HRes2 := hid (((HRes.out.later hx)).putne G (crs t x).cells (by omega))
      have hg := HGE.out
      have HX2 := hid (Below.setRow_ (Ext.trans HX.out hx) (by omega) (crs t x).cells : Below w.heap.size w (w1.setRow G (crs t x).cells))
      clear hg
      have HSM2 := hid (HS.out.later (show Ext w _ from HX2.out))
      have HRO2 := hid (HGR.out.later (show Ext w _ from HX2.out))
      clear hx HX HB HRes HR2 HSM HS HGR
      go_wp2_with (refine wpList_store_row rfl 58 (.tmp 3) (.tmp 13) rfl G (crs t x).cells rfl rfl 58 _ HB1.out (W2.size _) rfl (W2.all _) ?_)
      obtain ⟨W3, hW3⟩ : ∃ W3, w1.setRow G (crs t x).cells = W3 := ⟨_, rfl⟩
      rw [hW3] at HB2 HRes2 HX2 HSM2 HRO2 ⊢
      obtain ⟨z, hz⟩ : ∃ z, crs t x = z := ⟨_, rfl⟩
      rw [hz] at HB2
      have HZ := hid hz
      clear hW3 HB1 hz
      have c0 := HB2.out.ca
      have c1 := HB2.out.cb
      have l1 := wlt z.a
      have l2 := wlt z.b
      have p3 := HSM2.out.keys
      have hroom := HSM2.out.room
      go_quiet (fail)
      go_wp2_with fail
      go_step3
      simp only [Exit.then]
      rename_i hK
      refine hK _ _ ?_
      have HGE2 := HGE.out
      subst HGE2
      exact hfirst.out _ _ ⟨0, z, _, _, _, _, _, _, _, _, _, _, _, _, _, _, _, _, _, _, _, _, _, _, _, _, _, _, _, _, _, _, _, _, _, _, _, _, _, _, _, _, _, _, _, _, _, _, _, _, _, rfl, by omega, HZ.out.symm, ⟨Ext.drewN HX2.out nq, HSM2.out.later ((Ext.refl _).drewN nq), HRes2.out, HRO2.out⟩⟩
end Go.Proofs.YtgkfohgeelfceaaDoor
