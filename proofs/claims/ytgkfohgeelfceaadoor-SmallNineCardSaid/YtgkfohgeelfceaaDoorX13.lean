/- Walk over the laws' known answer; own lemmas of the verifier, no statement is proved here. -/
import Derived.Test.YtgkfohgeelfceaaDoorP3
import Derived.Deep.OwnRows
namespace Go.Proofs.YtgkfohgeelfceaaDoor
open Go.RowKit
theorem cf13 (vs : Array Value) (w : World) : (callFunc 13 vs).run Tryd.prog w = .ok (.enter 13 vs) w := by go_simp
theorem cf14 (vs : Array Value) (w : World) : (callFunc 14 vs).run Tryd.prog w = .ok (.enter 14 vs) w := by go_simp
theorem cf15 (vs : Array Value) (w : World) : (callFunc 15 vs).run Tryd.prog w = .ok (.enter 15 vs) w := by go_simp
theorem cf16 (vs : Array Value) (w : World) : (callFunc 16 vs).run Tryd.prog w = .ok (.enter 16 vs) w := by go_simp
theorem cf18 (vs : Array Value) (w : World) : (callFunc 18 vs).run Tryd.prog w = .ok (.enter 18 vs) w := by go_simp
def z8 : List UInt8 := List.replicate 8 0
theorem z8_length : z8.length = 8 := by simp [z8]
theorem made8_run (w : World) : (Instr.makeSlice 22 (.int .i64 (8 : Int)) (.int .i64 (8 : Int))).run Tryd.prog w = .ok (.slice (some ⟨w.heap.size, 0, none⟩) 8 8) (w.alloc (.cells (madeCells #[Value.int .u8 0] 8) 5)) := made_run 8 w (by omega)
theorem made_byt (w : World) : K.holds (.byt 8 z8) (w.alloc (.cells (madeCells #[Value.int .u8 0] 8) 5)) (.slice (some ⟨w.heap.size, 0, none⟩) 8 8) := by
  obtain ⟨A, c, h1, _, _, h2⟩ := made_bycm 8 w (by omega)
  exact ⟨A, c, h1, h2⟩
def kn5 (k : Nat) (t : T3) : List K := [.row 3 tagsV, .eq (.int .i64 k), .ptr (.int .i64 t.code), .eq (.int .i64 t.code), .eq (.int .i64 k), .eq (.int .i64 t.size), .bycm t.size (List.replicate t.size 0), .gen (NewP t (List.replicate t.size 0)) (NewP.keep _ _), .gen (NewP t (List.replicate t.size 0)) (NewP.keep _ _), .gen (PtrP t (List.replicate t.size 0)) (PtrP.keep _ _), .eq (.int .i64 0), .gen (PtrP t (List.replicate t.size 0)) (PtrP.keep _ _), .eq (.int .i64 0)]
def kn10 (BZ : List UInt8) : List K := [.byt 8 (BZ), .eq (.int .i64 8), .eq (.bool false), .eq (.bool false), .byt 8 (BZ), .eq (.string (str (BZ))), .byt 8 ((z8)), .eq (.string (str ((z8)))), .eq (.bool false), .eq (.bool false), .eq (.bool false), .byt 8 ((z8)), .eq (.string (str ((z8)))), .byt 8 (z8), .eq (.string (str (z8))), .eq (.bool false), .eq (.bool false)]
set_option maxRecDepth 100000 in
set_option maxHeartbeats 4000000 in
theorem known_any (w : World) (hG : GRows w) : Calls Tryd.prog 12 #[] w (RetTrue w) := by
  have HG := hid hG
  clear hG
  go_enter Tryd.func12, Tryd.ntmps12
  go_wp2_with fail
  refine (new_tag 0 none 0 0 _ (by omega) (by omega) (by omega)).mono ?_
  rintro e w1 ⟨rfl, hx1⟩
  have HX1 := hid hx1
  clear hx1
  go_wp2_with fail
  go_loopw [3] (fun i wr => ∃ k : Nat, k ≤ 3 ∧ i = .int .i64 k ∧ Ext w wr) (fun i _ => 3 - (intOf i).toNat)
  case atStart => exact ⟨0, by omega, rfl, HX1.out⟩
  case round =>
    clear HX1
    obtain ⟨k, hk, rfl, hx⟩ := hrel
    have HX := hid hx
    clear hx
    by_cases hlt : k < 3
    · have HK3 := hid hlt
      obtain ⟨t, ht⟩ : ∃ t, T3.at k = t := ⟨_, rfl⟩
      have HTG := hid (show tagsV.getD k undef = .int .i64 t.code by rw [← ht]; exact tagsV_get k hlt)
      have HSZ := hid (fun w => (ht ▸ size_any k w hlt : Calls Tryd.prog 16 #[.int .i64 k] w fun e w' => e = .returned (.int .i64 t.size) ∧ Ext w w'))
      have hz : blockL (T3.at k) (List.replicate (T3.at k).size 0) false z8 ≠ z8 := zne k hlt
      rw [ht] at hz
      have hzb := block_back t (List.replicate t.size 0) false z8 z8_length
      obtain ⟨BZ, hBZ⟩ : ∃ BZ, blockL t (List.replicate t.size 0) false z8 = BZ := ⟨_, rfl⟩
      rw [hBZ] at hz hzb
      have HNE := hid (str_ne hz)
      have HBZ := hid hBZ
      have HBB := hid hzb
      clear hz hzb hBZ ht
      go_wp2_with fail
      refine region_inv mixed rfl (by kernel_rfl) (kV (kn5 k t)) (kV_keep _) (forall_ops ⟨?_, ?_, ?_, ?_, ?_, ?_, ?_, ?_, ?_, ?_, ?_, ?_, ?_, trivial⟩) ?_
      · intro a w hk
        exact step_call rfl rfl (by simp only [List.map_toArray, List.map_nil]) cf15 (tags_any w) (fun e w1 h => h)
      · intro a w hk
        have s3 : a.tmps.getD 3 undef = .int .i64 k := hk.was 3 (by kernel_rfl) rfl
        exact step_move rfl rfl s3 rfl
      · intro a w hk
        obtain ⟨b19, s19, h19, g19⟩ := hk.val 0 19 (by kernel_rfl) rfl
        have s20 := hk.eq_ 1 20 (by kernel_rfl) rfl
        refine step_val (v := .pointer (some ⟨b19, k, none⟩)) (w' := w) rfl ?_ (Ext.refl w) ⟨_, rfl, h19, (g19 k HK3.out).trans (by rw [HTG.out])⟩
        have hk3 : (k : Int) < 3 := by have := HK3.out; omega
        go_simp
      · intro a w hk
        obtain ⟨p21, s21, h21, g21⟩ := hk.val 2 21 (by kernel_rfl) rfl
        refine step_val (v := .int .i64 t.code) (w' := w) rfl ?_ (Ext.refl w) rfl
        go_simp
      · intro a w hk
        have s3 : a.tmps.getD 3 undef = .int .i64 k := hk.was 3 (by kernel_rfl) rfl
        exact step_move rfl rfl s3 rfl
      · intro a w hk
        have s23 := hk.eq_ 4 23 (by kernel_rfl) rfl
        exact step_call rfl rfl (by simp only [List.map_toArray, List.map_cons, List.map_nil, Act.eval, s23] <;> rfl) cf16 (HSZ.out w) (fun e w1 h => by obtain ⟨rfl, hx⟩ := h; exact ⟨_, rfl, hx, rfl⟩)
      · intro a w hk
        have s24 := hk.eq_ 5 24 (by kernel_rfl) rfl
        refine step_val (v := .slice (some ⟨w.heap.size, 0, none⟩) t.size t.size) (w' := w.alloc (.cells (madeCells #[Value.int .u8 0] t.size) 5)) rfl ?_ (Ext.alloc _ _) (made_bycm t.size w (by have := size_le t; omega))
        simp only [execOp, Act.eval, s24]
        rw [Sem.run_bind, made_run t.size w (by have := size_le t; omega)]
        rfl
      · intro a w hk
        have s22 := hk.eq_ 3 22 (by kernel_rfl) rfl
        obtain ⟨A25, c25, s25, k25, m25, r25⟩ := hk.val 6 25 (by kernel_rfl) rfl
        exact step_call rfl rfl (by simp only [List.map_toArray, List.map_cons, List.map_nil, Act.eval, s22, s25] <;> rfl) cf14 (new_any t A25 c25 (List.replicate t.size 0) w r25 k25 m25) (fun e w1 h => retNew e w1 h)
      · intro a w hk
        obtain ⟨p26, s26, g26⟩ := hk.val 7 26 (by kernel_rfl) rfl
        exact step_move rfl rfl s26 ⟨p26, rfl, g26⟩
      · intro a w hk
        obtain ⟨p18, s18, g18⟩ := hk.val 8 18 (by kernel_rfl) rfl
        exact step_extract rfl rfl s18 rfl ⟨p18, rfl, g18⟩
      · intro a w hk
        obtain ⟨p18, s18, g18⟩ := hk.val 8 18 (by kernel_rfl) rfl
        exact step_extract rfl rfl s18 rfl rfl
      · intro a w hk
        obtain ⟨p27, s27, g27⟩ := hk.val 9 27 (by kernel_rfl) rfl
        exact step_assign rfl rfl s27 ⟨p27, rfl, g27⟩
      · intro a w hk
        have s28 := hk.eq_ 10 28 (by kernel_rfl) rfl
        exact step_assign rfl rfl s28 rfl
      · intro a w2 hf
        obtain ⟨b19, s19, h19, g19⟩ := hf.val 0 19 (by kernel_rfl) rfl
        have s20 := hf.eq_ 1 20 (by kernel_rfl) rfl
        have s22 := hf.eq_ 3 22 (by kernel_rfl) rfl
        have s23 := hf.eq_ 4 23 (by kernel_rfl) rfl
        have s24 := hf.eq_ 5 24 (by kernel_rfl) rfl
        obtain ⟨A25, c25, s25, k25, m25, r25⟩ := hf.val 6 25 (by kernel_rfl) rfl
        obtain ⟨p26, s26, g26⟩ := hf.val 7 26 (by kernel_rfl) rfl
        obtain ⟨p18, s18, g18⟩ := hf.val 8 18 (by kernel_rfl) rfl
        obtain ⟨p27, s27, g27⟩ := hf.val 9 27 (by kernel_rfl) rfl
        have s28 := hf.eq_ 10 28 (by kernel_rfl) rfl
        obtain ⟨p4, s4, g4⟩ := hf.val 11 4 (by kernel_rfl) rfl
        have s5 := hf.eq_ 12 5 (by kernel_rfl) rfl
        have hx := hf.ext
        have e := hf.frame
        clear hf
        simp only [regFrame, Act.put, List.setIfInBounds_toArray, List.set_cons_zero, List.set_cons_succ, s19, s20, s22, s23, s24, s25, s26, s18, s27, s28, s4, s5] at e
        generalize a.tmps.getD 21 undef = u21 at e
        clear s19 s20 s22 s23 s24 s25 s26 s18 s27 s28 s4 s5
        subst e
        have HX2 := hid (Ext.trans HX.out hx)
        have HS2 := hid g4
        clear hx g4 g27 g18 g26 r25 HX
        go_wp2_with (at_make; refine wpL_make rfl (.const (.int .i64 8)) (.const (.int .i64 8)) 22 rfl Tryd.underlying22 Tryd.info5 .i64 _ 8 rfl rfl rfl (by omega) w2.heap.size (Nat.le_refl _) ?_; intro w3 hown3 hb3 _)
        obtain ⟨A3, c3, e3, hc3, hm3, hr3⟩ := hown3.rdm (n := 8) rfl
        have HX3 := hid (Ext.trans HX2.out (show Ext w2 w3 from hb3))
        have HS3 := hid (HS2.out.later (show Ext w2 w3 from hb3))
        have HR3 := hid (show Rd w3 w3.heap.size A3 8 z8 from hr3)
        rw [e3]
        clear hown3 hb3 hr3 e3 HX2 HS2
        refine (block_any t (List.replicate t.size 0) false p4 A3 c3 z8 _ HS3.out (HG.out.later HX3.out) HR3.out hc3 hm3).mono ?_
        rw [HBZ.out]
        rintro e w4 ⟨v6, rfl, ho4, hx4⟩
        obtain ⟨A6, c6, rfl, hc6, hm6, hr6⟩ := ho4.rdm (n := 8) (by rw [← HBZ.out]; exact blockL_length _ _ _ _)
        have HX4 := hid (Ext.trans HX3.out hx4)
        have HS4 := hid (HS3.out.later hx4)
        have HR6 := hid hr6
        clear ho4 hx4 hr6 HX3 HS3 HR3
        go_wp2_with fail
        refine (block_any t (List.replicate t.size 0) true p4 A6 c6 BZ _ HS4.out (HG.out.later HX4.out) HR6.out hc6 hm6).mono ?_
        rw [show blockL t (List.replicate t.size 0) true BZ = z8 from HBB.out]
        rintro e w5 ⟨v8, rfl, ho5, hx5⟩
        obtain ⟨A8, c8, rfl, hc8, hm8, hr8⟩ := ho5.rdm (n := 8) z8_length
        have HX5 := hid (Ext.trans HX4.out hx5)
        have HR8 := hid hr8
        have HR6 := hid (HR6.out.later hx5)
        clear ho5 hx5 hr8 HX4 HS4
        go_wp2_with fail
        refine region_inv mixed rfl (by kernel_rfl) (kV (kn10 BZ)) (kV_keep _) (forall_ops ⟨?_, ?_, ?_, ?_, ?_, ?_, ?_, ?_, ?_, ?_, ?_, ?_, ?_, ?_, ?_, ?_, ?_, trivial⟩) ?_
        · intro a w hk
          have s6 : a.tmps.getD 6 undef = .slice A6 8 c6 := hk.was 6 (by kernel_rfl) rfl
          have r6 := (HR6.out).later hk.ext
          exact step_move rfl rfl s6 ⟨_, _, rfl, r6⟩
        · intro a w hk
          obtain ⟨A47, c47, s47, r47⟩ := hk.byt_ 0 47 (by kernel_rfl) rfl
          refine step_val (v := .int .i64 8) (w' := w) rfl ?_ (Ext.refl w) rfl
          go_simp
        · intro a w hk
          have s48 := hk.eq_ 1 48 (by kernel_rfl) rfl
          refine step_val (v := .bool false) (w' := w) rfl ?_ (Ext.refl w) rfl
          go_simp
        · intro a w hk
          have s49 := hk.eq_ 2 49 (by kernel_rfl) rfl
          exact step_move rfl rfl s49 rfl
        · intro a w hk
          refine hk.run 3 50 false false rfl (by kernel_rfl) rfl fun hw => ?_
          have s6 : a.tmps.getD 6 undef = .slice A6 8 c6 := hk.was 6 (by kernel_rfl) rfl
          have r6 := (HR6.out).later hk.ext
          exact step_move hw rfl s6 ⟨_, _, rfl, r6⟩
        · intro a w hk
          refine hk.run 3 50 false false rfl (by kernel_rfl) rfl fun hw => ?_
          obtain ⟨A51, c51, s51, r51⟩ := hk.byt_ 4 51 (by kernel_rfl) rfl
          exact step_conv hw rfl s51 (strq r51) rfl
        · intro a w hk
          refine hk.run 3 50 false false rfl (by kernel_rfl) rfl fun hw => ?_
          have s8 : a.tmps.getD 8 undef = .slice A8 8 c8 := hk.was 8 (by kernel_rfl) rfl
          have r8 := (HR8.out).later hk.ext
          exact step_move hw rfl s8 ⟨_, _, rfl, r8⟩
        · intro a w hk
          refine hk.run 3 50 false false rfl (by kernel_rfl) rfl fun hw => ?_
          obtain ⟨A53, c53, s53, r53⟩ := hk.byt_ 6 53 (by kernel_rfl) rfl
          exact step_conv hw rfl s53 (strq r53) rfl
        · intro a w hk
          refine hk.run 3 50 false false rfl (by kernel_rfl) rfl fun hw => ?_
          have s52 := hk.eq_ 5 52 (by kernel_rfl) rfl
          have s54 := hk.eq_ 7 54 (by kernel_rfl) rfl
          refine step_val (v := .bool false) (w' := w) hw ?_ (Ext.refl w) rfl
          have hne := HNE.out
          go_simp
        · intro a w hk
          have s50 := hk.eq_ 3 50 (by kernel_rfl) rfl
          have s55 := hk.eq_ 8 55 (by kernel_rfl) rfl
          exact step_pick (b := false) rfl rfl s50 s55 rfl
        · intro a w hk
          have s56 := hk.eq_ 9 56 (by kernel_rfl) rfl
          exact step_move rfl rfl s56 rfl
        · intro a w hk
          refine hk.run 10 57 false false rfl (by kernel_rfl) rfl fun hw => ?_
          have s8 : a.tmps.getD 8 undef = .slice A8 8 c8 := hk.was 8 (by kernel_rfl) rfl
          have r8 := (HR8.out).later hk.ext
          exact step_move hw rfl s8 ⟨_, _, rfl, r8⟩
        · intro a w hk
          refine hk.run 10 57 false false rfl (by kernel_rfl) rfl fun hw => ?_
          obtain ⟨A58, c58, s58, r58⟩ := hk.byt_ 11 58 (by kernel_rfl) rfl
          exact step_conv hw rfl s58 (strq r58) rfl
        · intro a w hk
          refine hk.run 10 57 false false rfl (by kernel_rfl) rfl fun hw => ?_
          refine step_val (v := .slice (some ⟨w.heap.size, 0, none⟩) 8 8) (w' := w.alloc (.cells (madeCells #[Value.int .u8 0] 8) 5)) hw ?_ (Ext.alloc _ _) (made_byt w)
          simp only [execOp, Act.eval]
          rw [Sem.run_bind, made8_run w]
          rfl
        · intro a w hk
          refine hk.run 10 57 false false rfl (by kernel_rfl) rfl fun hw => ?_
          obtain ⟨A60, c60, s60, r60⟩ := hk.byt_ 13 60 (by kernel_rfl) rfl
          exact step_conv hw rfl s60 (strq r60) rfl
        · intro a w hk
          refine hk.run 10 57 false false rfl (by kernel_rfl) rfl fun hw => ?_
          have s59 := hk.eq_ 12 59 (by kernel_rfl) rfl
          have s61 := hk.eq_ 14 61 (by kernel_rfl) rfl
          refine step_val (v := .bool false) (w' := w) hw ?_ (Ext.refl w) rfl
          go_simp
        · intro a w hk
          have s57 := hk.eq_ 10 57 (by kernel_rfl) rfl
          have s62 := hk.eq_ 15 62 (by kernel_rfl) rfl
          exact step_pick (b := false) rfl rfl s57 s62 rfl
        · intro a w6 hf
          obtain ⟨A47, c47, s47, r47⟩ := hf.val 0 47 (by kernel_rfl) rfl
          have s48 := hf.eq_ 1 48 (by kernel_rfl) rfl
          have s49 := hf.eq_ 2 49 (by kernel_rfl) rfl
          have s50 := hf.eq_ 3 50 (by kernel_rfl) rfl
          obtain ⟨A51, c51, s51, r51⟩ := hf.val 4 51 (by kernel_rfl) rfl
          have s52 := hf.eq_ 5 52 (by kernel_rfl) rfl
          obtain ⟨A53, c53, s53, r53⟩ := hf.val 6 53 (by kernel_rfl) rfl
          have s54 := hf.eq_ 7 54 (by kernel_rfl) rfl
          have s55 := hf.eq_ 8 55 (by kernel_rfl) rfl
          have s56 := hf.eq_ 9 56 (by kernel_rfl) rfl
          have s57 := hf.eq_ 10 57 (by kernel_rfl) rfl
          obtain ⟨A58, c58, s58, r58⟩ := hf.val 11 58 (by kernel_rfl) rfl
          have s59 := hf.eq_ 12 59 (by kernel_rfl) rfl
          obtain ⟨A60, c60, s60, r60⟩ := hf.val 13 60 (by kernel_rfl) rfl
          have s61 := hf.eq_ 14 61 (by kernel_rfl) rfl
          have s62 := hf.eq_ 15 62 (by kernel_rfl) rfl
          have s63 := hf.eq_ 16 63 (by kernel_rfl) rfl
          have hx := hf.ext
          have e := hf.frame
          clear hf
          simp only [regFrame, Act.put, List.setIfInBounds_toArray, List.set_cons_zero, List.set_cons_succ, s47, s48, s49, s50, s51, s52, s53, s54, s55, s56, s57, s58, s59, s60, s61, s62, s63] at e
          clear s47 s48 s49 s50 s51 s52 s53 s54 s55 s56 s57 s58 s59 s60 s61 s62 s63
          subst e
          have HX6 := hid (Ext.trans HX5.out hx)
          clear hx HX5
          go_wp2_with fail
          go_roundw
          case rel => exact ⟨k + 1, by omega, by go_num, HX6.out⟩
          case measure => simp [intOf]; omega
    · go_wp2_with fail
      go_ret
      exact ⟨rfl, HX.out⟩
end Go.Proofs.YtgkfohgeelfceaaDoor
