/- The law on tables of powers, walked; own text of the verifier. -/
import Derived.Test.YtcmhaomnabdopaaDoorX7
import Derived.Deep.DeepCutAuto
import Derived.Deep.CutBlock
namespace Go.Proofs.YtcmhaomnabdopaaDoor
open Go.RowKit
def powKsA (k m c q3 : Nat) (a1 : Int) : List K := [.eq (.int .i64 k), .eq (.int .i64 a1), .eq (.int .i64 m), .eq (.agg (cellsOf oneL).toArray), .eq (.int .u8 c), .byt 256 (mkL k m oneL c), .eq (.bool false), .eq (.int .i64 k), .eq (.int .i64 q3), .eq (.bool false), .eq (.bool false), .any, .any, .any, .eq (Value.bool false), .eq (Value.bool false), .any, .any, .any, .eq (Value.bool false), .eq (.bool true), .eq (.bool true)]
def powKsB (k m c q3 q5 : Nat) (a1 : Int) : List K := [.eq (.int .i64 k), .eq (.int .i64 a1), .eq (.int .i64 m), .eq (.agg (cellsOf oneL).toArray), .eq (.int .u8 c), .byt 256 (mkL k m oneL c), .eq (.bool false), .eq (.int .i64 k), .eq (.int .i64 q3), .eq (.bool true), .eq (.bool true), .eq (.int .i64 k), .eq (.int .i64 q5), .eq (.bool false), .eq (.bool false), .eq (.bool false), .any, .any, .any, .eq (Value.bool false), .eq (.bool true), .eq (.bool true)]
def powKsC (k m c q3 q5 q17 : Nat) (a1 : Int) (b : Bool) : List K := [.eq (.int .i64 k), .eq (.int .i64 a1), .eq (.int .i64 m), .eq (.agg (cellsOf oneL).toArray), .eq (.int .u8 c), .byt 256 (mkL k m oneL c), .eq (.bool b), .eq (.int .i64 k), .eq (.int .i64 q3), .eq (.bool true), .eq (.bool true), .eq (.int .i64 k), .eq (.int .i64 q5), .eq (.bool true), .eq (.bool true), .eq (.bool true), .eq (.int .i64 k), .eq (.int .i64 q17), .eq (.bool b), .eq (.bool b), .eq (.bool true), .eq (.bool true)]
set_option maxRecDepth 100000 in
set_option maxHeartbeats 8000000 in
theorem powers_walk (a0 a1 a2 : Int) (_w0 : (Lit.int .i64 a0).wf = true) (_w1 : (Lit.int .i64 a1).wf = true) (w2 : (Lit.int .u8 a2).wf = true) (w : World) (ho : Odd w) :
    Calls Tryd.prog 8 #[.int .i64 a0, .int .i64 a1, .int .u8 a2] w fun e w' => e = .returned (.bool true) ∧ Below w.heap.size w w' := by
  obtain ⟨c, rfl, hc⟩ := byte_arg w2
  clear w2 _w0 _w1
  go_enter Tryd.func8, Tryd.ntmps8
  go_wp2_with fail
  refine (known_any _ ho).mono ?_
  rintro e wk ⟨rfl, hxk⟩
  have HXK := hid hxk
  have HO1 := hid (ho.later hxk)
  clear hxk ho
  obtain ⟨k, hk⟩ : ∃ k : Nat, 1 + a0 % 254 = k := ⟨(1 + a0 % 254).toNat, by omega⟩
  have hk0 : 0 < k := by omega
  have hk1 : k < 255 := by omega
  have hk2 : a0 % 254 = (k : Int) - 1 := by omega
  have HK := hid hk2
  clear hk hk2
  go_wp2_with fail
  refine (within_any _ _ _ (by omega) (by omega)).mono ?_
  rintro e w' ⟨rfl, rfl⟩
  rw [HK.out]
  have hkk : (1 : Int) + ((k : Int) - 1) = k := by omega
  go_upto_region 5 with (refine wpList_store_row rfl 33 (.tmp 8) (.tmp 14) rfl wk.heap.size (cellsOf oneL).toArray rfl rfl 33 _ (heap_alloc_new wk _) (size33' rfl) rfl (cells_all _) ?_)
  clear hkk
  have hA := setRow_heap (wk.alloc (.cells (cellsOf (List.replicate 8 0)).toArray 33)) wk.heap.size _ (cellsOf oneL).toArray 33 (0, 0) (heap_alloc_new wk _)
  have hX := below_setRow (Ext.alloc wk (.cells (cellsOf (List.replicate 8 0)).toArray 33)) (g := wk.heap.size) (Nat.le_refl _) (cellsOf oneL).toArray
  rw [cells_zero8] at hA hX
  obtain ⟨W3, hW3⟩ : ∃ W3, (wk.alloc (.cells #[.int .u8 0, .int .u8 0, .int .u8 0, .int .u8 0, .int .u8 0, .int .u8 0, .int .u8 0, .int .u8 0] 33)).setRow wk.heap.size (cellsOf oneL).toArray = W3 := ⟨_, rfl⟩
  rw [hW3] at hA hX ⊢
  have HX3 := hid (Ext.trans HXK.out hX)
  have hO := hid (HO1.out.later hX)
  obtain ⟨G, hG⟩ : ∃ G, wk.heap.size = G := ⟨_, rfl⟩
  rw [hG] at hA ⊢
  have HA := hid (show Arr8 W3 G oneL from hA)
  clear hW3 hA hX hG
  have hF := modF_field a1
  have hwt := modF_wit a1
  have HMOD := hid (fun (w : World) => mod_any a1 w)
  obtain ⟨m, hm⟩ : ∃ m, modF a1 = m := ⟨_, rfl⟩
  rw [hm] at hF hwt HMOD
  have HM := hid hF.toIsRest
  have hT := powers_isT hF hwt hk0 hk1 hc
  have hke : k ≤ 1000 := by omega
  clear hm hF hwt
  have hno : ¬ (k % 3 ≠ 0 ∧ k % 5 ≠ 0 ∧ k % 17 ≠ 0) → isB (mkL k m oneL c) = false := fun h => isB_false fun h2 => h (hT.1 (by rw [mkL_length] at h2; exact h2))
  have hyes : (k % 3 ≠ 0 ∧ k % 5 ≠ 0 ∧ k % 17 ≠ 0) → isB (mkL k m oneL c) = true := fun h => isB_of (hT.2 h)
  clear hT
  obtain ⟨q3, hq3⟩ : ∃ q, k % 3 = q := ⟨_, rfl⟩
  obtain ⟨q5, hq5⟩ : ∃ q, k % 5 = q := ⟨_, rfl⟩
  obtain ⟨q17, hq17⟩ : ∃ q, k % 17 = q := ⟨_, rfl⟩
  have HR3 := hid (show (k : Int).tmod 3 = (q3 : Int) by rw [Int.tmod_eq_emod_of_nonneg (by omega)]; omega)
  have HR5 := hid (show (k : Int).tmod 5 = (q5 : Int) by rw [Int.tmod_eq_emod_of_nonneg (by omega)]; omega)
  have HR17 := hid (show (k : Int).tmod 17 = (q17 : Int) by rw [Int.tmod_eq_emod_of_nonneg (by omega)]; omega)
  rw [hq3, hq5, hq17] at hno hyes
  clear hq3 hq5 hq17
  by_cases c3 : q3 = 0
  · have HIS := hid (hno (by omega))
    have h3 := hid (show ((q3 : Int) != 0) = false by rw [c3]; rfl)
    clear hno hyes
    refine region_inv mixed rfl (by kernel_rfl) (kV (powKsA k m c q3 a1)) (kV_keep _) (forall_ops ⟨?_, ?_, ?_, ?_, ?_, ?_, ?_, ?_, ?_, ?_, ?_, ?_, ?_, ?_, ?_, ?_, ?_, ?_, ?_, ?_, ?_, ?_, trivial⟩) ?_
    · intro a w hk
      have s7 : a.tmps.getD 7 undef = .int .i64 k := hk.was 7 (by kernel_rfl) rfl
      exact step_move rfl rfl s7 rfl
    · intro a w hk
      have s1 : a.tmps.getD 1 undef = .int .i64 a1 := hk.was 1 (by kernel_rfl) rfl
      exact step_move rfl rfl s1 rfl
    · intro a w hk
      have s16 := hk.eq_ 1 16 (by kernel_rfl) rfl
      exact step_call rfl rfl (by simp only [List.map_toArray, List.map_cons, List.map_nil, Act.eval, s16] <;> rfl) cf22 (HMOD.out w) (fun e w' h => retX e w' h)
    · intro a w hk
      have s8 : a.tmps.getD 8 undef = .pointer (some ⟨G, 0, none⟩) := hk.was 8 (by kernel_rfl) rfl
      exact step_val (v := .agg (cellsOf oneL).toArray) (w' := w) rfl (exec_load33 rfl s8 (HA.out.later hk.ext) rfl) (Ext.refl w) rfl
    · intro a w hk
      have s2 : a.tmps.getD 2 undef = .int .u8 c := hk.was 2 (by kernel_rfl) rfl
      exact step_move rfl rfl s2 rfl
    · intro a w hk
      have s15 := hk.eq_ 0 15 (by kernel_rfl) rfl
      have s17 := hk.eq_ 2 17 (by kernel_rfl) rfl
      have s18 := hk.eq_ 3 18 (by kernel_rfl) rfl
      have s19 := hk.eq_ 4 19 (by kernel_rfl) rfl
      exact step_call rfl rfl (by simp only [List.map_toArray, List.map_cons, List.map_nil, Act.eval, s15, s17, s18, s19] <;> rfl) cf23 (make_any k m c oneL w rfl (by omega) HM.out hc (hO.out.later hk.ext)) (RetB.k (mkL_length _ _ _ _))
    · intro a w hk
      obtain ⟨A20, c20, s20, r20⟩ := hk.byt_ 5 20 (by kernel_rfl) rfl
      exact step_call rfl rfl (by simp only [List.map_toArray, List.map_cons, List.map_nil, Act.eval, s20] <;> rfl) cf17 (is_any A20 256 c20 (mkL k m oneL c) w r20 (by omega)) (fun e w' h => retX e w' ⟨h.1.trans (by rw [HIS.out]), h.2⟩)
    · intro a w hk
      have s7 : a.tmps.getD 7 undef = .int .i64 k := hk.was 7 (by kernel_rfl) rfl
      exact step_move rfl rfl s7 rfl
    · intro a w hk
      have s22 := hk.eq_ 7 22 (by kernel_rfl) rfl
      refine step_val (v := .int .i64 q3) (w' := w) rfl ?_ (Ext.refl w) rfl
      have hr := HR3.out
      go_simp
    · intro a w hk
      have s23 := hk.eq_ 8 23 (by kernel_rfl) rfl
      refine step_val (v := .bool false) (w' := w) rfl ?_ (Ext.refl w) rfl
      have h := h3.out
      go_simp
    · intro a w hk
      have s24 := hk.eq_ 9 24 (by kernel_rfl) rfl
      exact step_move rfl rfl s24 rfl
    · intro a w hk
      refine hk.run 10 25 false true rfl (by kernel_rfl) rfl fun hw => ?_
      exact step_skip hw trivial
    · intro a w hk
      refine hk.run 10 25 false true rfl (by kernel_rfl) rfl fun hw => ?_
      exact step_skip hw trivial
    · intro a w hk
      refine hk.run 10 25 false true rfl (by kernel_rfl) rfl fun hw => ?_
      exact step_skip hw trivial
    · intro a w hk
      have s25 := hk.eq_ 10 25 (by kernel_rfl) rfl
      exact step_pick (b := false) rfl rfl s25 rfl rfl
    · intro a w hk
      have s29 := hk.eq_ 14 29 (by kernel_rfl) rfl
      exact step_move rfl rfl s29 rfl
    · intro a w hk
      refine hk.run 15 30 false true rfl (by kernel_rfl) rfl fun hw => ?_
      exact step_skip hw trivial
    · intro a w hk
      refine hk.run 15 30 false true rfl (by kernel_rfl) rfl fun hw => ?_
      exact step_skip hw trivial
    · intro a w hk
      refine hk.run 15 30 false true rfl (by kernel_rfl) rfl fun hw => ?_
      exact step_skip hw trivial
    · intro a w hk
      have s30 := hk.eq_ 15 30 (by kernel_rfl) rfl
      exact step_pick (b := false) rfl rfl s30 rfl rfl
    · intro a w hk
      have s21 := hk.eq_ 6 21 (by kernel_rfl) rfl
      have s34 := hk.eq_ 19 34 (by kernel_rfl) rfl
      refine step_val (v := .bool true) (w' := w) rfl ?_ (Ext.refl w) rfl
      go_simp
    · intro a w hk
      have s35 := hk.eq_ 20 35 (by kernel_rfl) rfl
      exact step_assign rfl rfl s35 rfl
    · intro a w1 hf
      have s15 := hf.eq_ 0 15 (by kernel_rfl) rfl
      have s16 := hf.eq_ 1 16 (by kernel_rfl) rfl
      have s17 := hf.eq_ 2 17 (by kernel_rfl) rfl
      have s18 := hf.eq_ 3 18 (by kernel_rfl) rfl
      have s19 := hf.eq_ 4 19 (by kernel_rfl) rfl
      obtain ⟨A20, c20, s20, r20⟩ := hf.val 5 20 (by kernel_rfl) rfl
      have s21 := hf.eq_ 6 21 (by kernel_rfl) rfl
      have s22 := hf.eq_ 7 22 (by kernel_rfl) rfl
      have s23 := hf.eq_ 8 23 (by kernel_rfl) rfl
      have s24 := hf.eq_ 9 24 (by kernel_rfl) rfl
      have s25 := hf.eq_ 10 25 (by kernel_rfl) rfl
      have s29 := hf.eq_ 14 29 (by kernel_rfl) rfl
      have s30 := hf.eq_ 15 30 (by kernel_rfl) rfl
      have s34 := hf.eq_ 19 34 (by kernel_rfl) rfl
      have s35 := hf.eq_ 20 35 (by kernel_rfl) rfl
      have s6 := hf.eq_ 21 6 (by kernel_rfl) rfl
      have hx := hf.ext
      have e := hf.frame
      clear hf
      simp only [regFrame, Act.put, List.setIfInBounds_toArray, List.set_cons_zero, List.set_cons_succ, s15, s16, s17, s18, s19, s20, s21, s22, s23, s24, s25, s29, s30, s34, s35, s6] at e
      generalize a.tmps.getD 26 undef = u26 at e
      generalize a.tmps.getD 27 undef = u27 at e
      generalize a.tmps.getD 28 undef = u28 at e
      generalize a.tmps.getD 31 undef = u31 at e
      generalize a.tmps.getD 32 undef = u32 at e
      generalize a.tmps.getD 33 undef = u33 at e
      clear s15 s16 s17 s18 s19 s20 s21 s22 s23 s24 s25 s29 s30 s34 s35 s6
      subst e
      have HX4 := hid (Ext.trans HX3.out hx)
      clear hx
      go_wp2_with fail
      go_ret
      exact ⟨rfl, HX4.out⟩
  · have h3 := hid (show ((q3 : Int) != 0) = true by simp; omega)
    by_cases c5 : q5 = 0
    · have HIS := hid (hno (by omega))
      have h5 := hid (show ((q5 : Int) != 0) = false by rw [c5]; rfl)
      clear hno hyes
      refine region_inv mixed rfl (by kernel_rfl) (kV (powKsB k m c q3 q5 a1)) (kV_keep _) (forall_ops ⟨?_, ?_, ?_, ?_, ?_, ?_, ?_, ?_, ?_, ?_, ?_, ?_, ?_, ?_, ?_, ?_, ?_, ?_, ?_, ?_, ?_, ?_, trivial⟩) ?_
      · intro a w hk
        have s7 : a.tmps.getD 7 undef = .int .i64 k := hk.was 7 (by kernel_rfl) rfl
        exact step_move rfl rfl s7 rfl
      · intro a w hk
        have s1 : a.tmps.getD 1 undef = .int .i64 a1 := hk.was 1 (by kernel_rfl) rfl
        exact step_move rfl rfl s1 rfl
      · intro a w hk
        have s16 := hk.eq_ 1 16 (by kernel_rfl) rfl
        exact step_call rfl rfl (by simp only [List.map_toArray, List.map_cons, List.map_nil, Act.eval, s16] <;> rfl) cf22 (HMOD.out w) (fun e w' h => retX e w' h)
      · intro a w hk
        have s8 : a.tmps.getD 8 undef = .pointer (some ⟨G, 0, none⟩) := hk.was 8 (by kernel_rfl) rfl
        exact step_val (v := .agg (cellsOf oneL).toArray) (w' := w) rfl (exec_load33 rfl s8 (HA.out.later hk.ext) rfl) (Ext.refl w) rfl
      · intro a w hk
        have s2 : a.tmps.getD 2 undef = .int .u8 c := hk.was 2 (by kernel_rfl) rfl
        exact step_move rfl rfl s2 rfl
      · intro a w hk
        have s15 := hk.eq_ 0 15 (by kernel_rfl) rfl
        have s17 := hk.eq_ 2 17 (by kernel_rfl) rfl
        have s18 := hk.eq_ 3 18 (by kernel_rfl) rfl
        have s19 := hk.eq_ 4 19 (by kernel_rfl) rfl
        exact step_call rfl rfl (by simp only [List.map_toArray, List.map_cons, List.map_nil, Act.eval, s15, s17, s18, s19] <;> rfl) cf23 (make_any k m c oneL w rfl (by omega) HM.out hc (hO.out.later hk.ext)) (RetB.k (mkL_length _ _ _ _))
      · intro a w hk
        obtain ⟨A20, c20, s20, r20⟩ := hk.byt_ 5 20 (by kernel_rfl) rfl
        exact step_call rfl rfl (by simp only [List.map_toArray, List.map_cons, List.map_nil, Act.eval, s20] <;> rfl) cf17 (is_any A20 256 c20 (mkL k m oneL c) w r20 (by omega)) (fun e w' h => retX e w' ⟨h.1.trans (by rw [HIS.out]), h.2⟩)
      · intro a w hk
        have s7 : a.tmps.getD 7 undef = .int .i64 k := hk.was 7 (by kernel_rfl) rfl
        exact step_move rfl rfl s7 rfl
      · intro a w hk
        have s22 := hk.eq_ 7 22 (by kernel_rfl) rfl
        refine step_val (v := .int .i64 q3) (w' := w) rfl ?_ (Ext.refl w) rfl
        have hr := HR3.out
        go_simp
      · intro a w hk
        have s23 := hk.eq_ 8 23 (by kernel_rfl) rfl
        refine step_val (v := .bool true) (w' := w) rfl ?_ (Ext.refl w) rfl
        have h := h3.out
        go_simp
      · intro a w hk
        have s24 := hk.eq_ 9 24 (by kernel_rfl) rfl
        exact step_move rfl rfl s24 rfl
      · intro a w hk
        refine hk.run 10 25 true true rfl (by kernel_rfl) rfl fun hw => ?_
        have s7 : a.tmps.getD 7 undef = .int .i64 k := hk.was 7 (by kernel_rfl) rfl
        exact step_move hw rfl s7 rfl
      · intro a w hk
        refine hk.run 10 25 true true rfl (by kernel_rfl) rfl fun hw => ?_
        have s26 := hk.eq_ 11 26 (by kernel_rfl) rfl
        refine step_val (v := .int .i64 q5) (w' := w) hw ?_ (Ext.refl w) rfl
        have hr := HR5.out
        go_simp
      · intro a w hk
        refine hk.run 10 25 true true rfl (by kernel_rfl) rfl fun hw => ?_
        have s27 := hk.eq_ 12 27 (by kernel_rfl) rfl
        refine step_val (v := .bool false) (w' := w) hw ?_ (Ext.refl w) rfl
        have h := h5.out
        go_simp
      · intro a w hk
        have s25 := hk.eq_ 10 25 (by kernel_rfl) rfl
        have s28 := hk.eq_ 13 28 (by kernel_rfl) rfl
        exact step_pick (b := true) rfl rfl s25 s28 rfl
      · intro a w hk
        have s29 := hk.eq_ 14 29 (by kernel_rfl) rfl
        exact step_move rfl rfl s29 rfl
      · intro a w hk
        refine hk.run 15 30 false true rfl (by kernel_rfl) rfl fun hw => ?_
        exact step_skip hw trivial
      · intro a w hk
        refine hk.run 15 30 false true rfl (by kernel_rfl) rfl fun hw => ?_
        exact step_skip hw trivial
      · intro a w hk
        refine hk.run 15 30 false true rfl (by kernel_rfl) rfl fun hw => ?_
        exact step_skip hw trivial
      · intro a w hk
        have s30 := hk.eq_ 15 30 (by kernel_rfl) rfl
        exact step_pick (b := false) rfl rfl s30 rfl rfl
      · intro a w hk
        have s21 := hk.eq_ 6 21 (by kernel_rfl) rfl
        have s34 := hk.eq_ 19 34 (by kernel_rfl) rfl
        refine step_val (v := .bool true) (w' := w) rfl ?_ (Ext.refl w) rfl
        go_simp
      · intro a w hk
        have s35 := hk.eq_ 20 35 (by kernel_rfl) rfl
        exact step_assign rfl rfl s35 rfl
      · intro a w1 hf
        have s15 := hf.eq_ 0 15 (by kernel_rfl) rfl
        have s16 := hf.eq_ 1 16 (by kernel_rfl) rfl
        have s17 := hf.eq_ 2 17 (by kernel_rfl) rfl
        have s18 := hf.eq_ 3 18 (by kernel_rfl) rfl
        have s19 := hf.eq_ 4 19 (by kernel_rfl) rfl
        obtain ⟨A20, c20, s20, r20⟩ := hf.val 5 20 (by kernel_rfl) rfl
        have s21 := hf.eq_ 6 21 (by kernel_rfl) rfl
        have s22 := hf.eq_ 7 22 (by kernel_rfl) rfl
        have s23 := hf.eq_ 8 23 (by kernel_rfl) rfl
        have s24 := hf.eq_ 9 24 (by kernel_rfl) rfl
        have s25 := hf.eq_ 10 25 (by kernel_rfl) rfl
        have s26 := hf.eq_ 11 26 (by kernel_rfl) rfl
        have s27 := hf.eq_ 12 27 (by kernel_rfl) rfl
        have s28 := hf.eq_ 13 28 (by kernel_rfl) rfl
        have s29 := hf.eq_ 14 29 (by kernel_rfl) rfl
        have s30 := hf.eq_ 15 30 (by kernel_rfl) rfl
        have s34 := hf.eq_ 19 34 (by kernel_rfl) rfl
        have s35 := hf.eq_ 20 35 (by kernel_rfl) rfl
        have s6 := hf.eq_ 21 6 (by kernel_rfl) rfl
        have hx := hf.ext
        have e := hf.frame
        clear hf
        simp only [regFrame, Act.put, List.setIfInBounds_toArray, List.set_cons_zero, List.set_cons_succ, s15, s16, s17, s18, s19, s20, s21, s22, s23, s24, s25, s26, s27, s28, s29, s30, s34, s35, s6] at e
        generalize a.tmps.getD 31 undef = u31 at e
        generalize a.tmps.getD 32 undef = u32 at e
        generalize a.tmps.getD 33 undef = u33 at e
        clear s15 s16 s17 s18 s19 s20 s21 s22 s23 s24 s25 s26 s27 s28 s29 s30 s34 s35 s6
        subst e
        have HX4 := hid (Ext.trans HX3.out hx)
        clear hx
        go_wp2_with fail
        go_ret
        exact ⟨rfl, HX4.out⟩
    · have h5 := hid (show ((q5 : Int) != 0) = true by simp; omega)
      have hb : isB (mkL k m oneL c) = ((q17 : Int) != 0) := by
        by_cases c17 : q17 = 0
        · rw [hno (by omega), c17]; rfl
        · rw [hyes ⟨c3, c5, c17⟩]
          have : ((q17 : Int) != 0) = true := by simp; omega
          exact this.symm
      obtain ⟨b, hbe⟩ : ∃ b, ((q17 : Int) != 0) = b := ⟨_, rfl⟩
      rw [hbe] at hb
      have HIS := hid hb
      have h17 := hid hbe
      clear hno hyes hb hbe
      refine region_inv mixed rfl (by kernel_rfl) (kV (powKsC k m c q3 q5 q17 a1 b)) (kV_keep _) (forall_ops ⟨?_, ?_, ?_, ?_, ?_, ?_, ?_, ?_, ?_, ?_, ?_, ?_, ?_, ?_, ?_, ?_, ?_, ?_, ?_, ?_, ?_, ?_, trivial⟩) ?_
      · intro a w hk
        have s7 : a.tmps.getD 7 undef = .int .i64 k := hk.was 7 (by kernel_rfl) rfl
        exact step_move rfl rfl s7 rfl
      · intro a w hk
        have s1 : a.tmps.getD 1 undef = .int .i64 a1 := hk.was 1 (by kernel_rfl) rfl
        exact step_move rfl rfl s1 rfl
      · intro a w hk
        have s16 := hk.eq_ 1 16 (by kernel_rfl) rfl
        exact step_call rfl rfl (by simp only [List.map_toArray, List.map_cons, List.map_nil, Act.eval, s16] <;> rfl) cf22 (HMOD.out w) (fun e w' h => retX e w' h)
      · intro a w hk
        have s8 : a.tmps.getD 8 undef = .pointer (some ⟨G, 0, none⟩) := hk.was 8 (by kernel_rfl) rfl
        exact step_val (v := .agg (cellsOf oneL).toArray) (w' := w) rfl (exec_load33 rfl s8 (HA.out.later hk.ext) rfl) (Ext.refl w) rfl
      · intro a w hk
        have s2 : a.tmps.getD 2 undef = .int .u8 c := hk.was 2 (by kernel_rfl) rfl
        exact step_move rfl rfl s2 rfl
      · intro a w hk
        have s15 := hk.eq_ 0 15 (by kernel_rfl) rfl
        have s17 := hk.eq_ 2 17 (by kernel_rfl) rfl
        have s18 := hk.eq_ 3 18 (by kernel_rfl) rfl
        have s19 := hk.eq_ 4 19 (by kernel_rfl) rfl
        exact step_call rfl rfl (by simp only [List.map_toArray, List.map_cons, List.map_nil, Act.eval, s15, s17, s18, s19] <;> rfl) cf23 (make_any k m c oneL w rfl (by omega) HM.out hc (hO.out.later hk.ext)) (RetB.k (mkL_length _ _ _ _))
      · intro a w hk
        obtain ⟨A20, c20, s20, r20⟩ := hk.byt_ 5 20 (by kernel_rfl) rfl
        exact step_call rfl rfl (by simp only [List.map_toArray, List.map_cons, List.map_nil, Act.eval, s20] <;> rfl) cf17 (is_any A20 256 c20 (mkL k m oneL c) w r20 (by omega)) (fun e w' h => retX e w' ⟨h.1.trans (by rw [HIS.out]), h.2⟩)
      · intro a w hk
        have s7 : a.tmps.getD 7 undef = .int .i64 k := hk.was 7 (by kernel_rfl) rfl
        exact step_move rfl rfl s7 rfl
      · intro a w hk
        have s22 := hk.eq_ 7 22 (by kernel_rfl) rfl
        refine step_val (v := .int .i64 q3) (w' := w) rfl ?_ (Ext.refl w) rfl
        have hr := HR3.out
        go_simp
      · intro a w hk
        have s23 := hk.eq_ 8 23 (by kernel_rfl) rfl
        refine step_val (v := .bool true) (w' := w) rfl ?_ (Ext.refl w) rfl
        have h := h3.out
        go_simp
      · intro a w hk
        have s24 := hk.eq_ 9 24 (by kernel_rfl) rfl
        exact step_move rfl rfl s24 rfl
      · intro a w hk
        refine hk.run 10 25 true true rfl (by kernel_rfl) rfl fun hw => ?_
        have s7 : a.tmps.getD 7 undef = .int .i64 k := hk.was 7 (by kernel_rfl) rfl
        exact step_move hw rfl s7 rfl
      · intro a w hk
        refine hk.run 10 25 true true rfl (by kernel_rfl) rfl fun hw => ?_
        have s26 := hk.eq_ 11 26 (by kernel_rfl) rfl
        refine step_val (v := .int .i64 q5) (w' := w) hw ?_ (Ext.refl w) rfl
        have hr := HR5.out
        go_simp
      · intro a w hk
        refine hk.run 10 25 true true rfl (by kernel_rfl) rfl fun hw => ?_
        have s27 := hk.eq_ 12 27 (by kernel_rfl) rfl
        refine step_val (v := .bool true) (w' := w) hw ?_ (Ext.refl w) rfl
        have h := h5.out
        go_simp
      · intro a w hk
        have s25 := hk.eq_ 10 25 (by kernel_rfl) rfl
        have s28 := hk.eq_ 13 28 (by kernel_rfl) rfl
        exact step_pick (b := true) rfl rfl s25 s28 rfl
      · intro a w hk
        have s29 := hk.eq_ 14 29 (by kernel_rfl) rfl
        exact step_move rfl rfl s29 rfl
      · intro a w hk
        refine hk.run 15 30 true true rfl (by kernel_rfl) rfl fun hw => ?_
        have s7 : a.tmps.getD 7 undef = .int .i64 k := hk.was 7 (by kernel_rfl) rfl
        exact step_move hw rfl s7 rfl
      · intro a w hk
        refine hk.run 15 30 true true rfl (by kernel_rfl) rfl fun hw => ?_
        have s31 := hk.eq_ 16 31 (by kernel_rfl) rfl
        refine step_val (v := .int .i64 q17) (w' := w) hw ?_ (Ext.refl w) rfl
        have hr := HR17.out
        go_simp
      · intro a w hk
        refine hk.run 15 30 true true rfl (by kernel_rfl) rfl fun hw => ?_
        have s32 := hk.eq_ 17 32 (by kernel_rfl) rfl
        refine step_val (v := .bool b) (w' := w) hw ?_ (Ext.refl w) rfl
        have h := h17.out
        go_simp
      · intro a w hk
        have s30 := hk.eq_ 15 30 (by kernel_rfl) rfl
        have s33 := hk.eq_ 18 33 (by kernel_rfl) rfl
        exact step_pick (b := true) rfl rfl s30 s33 rfl
      · intro a w hk
        have s21 := hk.eq_ 6 21 (by kernel_rfl) rfl
        have s34 := hk.eq_ 19 34 (by kernel_rfl) rfl
        refine step_val (v := .bool true) (w' := w) rfl ?_ (Ext.refl w) rfl
        go_simp
      · intro a w hk
        have s35 := hk.eq_ 20 35 (by kernel_rfl) rfl
        exact step_assign rfl rfl s35 rfl
      · intro a w1 hf
        have s15 := hf.eq_ 0 15 (by kernel_rfl) rfl
        have s16 := hf.eq_ 1 16 (by kernel_rfl) rfl
        have s17 := hf.eq_ 2 17 (by kernel_rfl) rfl
        have s18 := hf.eq_ 3 18 (by kernel_rfl) rfl
        have s19 := hf.eq_ 4 19 (by kernel_rfl) rfl
        obtain ⟨A20, c20, s20, r20⟩ := hf.val 5 20 (by kernel_rfl) rfl
        have s21 := hf.eq_ 6 21 (by kernel_rfl) rfl
        have s22 := hf.eq_ 7 22 (by kernel_rfl) rfl
        have s23 := hf.eq_ 8 23 (by kernel_rfl) rfl
        have s24 := hf.eq_ 9 24 (by kernel_rfl) rfl
        have s25 := hf.eq_ 10 25 (by kernel_rfl) rfl
        have s26 := hf.eq_ 11 26 (by kernel_rfl) rfl
        have s27 := hf.eq_ 12 27 (by kernel_rfl) rfl
        have s28 := hf.eq_ 13 28 (by kernel_rfl) rfl
        have s29 := hf.eq_ 14 29 (by kernel_rfl) rfl
        have s30 := hf.eq_ 15 30 (by kernel_rfl) rfl
        have s31 := hf.eq_ 16 31 (by kernel_rfl) rfl
        have s32 := hf.eq_ 17 32 (by kernel_rfl) rfl
        have s33 := hf.eq_ 18 33 (by kernel_rfl) rfl
        have s34 := hf.eq_ 19 34 (by kernel_rfl) rfl
        have s35 := hf.eq_ 20 35 (by kernel_rfl) rfl
        have s6 := hf.eq_ 21 6 (by kernel_rfl) rfl
        have hx := hf.ext
        have e := hf.frame
        clear hf
        simp only [regFrame, Act.put, List.setIfInBounds_toArray, List.set_cons_zero, List.set_cons_succ, s15, s16, s17, s18, s19, s20, s21, s22, s23, s24, s25, s26, s27, s28, s29, s30, s31, s32, s33, s34, s35, s6] at e
        clear s15 s16 s17 s18 s19 s20 s21 s22 s23 s24 s25 s26 s27 s28 s29 s30 s31 s32 s33 s34 s35 s6
        subst e
        have HX4 := hid (Ext.trans HX3.out hx)
        clear hx
        go_wp2_with fail
        go_ret
        exact ⟨rfl, HX4.out⟩
end Go.Proofs.YtcmhaomnabdopaaDoor
