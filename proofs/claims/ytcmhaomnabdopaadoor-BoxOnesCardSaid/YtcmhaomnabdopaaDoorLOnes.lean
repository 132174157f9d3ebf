/- The law on rows that take each bit by itself, walked; own text of the verifier. -/
import Derived.Test.YtcmhaomnabdopaaDoorX7
import Derived.Deep.DeepCutAuto
import Derived.Deep.CutBlock
namespace Go.Proofs.YtcmhaomnabdopaaDoor
open Go.RowKit
theorem xor_io (a b : Nat) (ha : a < 256) (hb : b < 256) : bits .xor .u8 (a : Int) (b : Int) = ((a ^^^ b : Nat) : Int) := u8_xor_nat a b ha hb
def onesKs (e m : Nat) (a2 : Int) : List K := [.eq (.int .i64 a2), .eq (.int .i64 m), .eq (.agg (cellsOf oneL).toArray), .byt 256 (mkL e m oneL 0), .byt 256 (mkL e m oneL 0)]
theorem ones_is {m x : Nat} (hF : IsField m) (hx : x < 256) : nb (mkL 1 m oneL 0) x = x := by
  rw [mkL_nb (by omega) hx, mk_one hF.toIsRest, gp_one hF.toIsRest hx, Nat.xor_zero]
theorem ones_back {m x : Nat} (hF : IsField m) (hx : x < 256) : nb (mkL 254 m oneL 0) x < 256 ∧ nb (mkL 254 m oneL 0) (nb (mkL 254 m oneL 0) x) = x := by
  have h1 := nb_lt (mkL 254 m oneL 0) x
  refine ⟨h1, ?_⟩
  rw [mkL_nb (by omega) h1, mkL_nb (by omega) hx, mk_one hF.toIsRest, mk_one hF.toIsRest, Nat.xor_zero, Nat.xor_zero]
  exact pow_back hF (by omega) (by omega) hx
theorem ones_isT {m : Nat} (hF : IsField m) : IsT 256 (mkL 254 m oneL 0) := (mk_isT (by omega)).2 fun i j hi hj he => by
  rw [mk_one hF.toIsRest, mk_one hF.toIsRest] at he
  exact pow_inj hF (by omega) (by omega) (by omega) hi hj (xor_cancel he)
set_option maxRecDepth 100000 in
set_option maxHeartbeats 8000000 in
theorem ones_walk (a0 a1 a2 : Int) (w0 : (Lit.int .u8 a0).wf = true) (w1 : (Lit.int .u8 a1).wf = true) (_w2 : (Lit.int .i64 a2).wf = true) (w : World) (ho : Odd w) :
    Calls Tryd.prog 7 #[.int .u8 a0, .int .u8 a1, .int .i64 a2] w fun e w' => e = .returned (.bool true) ∧ Below w.heap.size w w' := by
  obtain ⟨x, rfl, hx⟩ := byte_arg w0
  obtain ⟨c, rfl, hc⟩ := byte_arg w1
  clear w0 w1 _w2
  go_enter Tryd.func7, Tryd.ntmps7
  go_wp2_with fail
  refine (known_any _ ho).mono ?_
  rintro e wk ⟨rfl, hxk⟩
  have HXK := hid hxk
  have HO1 := hid (ho.later hxk)
  clear hxk ho
  go_upto_region 4 with (refine wpList_store_row rfl 33 (.tmp 7) (.tmp 13) rfl wk.heap.size (cellsOf oneL).toArray rfl rfl 33 _ (heap_alloc_new wk _) (size33' rfl) rfl (cells_all _) ?_)
  have hA := setRow_heap (wk.alloc (.cells (cellsOf (List.replicate 8 0)).toArray 33)) wk.heap.size _ (cellsOf oneL).toArray 33 (0, 0) (heap_alloc_new wk _)
  have hX := below_setRow (Ext.alloc wk (.cells (cellsOf (List.replicate 8 0)).toArray 33)) (g := wk.heap.size) (Nat.le_refl _) (cellsOf oneL).toArray
  rw [cells_zero8] at hA hX
  obtain ⟨W3, hW3⟩ : ∃ W3, (wk.alloc (.cells #[.int .u8 0, .int .u8 0, .int .u8 0, .int .u8 0, .int .u8 0, .int .u8 0, .int .u8 0, .int .u8 0] 33)).setRow wk.heap.size (cellsOf oneL).toArray = W3 := ⟨_, rfl⟩
  rw [hW3] at hA hX ⊢
  have HX3 := hid (Ext.trans HXK.out hX)
  have hO := hid (HO1.out.later hX)
  obtain ⟨G, hG⟩ : ∃ G, wk.heap.size = G := ⟨_, rfl⟩
  rw [hG] at hA ⊢
  have HA := hid (show Arr8 W3 G oneL from hA)
  clear hW3 hA hX hG HO1 HXK
  have hF := modF_field a2
  have HMOD := hid (fun (w : World) => mod_any a2 w)
  obtain ⟨m, hm⟩ : ∃ m, modF a2 = m := ⟨_, rfl⟩
  rw [hm] at hF HMOD
  have HM := hid hF.toIsRest
  have HF := hid hF
  clear hm hF
  refine region_inv mixed rfl (by kernel_rfl) (kV (onesKs 1 m a2)) (kV_keep _) (forall_ops ⟨?_, ?_, ?_, ?_, ?_, trivial⟩) ?_
  · intro a w hk
    have s2 : a.tmps.getD 2 undef = .int .i64 a2 := hk.was 2 (by kernel_rfl) rfl
    exact step_move rfl rfl s2 rfl
  · intro a w hk
    have s14 := hk.eq_ 0 14 (by kernel_rfl) rfl
    exact step_call rfl rfl (by simp only [List.map_toArray, List.map_cons, List.map_nil, Act.eval, s14] <;> rfl) cf22 (HMOD.out w) (fun e w' h => retX e w' h)
  · intro a w hk
    have s7 : a.tmps.getD 7 undef = .pointer (some ⟨G, 0, none⟩) := hk.was 7 (by kernel_rfl) rfl
    exact step_val (v := .agg (cellsOf oneL).toArray) (w' := w) rfl (exec_load33 rfl s7 (HA.out.later hk.ext) rfl) (Ext.refl w) rfl
  · intro a w hk
    have s15 := hk.eq_ 1 15 (by kernel_rfl) rfl
    have s16 := hk.eq_ 2 16 (by kernel_rfl) rfl
    exact step_call rfl rfl (by simp only [List.map_toArray, List.map_cons, List.map_nil, Act.eval, s15, s16] <;> rfl) cf23 (make_any 1 m 0 oneL w rfl (by omega) HM.out (by omega) (hO.out.later hk.ext)) (RetB.k (mkL_length _ _ _ _))
  · intro a w hk
    obtain ⟨A17, c17, s17, r17⟩ := hk.byt_ 3 17 (by kernel_rfl) rfl
    exact step_assign rfl rfl s17 ⟨_, _, rfl, r17⟩
  · intro a w4 hf
    have s14 := hf.eq_ 0 14 (by kernel_rfl) rfl
    have s15 := hf.eq_ 1 15 (by kernel_rfl) rfl
    have s16 := hf.eq_ 2 16 (by kernel_rfl) rfl
    obtain ⟨A17, c17, s17, r17⟩ := hf.val 3 17 (by kernel_rfl) rfl
    obtain ⟨A8, c8, s8, r8⟩ := hf.val 4 8 (by kernel_rfl) rfl
    have hx := hf.ext
    have e := hf.frame
    clear hf
    simp only [regFrame, Act.put, List.setIfInBounds_toArray, List.set_cons_zero, List.set_cons_succ, s14, s15, s16, s17, s8] at e
    clear s14 s15 s16 s17 s8
    subst e
    have HX4 := hid (Ext.trans HX3.out hx)
    have hO := hid (hO.out.later hx)
    have HA := hid (HA.out.later hx)
    have HT := hid r8
    clear hx r8
    go_upto_region 5 with fail
    refine region_inv mixed rfl (by kernel_rfl) (kV (onesKs 254 m a2)) (kV_keep _) (forall_ops ⟨?_, ?_, ?_, ?_, ?_, trivial⟩) ?_
    · intro a w hk
      have s2 : a.tmps.getD 2 undef = .int .i64 a2 := hk.was 2 (by kernel_rfl) rfl
      exact step_move rfl rfl s2 rfl
    · intro a w hk
      have s18 := hk.eq_ 0 18 (by kernel_rfl) rfl
      exact step_call rfl rfl (by simp only [List.map_toArray, List.map_cons, List.map_nil, Act.eval, s18] <;> rfl) cf22 (HMOD.out w) (fun e w' h => retX e w' h)
    · intro a w hk
      have s7 : a.tmps.getD 7 undef = .pointer (some ⟨G, 0, none⟩) := hk.was 7 (by kernel_rfl) rfl
      exact step_val (v := .agg (cellsOf oneL).toArray) (w' := w) rfl (exec_load33 rfl s7 (HA.out.later hk.ext) rfl) (Ext.refl w) rfl
    · intro a w hk
      have s19 := hk.eq_ 1 19 (by kernel_rfl) rfl
      have s20 := hk.eq_ 2 20 (by kernel_rfl) rfl
      exact step_call rfl rfl (by simp only [List.map_toArray, List.map_cons, List.map_nil, Act.eval, s19, s20] <;> rfl) cf23 (make_any 254 m 0 oneL w rfl (by omega) HM.out (by omega) (hO.out.later hk.ext)) (RetB.k (mkL_length _ _ _ _))
    · intro a w hk
      obtain ⟨A21, c21, s21, r21⟩ := hk.byt_ 3 21 (by kernel_rfl) rfl
      exact step_assign rfl rfl s21 ⟨_, _, rfl, r21⟩
    · intro a w5 hf
      have s18 := hf.eq_ 0 18 (by kernel_rfl) rfl
      have s19 := hf.eq_ 1 19 (by kernel_rfl) rfl
      have s20 := hf.eq_ 2 20 (by kernel_rfl) rfl
      obtain ⟨A21, c21, s21, r21⟩ := hf.val 3 21 (by kernel_rfl) rfl
      obtain ⟨A9, c9, s9, r9⟩ := hf.val 4 9 (by kernel_rfl) rfl
      have hx := hf.ext
      have e := hf.frame
      clear hf
      simp only [regFrame, Act.put, List.setIfInBounds_toArray, List.set_cons_zero, List.set_cons_succ, s18, s19, s20, s21, s9] at e
      clear s18 s19 s20 s21 s9
      subst e
      have HX5 := hid (Ext.trans HX4.out hx)
      have HO5 := hid (hO.out.later hx)
      have HA5 := hid (HA.out.later hx)
      have HT5 := hid (HT.out.later hx)
      have HU5 := hid r9
      have hx256 : x < 256 := by assumption
      clear hx r9
      have hxy := xor_io x c hx256 hc
      have hxl := xor_lt8 hx256 hc
      go_wp2_with (refine wpList_load_row rfl 33 (.tmp 7) rfl G rfl 33 (cellsOf oneL).toArray (0,0) _ HA5.out Tryd.underlying33 rfl (size33' rfl) ?_)
      refine (aff_any x c oneL _ rfl hx256 hc HO5.out).mono ?_
      rintro e w6 ⟨rfl, hx6⟩
      rw [aff_oneL hx256]
      have HX6 := hid (Ext.trans HX5.out hx6)
      have HO6 := hid (HO5.out.later hx6)
      have HT6 := hid (HT5.out.later hx6)
      have HU6 := hid (HU5.out.later hx6)
      clear hx6
      go_wp2_with fail
      refine (aff_zero x c _ hx256 hc HO6.out).mono ?_
      rintro e w7 ⟨rfl, hx7⟩
      have HX7 := hid (Ext.trans HX6.out hx7)
      have HT7 := hid (HT6.out.later hx7)
      have HU7 := hid (HU6.out.later hx7)
      clear hx7
      go_wp2_with fail
      refine (is_tab _ _ _ _ _ HU7.out (ones_isT HF.out)).mono ?_
      rintro e w8 ⟨rfl, hx8⟩
      have HX8 := hid (Ext.trans HX7.out hx8)
      have HT8 := hid (HT7.out.later hx8)
      have HU8 := hid (HU7.out.later hx8)
      clear hx8 hxy
      go_wp2_with fail
      go_loop [10] (fun i => ∃ k : Nat, k ≤ 256 ∧ i = .int .i64 k) (fun i => 256 - (intOf i).toNat)
      case atStart => exact ⟨0, by omega, rfl⟩
      case round =>
        obtain ⟨k, hk, rfl⟩ := hrel
        by_cases hlt : k < 256
        · obtain ⟨b1, o1, rfl, _, hc1⟩ := nb_cell HT8.out (by omega)
          obtain ⟨b2, o2, rfl, _, hc2⟩ := nb_cell HU8.out (by omega)
          have h1 := hc1 k hlt
          rw [ones_is HF.out hlt] at h1
          have h2 := hc2 k hlt
          obtain ⟨hq, hqq⟩ := ones_back HF.out hlt
          have h3 := hc2 _ hq
          rw [hqq] at h3
          obtain ⟨q, hqe⟩ : ∃ q, nb (mkL 254 m oneL 0) k = q := ⟨_, rfl⟩
          rw [hqe] at h2 h3 hq
          clear hc1 hc2 hqq hqe
          go_wp2_with fail
          go_round
          case rel => exact ⟨k + 1, by omega, by go_num⟩
          case measure => simp [intOf]; omega
        · obtain rfl : k = 256 := by omega
          go_wp2_with fail
          go_ret
          exact ⟨rfl, HX8.out⟩
end Go.Proofs.YtcmhaomnabdopaaDoor
