/- Walks over more tables of chapter 6; own lemmas of the verifier, no statement is proved here. -/
import Derived.Test.YthfcndaccfpnmaaDoorX2
namespace Go.Proofs.YthfcndaccfpnmaaDoor
open Go.RowKit
theorem fallL_len (first rise : Int) (n : Nat) : (fallL first rise n).length = n := by simp [fallL]
set_option maxHeartbeats 1000000 in
theorem halves_any (w : World) : Calls Tryd.prog 24 #[] w (RetN .i64 3 w c1L) := by
  go_enter Tryd.func24, Tryd.ntmps24
  go_wp2_with fail
  refine (falling_any 57 57 28 _ (by omega) (by omega) (by omega) (by omega) (by omega)).mono ?_
  rintro e w1 ⟨v1, rfl, ho1, hb1⟩
  obtain ⟨A1, c1, rfl, hr1, _⟩ := ho1.rdn (fallL_len _ _ _)
  have HB1 := hid hb1
  clear hb1 ho1
  go_wp2_with fail
  refine (falling_any 63 55 24 _ (by omega) (by omega) (by omega) (by omega) (by omega)).mono ?_
  rintro e w2 ⟨v2, rfl, ho2, hb2⟩
  obtain ⟨A2, c2, rfl, hr2, _⟩ := ho2.rdn (fallL_len _ _ _)
  have hr12 := hr1.later hb2
  have HX2 := hid (Ext.trans HB1.out hb2)
  clear hb2 hr1 ho2
  have hl3 := (OwnN.lit (e := 3) w2 [28, 20, 12, 4] #[.int .i64 28, .int .i64 20, .int .i64 12, .int .i64 4] 4 w2.heap.size rfl rfl (by unfold maxLen; omega) (Nat.le_refl _)).rdn (n := 4) rfl
  obtain ⟨A3, c3, e3, hr3, _⟩ := hl3
  have hx3 : Ext w2 (w2.alloc (.cells #[.int .i64 28, .int .i64 20, .int .i64 12, .int .i64 4] 3)) := Ext.alloc _ _
  have hq1 := hr12.later hx3
  have hq2 := hr2.later hx3
  have hz3 : (w2.alloc (.cells #[.int .i64 28, .int .i64 20, .int .i64 12, .int .i64 4] 3)).heap.size = w2.heap.size + 1 := by simp
  have hrow := RowsN.three _ A1 A2 (some ⟨w2.heap.size, 0, none⟩) 28 24 4 c1 c2 4 46 _ _ _ hq1 hq2 (by cases e3; exact hr3)
  rw [hz3] at hrow
  have hx4 : Ext w2 ((w2.alloc (.cells #[.int .i64 28, .int .i64 20, .int .i64 12, .int .i64 4] 3)).alloc (.cells #[.slice A1 28 c1, .slice A2 24 c2, .slice (some ⟨w2.heap.size, 0, none⟩) 4 4] 46)) := Ext.trans hx3 (Ext.alloc _ _)
  have HX4 := hid (Ext.trans HX2.out hx4)
  have HR := hid hrow
  clear hrow hx4 hz3 hq1 hq2 hx3 hr3 e3 hr12 hr2
  have hc1 : ([fallL 57 57 28, fallL 63 55 24, [28, 20, 12, 4]] : List (List Int)).flatten = c1L := by unfold c1L; simp
  go_wp2_with fail
  refine (concatN_any _ 0 3 3 [fallL 57 57 28, fallL 63 55 24, [28, 20, 12, 4]] _ rfl HR.out (by rw [hc1, c1_len]; omega) (by rw [hc1, c1_len]; omega) (by omega)).mono ?_
  rw [hc1]
  rintro e w5 ⟨v5, rfl, ho5, hb5⟩
  have HO := hid (OwnN.base_mono ho5 (Below.size HX4.out))
  have HB := hid (Ext.trans HX4.out hb5)
  clear ho5 hb5 hc1
  go_wp2_with fail
  go_ret
  exact ⟨_, rfl, HO.out, HB.out⟩
theorem ipF_in : ∀ q, q < 64 → 1 ≤ ipF q ∧ ipF q ≤ 64 := by decide +kernel
theorem ipN_succ (k : Nat) : ipN (k + 1) = ipN k ++ [ipF k] := by simp [ipN, List.range_succ]
theorem eN_succ (k : Nat) : eN (k + 1) = eN k ++ [eF k] := by simp [eN, List.range_succ]
theorem Ext.alloc1 (w : World) (x : Int) : Ext w (w.alloc (.cells #[.int .i64 x] 3)) := Ext.alloc _ _
theorem one_rd (w : World) (x : Int) : RdN .i64 (w.alloc (.cells #[.int .i64 x] 3)) (w.alloc (.cells #[.int .i64 x] 3)).heap.size (some ⟨w.heap.size, 0, none⟩) 1 [x] := by
  have hLt := OwnN.lit (e := 3) w [x] #[.int .i64 x] 1 w.heap.size rfl rfl (by unfold maxLen; omega) (Nat.le_refl _)
  obtain ⟨A1, c1, hA, hR, _⟩ := hLt.rdn (n := 1) rfl
  cases hA
  exact hR
set_option maxHeartbeats 1000000 in
theorem wider_any (w : World) : Calls Tryd.prog 37 #[] w (TabRet w 48 eL) := by
  go_enter Tryd.func37, Tryd.ntmps37
  go_wp2_with fail
  go_loopw [1, 2] (fun v i wr => ∃ k : Nat, k ≤ 48 ∧ i = .int .i64 k ∧ OwnN .i64 3 wr w.heap.size v (eN k) ∧ Below w.heap.size w wr) (fun _ i _ => 48 - (intOf i).toNat)
  case atStart => exact ⟨0, Nat.zero_le _, rfl, World.ownsRow_nil _ _ _ _, Below.refl _ _⟩
  case round =>
    obtain ⟨k, hk, rfl, hown, hb⟩ := hrel
    by_cases hlt : k < 48
    · have hF : eF k = (((4 * (k / 6) + k % 6 + 31) % 32 + 1 : Nat) : Int) := rfl
      have HF := hid hF
      have hv : ((4 * ((k : Int) / 6) + (k : Int) % 6 + 31) % 32 + 1) = eF k := by rw [hF]; omega
      have HV := hid hv
      obtain ⟨X, hX⟩ : ∃ X, eF k = X := ⟨_, rfl⟩
      have hown2 := OwnN.kept hown (Ext.alloc1 wr X)
      have hone := one_rd wr X
      have hz := hb.size
      have HB := hid (hb.trans (Below.mono (Ext.alloc1 wr X) hz))
      have HS := hid (eN_succ k)
      have hl := eN_len k
      rw [hX] at hv HS
      have HX := hid hX
      clear hb hown hF HF hX
      go_wp2_with (at_builtin; refine wpL_appendN _ rfl (.tmp 7) (.tmp 17) 46 rfl Tryd.underlying46 8 Tryd.info3 w.heap.size _ (eN k) rfl hown2 _ _ 1 1 [X] rfl hone (by omega) (by unfold maxLen; omega) (by simp; omega) ?_; intro v2 w2 hown3 hb2)
      rw [← HS.out] at hown3
      have HB2 := hid (HB.out.trans hb2)
      clear hb2
      go_roundw
      case rel => exact ⟨k + 1, by omega, by go_num, hown3, HB2.out⟩
      case measure => simp [intOf]; omega
    · obtain rfl : k = 48 := by omega
      have HH := hid (tab_ret hown hb (eN_len 48) (by omega) (fun t ht => by have := e_in t ht; omega))
      clear hown hb
      go_wp2_with fail
      go_ret
      exact HH.out
theorem run_index81 (w : World) (k : Nat) (hk : k < 8) :
    (Instr.index 81 (.agg #[.int .i64 58, .int .i64 60, .int .i64 62, .int .i64 64, .int .i64 57, .int .i64 59, .int .i64 61, .int .i64 63]) (.int .i64 k)).run Tryd.prog w = .ok (.int .i64 (ipH.getD k 0)) w := by
  simp only [Instr.index, asIntOf, Sem.run_bind, Sem.run_pure, Result.andThen_ok, run_underlying Tryd.underlying81]
  rw [if_pos ⟨by omega, by omega⟩]
  match k, hk with
  | 0, _ => rfl
  | 1, _ => rfl
  | 2, _ => rfl
  | 3, _ => rfl
  | 4, _ => rfl
  | 5, _ => rfl
  | 6, _ => rfl
  | 7, _ => rfl
theorem ipF_at (i j : Nat) (hj : j < 8) : ipF (8 * i + j) = ipH.getD i 0 - 8 * (j : Int) := by
  unfold ipF
  rw [show (8 * i + j) / 8 = i by omega, show (8 * i + j) % 8 = j by omega]
theorem ipH_in : ∀ i, i < 8 → 57 ≤ ipH.getD i 0 ∧ ipH.getD i 0 ≤ 64 := by decide
set_option maxHeartbeats 1000000 in
theorem first_any (w : World) : Calls Tryd.prog 58 #[] w (TabRet w 64 ipL) := by
  obtain ⟨i0, hi0, hz0, hz1, hz2⟩ := info_parts Tryd.info3
  go_enter Tryd.func58, Tryd.ntmps58
  go_wp2_with (at_make; refine wpList_make_own _ rfl (.const (.int .i64 0)) (.const (.int .i64 64)) 46 rfl w.heap.size 3 i0 (.int .i64 0) 1 Tryd.underlying46 hi0 hz0 hz1 .i64 .i64 64 64 rfl rfl rfl (by rw [hz2]; omega) (by unfold maxLen; omega) (Nat.le_refl _) ?_; intro w1 hown1 hg1)
  have hb1 : Below w.heap.size w w1 := (Below.refl _ _).grown hg1 (Nat.le_refl _) (by simp)
  have hown1 : OwnN .i64 3 w1 w.heap.size (.slice (some ⟨w.heap.size, 0, none⟩) 0 64) (ipN 0) := hown1
  clear hg1 hi0 hz0 hz1 hz2
  go_loopw [1, 7] (fun v i wr => ∃ k : Nat, k ≤ 8 ∧ i = .int .i64 k ∧ OwnN .i64 3 wr w.heap.size v (ipN (8 * k)) ∧ Below w.heap.size w wr) (fun _ i _ => 8 - (intOf i).toNat)
  case atStart => exact ⟨0, Nat.zero_le _, rfl, hown1, hb1⟩
  case round =>
    clear hown1 hb1
    obtain ⟨k, hk, rfl, hown, hb⟩ := hrel
    by_cases hlt : k < 8
    · have hh := ipH_in k hlt
      have hri := fun w => run_index81 w k hlt
      obtain ⟨H, hH⟩ : ∃ H, ipH.getD k 0 = H := ⟨_, rfl⟩
      have hat := fun j hj => ipF_at k j hj
      rw [hH] at hh hat hri
      have HO := hid hown
      have HB := hid hb
      have HAT := hid hat
      clear hown hb hat hH
      go_wp2_with fail
      clear hri
      rw [show decide ((k : Int) < 8) = true by simp; omega]
      go_loopw [1, 10] (fun v i wr => ∃ j : Nat, j ≤ 8 ∧ i = .int .i64 j ∧ OwnN .i64 3 wr w.heap.size v (ipN (8 * k + j)) ∧ Below w.heap.size w wr) (fun _ i _ => 8 - (intOf i).toNat)
      case atStart => exact ⟨0, Nat.zero_le _, rfl, HO.out, HB.out⟩
      case round =>
        clear HO HB
        obtain ⟨j, hj, rfl, hown, hb⟩ := hrel
        by_cases hjt : j < 8
        · have hown2 := OwnN.kept hown (Ext.alloc1 wr (H - 8 * (j : Int)))
          have hone := one_rd wr (H - 8 * (j : Int))
          have hz := hb.size
          have HB := hid (hb.trans (Below.mono (Ext.alloc1 wr (H - 8 * (j : Int))) hz))
          have HS := hid (show ipN (8 * k + (j + 1)) = ipN (8 * k + j) ++ [H - 8 * (j : Int)] by rw [← HAT.out j hjt]; exact ipN_succ _)
          have hl := ipN_len (8 * k + j)
          clear hb hown HAT
          go_wp2_with (at_builtin; refine wpL_appendN _ rfl (.tmp 13) (.tmp 18) 46 rfl Tryd.underlying46 8 Tryd.info3 w.heap.size _ (ipN (8 * k + j)) rfl hown2 _ _ 1 1 [H - 8 * (j : Int)] rfl hone (by omega) (by unfold maxLen; omega) (by simp; omega) ?_; intro v2 w2 hown3 hb2)
          rw [← HS.out] at hown3
          have HB2 := hid (HB.out.trans hb2)
          clear hb2
          go_roundw
          case rel => exact ⟨j + 1, by omega, by go_num, hown3, HB2.out⟩
          case measure => simp [intOf]; omega
        · obtain rfl : j = 8 := by omega
          have HO := hid hown
          have HB := hid hb
          clear hown hb
          go_wp2_with fail
          go_roundw
          case rel => exact ⟨k + 1, by omega, by go_num, HO.out, HB.out⟩
          case measure => simp [intOf]; omega
    · obtain rfl : k = 8 := by omega
      have HH := hid (tab_ret hown hb (ipN_len 64) (by omega) (fun t ht => by have := ip_in t ht; omega))
      clear hown hb
      go_wp2_with fail
      go_ret
      exact HH.out
end Go.Proofs.YthfcndaccfpnmaaDoor
