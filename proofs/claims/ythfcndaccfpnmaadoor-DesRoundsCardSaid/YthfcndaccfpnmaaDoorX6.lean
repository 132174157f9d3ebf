/- Walk over the reference's keys; own lemmas of the verifier, no statement is proved here. -/
import Derived.Test.YthfcndaccfpnmaaDoorX5
namespace Go.Proofs.YthfcndaccfpnmaaDoor
open Go.RowKit
def lenOfV : Value → Nat
  | .slice _ n _ => n
  | _ => 0
theorem fallL_succ (first rise : Int) (k : Nat) : fallL first rise (k + 1) = fallL first rise k ++ [fall first rise k] := by simp [fallL, List.range_succ]
set_option maxHeartbeats 1000000 in
theorem chosen_any (w : World) : Calls Tryd.prog 29 #[] w (TabRet w 56 c1L) := by
  go_enter Tryd.func29, Tryd.ntmps29
  go_wp2_with fail
  go_loopw [1, 2] (fun v i wr => ∃ k : Nat, k ≤ 28 ∧ i = .int .i64 (fall 57 57 k) ∧ OwnN .i64 3 wr w.heap.size v (fallL 57 57 k) ∧ Below w.heap.size w wr) (fun v _ _ => 28 - lenOfV v)
  case atStart => exact ⟨0, Nat.zero_le _, rfl, World.ownsRow_nil _ _ _ _, Below.refl _ _⟩
  case round =>
    obtain ⟨k, hk, rfl, hown, hb⟩ := hrel
    obtain ⟨A, c, rfl, _, hown⟩ := hown.rdn (fallL_len 57 57 k)
    by_cases hlt : k < 28
    · have hf := fall_in 57 57 (by omega) (by omega) (by omega) (by omega) k
      have hst : fall 57 57 (k + 1) = if 8 < fall 57 57 k then fall 57 57 k - 8 else fall 57 57 k + 57 := rfl
      have hs := fallL_succ 57 57 k
      obtain ⟨X, hX⟩ : ∃ X, fall 57 57 k = X := ⟨_, rfl⟩
      rw [hX] at hf hst hs ⊢
      have hown2 := OwnN.kept hown (Ext.alloc1 wr X)
      have hone := one_rd wr X
      have hz := hb.size
      have hl := fallL_len 57 57 k
      have HB := hid (hb.trans (Below.mono (Ext.alloc1 wr X) hz))
      have HS := hid hs
      clear hb hown hX hs
      by_cases h8 : 8 < X
      · rw [if_pos h8] at hst
        have HST := hid hst
        clear hst
        go_wp2_with (at_builtin; refine wpL_appendN _ rfl (.tmp 6) (.tmp 8) 46 rfl Tryd.underlying46 8 Tryd.info3 w.heap.size _ (fallL 57 57 k) rfl hown2 _ _ 1 1 [X] rfl hone (by omega) (by unfold maxLen; omega) (by simp; omega) ?_; intro v2 w2 hown3 hb2)
        rw [← HS.out] at hown3
        have HB2 := hid (HB.out.trans hb2)
        obtain ⟨A2, c2, rfl, _, hown3⟩ := hown3.rdn (fallL_len 57 57 (k + 1))
        have HO2 := hid hown3
        clear hb2 hown3
        go_roundw
        case rel => exact ⟨k + 1, by omega, by rw [HST.out], HO2.out, HB2.out⟩
        case measure => simp [lenOfV]; omega
      · rw [if_neg h8] at hst
        have HST := hid (show fall 57 57 (k + 1) = X - 8 + 65 by rw [hst]; omega)
        clear hst
        go_wp2_with (at_builtin; refine wpL_appendN _ rfl (.tmp 6) (.tmp 8) 46 rfl Tryd.underlying46 8 Tryd.info3 w.heap.size _ (fallL 57 57 k) rfl hown2 _ _ 1 1 [X] rfl hone (by omega) (by unfold maxLen; omega) (by simp; omega) ?_; intro v2 w2 hown3 hb2)
        rw [← HS.out] at hown3
        have HB2 := hid (HB.out.trans hb2)
        obtain ⟨A2, c2, rfl, _, hown3⟩ := hown3.rdn (fallL_len 57 57 (k + 1))
        have HO2 := hid hown3
        clear hb2 hown3
        go_roundw
        case rel => exact ⟨k + 1, by omega, by rw [HST.out], HO2.out, HB2.out⟩
        case measure => simp [lenOfV]; omega
    · obtain rfl : k = 28 := by omega
      have HO := hid hown
      have HB := hid hb
      clear hown hb
      go_wp2_with fail
      go_loopw [1, 2] (fun v i wr => ∃ k : Nat, k ≤ 24 ∧ i = .int .i64 (fall 63 55 k) ∧ OwnN .i64 3 wr w.heap.size v (fallL 57 57 28 ++ fallL 63 55 k) ∧ Below w.heap.size w wr) (fun v _ _ => 52 - lenOfV v)
      case atStart => exact ⟨0, Nat.zero_le _, rfl, by simpa [fallL] using HO.out, HB.out⟩
      case round =>
        clear HO HB
        obtain ⟨k, hk, rfl, hown, hb⟩ := hrel
        have hl : (fallL 57 57 28 ++ fallL 63 55 k).length = 28 + k := by simp [fallL_len]
        obtain ⟨A, c, rfl, _, hown⟩ := hown.rdn hl
        by_cases hlt : k < 24
        · have hf := fall_in 63 55 (by omega) (by omega) (by omega) (by omega) k
          have hst : fall 63 55 (k + 1) = if 8 < fall 63 55 k then fall 63 55 k - 8 else fall 63 55 k + 55 := rfl
          have hs := fallL_succ 63 55 k
          obtain ⟨X, hX⟩ : ∃ X, fall 63 55 k = X := ⟨_, rfl⟩
          rw [hX] at hf hst hs ⊢
          have hown2 := OwnN.kept hown (Ext.alloc1 wr X)
          have hone := one_rd wr X
          have hz := hb.size
          have HB := hid (hb.trans (Below.mono (Ext.alloc1 wr X) hz))
          have HS := hid hs
          clear hb hown hX hs
          by_cases h8 : 8 < X
          · rw [if_pos h8] at hst
            have HST := hid hst
            clear hst
            go_wp2_with (at_builtin; refine wpL_appendN _ rfl (.tmp 19) (.tmp 21) 46 rfl Tryd.underlying46 8 Tryd.info3 w.heap.size _ (fallL 57 57 28 ++ fallL 63 55 k) rfl hown2 _ _ 1 1 [X] rfl hone (by omega) (by unfold maxLen; omega) (by simp; omega) ?_; intro v2 w2 hown3 hb2)
            rw [List.append_assoc, ← HS.out] at hown3
            have HB2 := hid (HB.out.trans hb2)
            obtain ⟨A2, c2, rfl, _, hown3⟩ := hown3.rdn (n := 28 + (k + 1)) (by simp [fallL_len])
            have HO2 := hid hown3
            clear hb2 hown3
            go_roundw
            case rel => exact ⟨k + 1, by omega, by rw [HST.out], HO2.out, HB2.out⟩
            case measure => simp [lenOfV]; omega
          · rw [if_neg h8] at hst
            have HST := hid (show fall 63 55 (k + 1) = X - 8 + 63 by rw [hst]; omega)
            clear hst
            go_wp2_with (at_builtin; refine wpL_appendN _ rfl (.tmp 19) (.tmp 21) 46 rfl Tryd.underlying46 8 Tryd.info3 w.heap.size _ (fallL 57 57 28 ++ fallL 63 55 k) rfl hown2 _ _ 1 1 [X] rfl hone (by omega) (by unfold maxLen; omega) (by simp; omega) ?_; intro v2 w2 hown3 hb2)
            rw [List.append_assoc, ← HS.out] at hown3
            have HB2 := hid (HB.out.trans hb2)
            obtain ⟨A2, c2, rfl, _, hown3⟩ := hown3.rdn (n := 28 + (k + 1)) (by simp [fallL_len])
            have HO2 := hid hown3
            clear hb2 hown3
            go_roundw
            case rel => exact ⟨k + 1, by omega, by rw [HST.out], HO2.out, HB2.out⟩
            case measure => simp [lenOfV]; omega
        · obtain rfl : k = 24 := by omega
          have hl3 := (OwnN.lit (e := 3) wr [28, 20, 12, 4] #[.int .i64 28, .int .i64 20, .int .i64 12, .int .i64 4] 4 wr.heap.size rfl rfl (by unfold maxLen; omega) (Nat.le_refl _)).rdn (n := 4) rfl
          obtain ⟨A3, c3, e3, hr3, _⟩ := hl3
          cases e3
          have hx3 : Ext wr (wr.alloc (.cells #[.int .i64 28, .int .i64 20, .int .i64 12, .int .i64 4] 3)) := Ext.alloc _ _
          have hown2 := OwnN.kept hown hx3
          have hz := hb.size
          have HB := hid (hb.trans (Below.mono hx3 hz))
          clear hb hown hx3
          go_wp2_with (at_builtin; refine wpL_appendN _ rfl (.tmp 29) (.tmp 30) 46 rfl Tryd.underlying46 8 Tryd.info3 w.heap.size _ (fallL 57 57 28 ++ fallL 63 55 24) rfl hown2 _ _ 4 4 [28, 20, 12, 4] rfl hr3 (by omega) (by unfold maxLen; omega) (by simp; omega) ?_; intro v2 w2 hown3 hb2)
          have HH := hid (tab_ret (n := 56) (xs := c1L) hown3 (HB.out.trans hb2) c1_len (by omega) (fun t ht => by have := c1_in t ht; omega))
          clear hown3 hb2
          go_wp2_with fail
          go_ret
          exact HH.out
end Go.Proofs.YthfcndaccfpnmaaDoor
