/- Walks over the tables of chapter 6, of the program and of the reference; own lemmas of the verifier, no statement is proved here. -/
import Derived.Test.YthfcndaccfpnmaaDoorB9
namespace Go.Proofs.YthfcndaccfpnmaaDoor
open Go.RowKit
set_option maxRecDepth 100000
set_option maxHeartbeats 400000 in
theorem choice_any (w : World) : Calls Tryd.prog 28 #[] w (TabRet w 48 c2L) := by
  go_enter Tryd.func28, Tryd.ntmps28
  go_wp2_with fail
  go_ret
  exact tab_ret (OwnN.lit w c2L _ 48 w.heap.size rfl rfl (by unfold maxLen; omega) (Nat.le_refl _)) (Ext.alloc _ _) rfl (by omega) (fun t ht => by have := c2_in t ht; omega)
set_option maxHeartbeats 400000 in
theorem last_any (w : World) : Calls Tryd.prog 30 #[] w (TabRet w 48 c2L) := by
  go_enter Tryd.func30, Tryd.ntmps30
  go_wp2_with fail
  go_ret
  exact tab_ret (OwnN.lit w c2L _ 48 w.heap.size rfl rfl (by unfold maxLen; omega) (Nat.le_refl _)) (Ext.alloc _ _) rfl (by omega) (fun t ht => by have := c2_in t ht; omega)
set_option maxHeartbeats 400000 in
theorem mix_any (w : World) : Calls Tryd.prog 36 #[] w (TabRet w 32 mxL) := by
  go_enter Tryd.func36, Tryd.ntmps36
  go_wp2_with fail
  go_ret
  exact tab_ret (OwnN.lit w mxL _ 32 w.heap.size rfl rfl (by unfold maxLen; omega) (Nat.le_refl _)) (Ext.alloc _ _) rfl (by omega) (fun t ht => by have := mx_in t ht; omega)
set_option maxHeartbeats 400000 in
theorem mixed_any (w : World) : Calls Tryd.prog 41 #[] w (TabRet w 32 mxL) := by
  go_enter Tryd.func41, Tryd.ntmps41
  go_wp2_with fail
  go_ret
  exact tab_ret (OwnN.lit w mxL _ 32 w.heap.size rfl rfl (by unfold maxLen; omega) (Nat.le_refl _)) (Ext.alloc _ _) rfl (by omega) (fun t ht => by have := mx_in t ht; omega)
/-- Numbers laid so far, noughts behind. -/
def fillN (f : Nat → Int) (n k : Nat) : List Int := (List.range n).map fun i => if i < k then f i else 0
theorem fillN_length (f : Nat → Int) (n k : Nat) : (fillN f n k).length = n := by simp [fillN]
theorem fillN_zero (f : Nat → Int) (n : Nat) : fillN f n 0 = List.replicate n 0 := by apply List.ext_getElem <;> simp [fillN]
theorem fillN_full (f : Nat → Int) (n : Nat) : fillN f n n = (List.range n).map f := by
  apply List.ext_getElem
  · simp [fillN]
  · intro i h1 h2
    have : i < n := by simpa [fillN] using h1
    simp [fillN, this]
theorem fillN_set (f : Nat → Int) (n k : Nat) : (fillN f n k).set k (f k) = fillN f n (k + 1) := by
  apply List.ext_getElem
  · simp [fillN]
  · intro i h1 h2
    simp only [fillN, List.getElem_set, List.getElem_map, List.getElem_range]
    by_cases h : k = i
    · subst h; simp
    · rw [if_neg h]
      by_cases h' : i < k
      · rw [if_pos h', if_pos (by omega)]
      · rw [if_neg h', if_neg (by omega)]
theorem fall_in (first rise : Int) (h1 : 1 ≤ first) (h2 : first ≤ 64) (h3 : 0 ≤ rise) (h4 : rise ≤ 57) : ∀ k, 1 ≤ fall first rise k ∧ fall first rise k ≤ 65
  | 0 => by simp only [fall]; omega
  | k + 1 => by
    have := fall_in first rise h1 h2 h3 h4 k
    rw [fall]; split <;> omega
set_option maxHeartbeats 1000000 in
theorem falling_any (first rise : Int) (n : Nat) (w : World) (h1 : 1 ≤ first) (h2 : first ≤ 64) (h3 : 0 ≤ rise) (h4 : rise ≤ 57) (hn : n ≤ 1000) :
    Calls Tryd.prog 48 #[.int .i64 first, .int .i64 rise, .int .i64 n] w (RetN .i64 3 w (fallL first rise n)) := by
  go_enter Tryd.func48, Tryd.ntmps48
  go_wp2_with (at_make; refine wpL_makeN rfl (.tmp 9) (.tmp 9) 46 rfl Tryd.underlying46 8 Tryd.info3 .i64 n n rfl rfl rfl (by omega) (by unfold maxLen; omega) w.heap.size (Nat.le_refl _) ?_; intro w1 hown1 hb1)
  go_loopw [0, 13] (fun x i wr => ∃ k : Nat, k ≤ n ∧ i = .int .i64 k ∧ x = .int .i64 (fall first rise k) ∧ OwnN .i64 3 wr w.heap.size (.slice (some ⟨w.heap.size, 0, none⟩) n n) (fillN (fall first rise) n k) ∧ Below w.heap.size w wr) (fun _ i _ => n - (intOf i).toNat)
  case atStart => exact ⟨0, Nat.zero_le _, rfl, rfl, by rw [fillN_zero]; exact hown1, hb1⟩
  case round =>
    clear hown1 hb1
    obtain ⟨k, hk, rfl, rfl, hown, hb⟩ := hrel
    by_cases hlt : k < n
    · have hf := fall_in first rise h1 h2 h3 h4 k
      have hst : fall first rise (k + 1) = if 8 < fall first rise k then fall first rise k - 8 else fall first rise k + rise := rfl
      have hset := hown.setn (fillN_length _ _ _) k (fall first rise k)
      rw [fillN_set] at hset
      have hfree := hown.free k
      have hcell := hown.celln (fillN_length _ _ _) k hlt
      obtain ⟨X, hX⟩ : ∃ X, fall first rise k = X := ⟨_, rfl⟩
      rw [hX] at hf hst hset ⊢
      have HH := hid hset
      have HB := hid hb
      have HX := hid hX
      clear hset hX hown hb
      by_cases h8 : 8 < X
      · rw [if_pos h8] at hst
        have HS := hid hst
        clear hst
        go_wp2_with fail
        go_roundw
        case rel => exact ⟨k + 1, by omega, by go_num, by rw [HS.out], HH.out, HB.out.setCell (by simp) _⟩
        case measure => simp [intOf]; omega
      · rw [if_neg h8] at hst
        have HS := hid hst
        clear hst
        go_wp2_with fail
        go_roundw
        case rel => exact ⟨k + 1, by omega, by go_num, by rw [HS.out], HH.out, HB.out.setCell (by simp) _⟩
        case measure => simp [intOf]; omega
    · obtain rfl : k = n := by omega
      rw [fillN_full] at hown
      have HH := hid (And.intro hown hb)
      clear hown hb
      go_wp2_with fail
      go_ret
      exact ⟨_, rfl, HH.out.1, HH.out.2⟩
end Go.Proofs.YthfcndaccfpnmaaDoor
