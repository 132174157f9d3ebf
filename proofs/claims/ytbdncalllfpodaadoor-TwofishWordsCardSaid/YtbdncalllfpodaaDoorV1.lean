/- Plain facts for the law on words; own lemmas of the verifier, no statement is proved here. -/
import Derived.Test.YtbdncalllfpodaaDoorX23
namespace Go.Proofs.YtbdncalllfpodaaDoor
open Go.RowKit
theorem kL_pair (ev od : List UInt32) (n : Nat) : ∀ i, i < n → (kL ev od n).getD (2 * i) 0 = kA ev i + kB od i ∧ (kL ev od n).getD (2 * i + 1) 0 = rolI (kA ev i + 2 * kB od i) 9 := by
  induction n with
  | zero => intro i h; omega
  | succ n ih =>
    intro i h
    have hl := kL_length ev od n
    rw [kL]
    rcases Nat.lt_or_ge i n with h1 | h1
    · obtain ⟨e1, e2⟩ := ih i h1
      simp only [List.getD_eq_getElem?_getD] at e1 e2 ⊢
      rw [List.getElem?_append_left (by omega), List.getElem?_append_left (by omega)]
      exact ⟨e1, e2⟩
    · obtain rfl : i = n := by omega
      simp only [List.getD_eq_getElem?_getD]
      rw [List.getElem?_append_right (by omega), List.getElem?_append_right (by omega), hl, show 2 * i - 2 * i = 0 by omega, show 2 * i + 1 - 2 * i = 1 by omega]
      exact ⟨rfl, rfl⟩
theorem sL_get (K : List UInt8) (m i : Nat) (hl : K.length = 8 * m) (hi : i < m) : (sL K).getD i 0 = shrW (pt K (m - 1 - i)) := by
  have h8 : K.length / 8 = m := by omega
  unfold sL sU
  rw [h8, List.getD_eq_getElem?_getD, List.getElem?_reverse (by simp; exact hi)]
  simp only [List.length_map, List.length_range, List.getElem?_map]
  rw [List.getElem?_range (by omega)]
  rfl
theorem pt_get (K : List UInt8) (j k : Nat) (hk : k < 8) : (pt K j).getD k 0 = K.getD (8 * j + k) 0 := by
  unfold pt
  simp [List.getD, hk]
/-- One byte with d exored. -/
def flipB (K : List UInt8) (p : Nat) (d : UInt8) : List UInt8 := K.set p (K.getD p 0 ^^^ d)
theorem flipB_length (K : List UInt8) (p : Nat) (d : UInt8) : (flipB K p d).length = K.length := by simp [flipB]
theorem flipB_get (K : List UInt8) (p : Nat) (d : UInt8) (hp : p < K.length) (i : Nat) : (flipB K p d).getD i 0 = if i = p then K.getD p 0 ^^^ d else K.getD i 0 := by
  unfold flipB
  by_cases h : i = p
  · subst h; rw [if_pos rfl]; simp [List.getD, hp]
  · rw [if_neg h]; simp [List.getD, show ¬ p = i from fun e => h e.symm]
theorem xor_ne {a d : UInt8} (hd : d ≠ 0) : a ^^^ d ≠ a := fun e => hd (by
  have : a ^^^ (a ^^^ d) = a ^^^ a := by rw [e]
  rw [← UInt8.xor_assoc, UInt8.xor_self, UInt8.zero_xor] at this
  exact this)
theorem pt_ext {m n : List UInt8} (h1 : m.length = 8) (h2 : n.length = 8) (h : ∀ k, k < 8 → m.getD k 0 = n.getD k 0) : m = n := by
  apply List.ext_getElem (by omega)
  intro k hk hk2
  have := h k (by omega)
  simpa [List.getD, hk, hk2] using this
theorem pt_length (K : List UInt8) (j : Nat) (h : 8 * j + 8 ≤ K.length) : (pt K j).length = 8 := by simp [pt]; omega
theorem words_flip (K : List UInt8) (m p i : Nat) (d : UInt8) (hl : K.length = 8 * m) (hp : p < 8 * m) (hi : i < m) :
    (sL K).getD i 0 = (sL (flipB K p d)).getD i 0 ↔ (d = 0 ∨ i ≠ m - 1 - p / 8) := by
  rw [sL_get K m i hl hi, sL_get (flipB K p d) m i (by rw [flipB_length]; exact hl) hi]
  have hlen : (flipB K p d).length = 8 * m := by rw [flipB_length]; exact hl
  constructor
  · intro h
    by_cases hd : d = 0
    · exact .inl hd
    · refine .inr fun hi2 => ?_
      have hj : m - 1 - i = p / 8 := by omega
      rw [hj] at h
      refine shrW_one (p % 8) (by omega) ?_ ?_ h
      · rw [pt_get _ _ _ (by omega), pt_get _ _ _ (by omega), show 8 * (p / 8) + p % 8 = p by omega, flipB_get K p d (by omega), if_pos rfl]
        exact fun e => xor_ne hd e.symm
      · intro k hk
        by_cases hk8 : k < 8
        · rw [pt_get _ _ _ hk8, pt_get _ _ _ hk8, flipB_get K p d (by omega), if_neg (by omega)]
        · have e1 := pt_length K (p / 8) (by omega)
          have e2 := pt_length (flipB K p d) (p / 8) (by omega)
          simp [List.getD, List.getElem?_eq_none (show (pt K (p / 8)).length ≤ k by omega), List.getElem?_eq_none (show (pt (flipB K p d) (p / 8)).length ≤ k by omega)]
  · intro h
    congr 1
    refine pt_ext (pt_length _ _ (by omega)) (pt_length _ _ (by omega)) fun k hk => ?_
    rw [pt_get _ _ _ hk, pt_get _ _ _ hk, flipB_get K p d (by omega)]
    by_cases he : 8 * (m - 1 - i) + k = p
    · rw [if_pos he]
      rcases h with rfl | h
      · rw [he, UInt8.xor_zero]
      · exact absurd (show i = m - 1 - p / 8 by omega) h
    · rw [if_neg he]
end Go.Proofs.YtbdncalllfpodaaDoor
