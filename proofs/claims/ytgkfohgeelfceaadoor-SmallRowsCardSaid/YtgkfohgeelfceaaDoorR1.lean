/- G digit by digit: plain facts; own lemmas of the verifier, no statement is proved here. -/
import Derived.Test.YtgkfohgeelfceaaDoorLG
namespace Go.Proofs.YtgkfohgeelfceaaDoor
open Go.RowKit
theorem gback (x : UInt32) : rolI (gW x 0) (-11) = gU x := by
  unfold gW
  rw [UInt32.add_zero]
  exact rolI_back (gU x) 11
theorem w_or (a b : UInt32) : bits .or .u32 (a.toNat : Int) (b.toNat : Int) = ((a ||| b).toNat : Int) := by
  rw [u32_or_nat _ _ (wlt a) (wlt b), UInt32.toNat_or]
theorem w_andn (a b : UInt32) : bits .andNot .u32 (a.toNat : Int) (b.toNat : Int) = ((a &&& ~~~b).toNat : Int) := by
  rw [u32_andNot_nat _ _ (wlt a) (wlt b), UInt32.toNat_and, UInt32.toNat_not]
  rfl
theorem w_and (a b : UInt32) : bits .and .u32 (a.toNat : Int) (b.toNat : Int) = ((a &&& b).toNat : Int) := by
  rw [u32_and_nat _ _ (wlt a) (wlt b), UInt32.toNat_and]
theorem pow16 (m : Nat) : 16 ^ m = 2 ^ (4 * m) := by rw [show 16 = 2 ^ 4 from rfl, ← Nat.pow_mul]
theorem dig_bit (n j i : Nat) (hi : i < 4) : (n / 16 ^ j % 16).testBit i = n.testBit (4 * j + i) := by
  rw [show 16 = 2 ^ 4 from rfl, Nat.testBit_mod_two_pow, ← Nat.pow_mul, Nat.testBit_div_two_pow]
  simp [hi, Nat.add_comm]
theorem mask_bit (m p : Nat) : (15 * 16 ^ m).testBit p = decide (p / 4 = m) := by
  rw [pow16, ← Nat.shiftLeft_eq, Nat.testBit_shiftLeft, show 15 = 2 ^ 4 - 1 from rfl, Nat.testBit_two_pow_sub_one]
  by_cases h : p / 4 = m
  · have h1 : 4 * m ≤ p := by omega
    have h2 : p - 4 * m < 4 := by omega
    simp [h, h1, h2]
  · by_cases h1 : 4 * m ≤ p
    · have h2 : ¬ p - 4 * m < 4 := by omega
      simp [h, h2]
    · simp [h, h1]
theorem put_bit (m v p : Nat) (hv : v < 16) : (v * 16 ^ m).testBit p = (decide (p / 4 = m) && v.testBit (p % 4)) := by
  rw [pow16, ← Nat.shiftLeft_eq, Nat.testBit_shiftLeft]
  by_cases h : p / 4 = m
  · have h1 : 4 * m ≤ p := by omega
    have h2 : p - 4 * m = p % 4 := by omega
    simp [h, h1, h2]
  · by_cases h1 : 4 * m ≤ p
    · have h2 : v.testBit (p - 4 * m) = false := Nat.testBit_lt_two_pow (Nat.lt_of_lt_of_le hv (by
        rw [show 16 = 2 ^ 4 from rfl]; exact Nat.pow_le_pow_right (by omega) (by omega)))
      simp [h, h2]
    · simp [h, h1]
def maskU (m : Nat) : UInt32 := UInt32.ofNat (15 * 16 ^ m)
def putU (m v : Nat) : UInt32 := UInt32.ofNat (v * 16 ^ m)
theorem p16 (m : Nat) (h : m < 8) : 16 * 16 ^ m ≤ 4294967296 := by
  match m, h with
  | 0, _ => decide
  | 1, _ => decide
  | 2, _ => decide
  | 3, _ => decide
  | 4, _ => decide
  | 5, _ => decide
  | 6, _ => decide
  | 7, _ => decide
theorem maskU_nat (m : Nat) (h : m < 8) : (maskU m).toNat = 15 * 16 ^ m := toNat_ofNat_lt (by have := p16 m h; have := Nat.pow_pos (n := m) (show 0 < 16 by omega); omega)
theorem putU_nat (m v : Nat) (h : m < 8) (hv : v < 16) : (putU m v).toNat = v * 16 ^ m := toNat_ofNat_lt (by
  have := p16 m h
  have h2 : v * 16 ^ m < 16 * 16 ^ m := Nat.mul_lt_mul_of_pos_right hv (Nat.pow_pos (by omega))
  omega)
/-- x with v for its four number m. -/
def yU (x : UInt32) (m v : Nat) : UInt32 := (x &&& ~~~ (maskU m)) ||| putU m v
theorem not_bit (b : UInt32) (p : Nat) : (~~~ b).toNat.testBit p = (decide (p < 32) && !b.toNat.testBit p) := by
  rw [UInt32.toNat_not, show UInt32.size - 1 - b.toNat = 2 ^ 32 - (b.toNat + 1) by have := wlt b; simp [UInt32.size]]
  exact Nat.testBit_two_pow_sub_succ (wlt b) p
theorem x_bit (x : UInt32) (p : Nat) (h : ¬ p < 32) : x.toNat.testBit p = false :=
  Nat.testBit_lt_two_pow (Nat.lt_of_lt_of_le (wlt x) (by rw [show 4294967296 = 2 ^ 32 from rfl]; exact Nat.pow_le_pow_right (by omega) (by omega)))
theorem y_bit (x : UInt32) (m v p : Nat) (h : m < 8) (hv : v < 16) : (yU x m v).toNat.testBit p = if p / 4 = m then v.testBit (p % 4) else x.toNat.testBit p := by
  unfold yU
  rw [UInt32.toNat_or, UInt32.toNat_and, Nat.testBit_or, Nat.testBit_and, not_bit, maskU_nat m h, putU_nat m v h hv, mask_bit, put_bit _ _ _ hv]
  by_cases hp : p / 4 = m
  · simp [hp]
  · by_cases h3 : p < 32
    · simp [hp, h3]
    · simp [hp, h3, x_bit x p h3]
theorem y_digit (x : UInt32) (m v j : Nat) (h : m < 8) (hv : v < 16) : (yU x m v).toNat / 16 ^ j % 16 = if j = m then v else x.toNat / 16 ^ j % 16 := by
  apply Nat.eq_of_testBit_eq
  intro i
  by_cases hi : i < 4
  · rw [dig_bit _ _ _ hi, y_bit _ _ _ _ h hv]
    by_cases hj : j = m
    · rw [if_pos (by omega), if_pos hj, show (4 * j + i) % 4 = i by omega]
    · rw [if_neg (by omega), if_neg hj, dig_bit _ _ _ hi]
  · have hb (z : Nat) (hz : z < 16) : z.testBit i = false := Nat.testBit_lt_two_pow (Nat.lt_of_lt_of_le hz (by rw [show 16 = 2 ^ 4 from rfl]; exact Nat.pow_le_pow_right (by omega) (by omega)))
    rw [hb _ (Nat.mod_lt _ (by omega)), hb]
    split
    · exact hv
    · exact Nat.mod_lt _ (by omega)
theorem gU_digit (x : UInt32) (j : Nat) (h : j < 8) : (gU x).toNat / 16 ^ j % 16 = nib j (x.toNat / 16 ^ j % 16) := by
  rw [gU_toNat, gS_digit _ _ _ h]
theorem rest_same (x : UInt32) (m v : Nat) (h : m < 8) (hv : v < 16) : (gU x ^^^ gU (yU x m v)) &&& ~~~ (maskU m) = 0 := by
  apply UInt32.toNat_inj.1
  apply Nat.eq_of_testBit_eq
  intro p
  rw [UInt32.toNat_and, Nat.testBit_and, UInt32.toNat_xor, Nat.testBit_xor, not_bit, maskU_nat m h, mask_bit]
  by_cases hp : p / 4 = m
  · simp [hp]
  · by_cases h3 : p < 32
    · have e (z : UInt32) : (gU z).toNat.testBit p = ((gU z).toNat / 16 ^ (p / 4) % 16).testBit (p % 4) := by
        rw [dig_bit _ _ _ (Nat.mod_lt _ (by omega)), Nat.div_add_mod]
      rw [e, e, gU_digit _ _ (by omega), gU_digit _ _ (by omega), y_digit _ _ _ _ h hv, if_neg hp]
      simp
    · simp [h3]
theorem same_iff (x : UInt32) (m v : Nat) (h : m < 8) (hv : v < 16) : gU x = gU (yU x m v) ↔ x.toNat / 16 ^ m % 16 = v := by
  constructor
  · intro e
    have e2 := gU_inj e
    have := y_digit x m v m h hv
    rw [← e2, if_pos rfl] at this
    exact this
  · intro e
    have : x = yU x m v := by
      apply UInt32.toNat_inj.1
      apply Nat.eq_of_testBit_eq
      intro p
      rw [y_bit _ _ _ _ h hv]
      split
      · rename_i hp
        rw [← e, ← hp, dig_bit _ _ _ (Nat.mod_lt _ (by omega)), Nat.div_add_mod]
      · rfl
    rw [← this]
end Go.Proofs.YtgkfohgeelfceaaDoor
