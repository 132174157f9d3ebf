/- Bit laws for turns; own lemmas of the verifier, no statement is proved here. -/
import Derived.Test.YthfcndaccfpnmaaDoorW1
namespace Go.Proofs.YthfcndaccfpnmaaDoor
open Go.RowKit
/-- A number of w bits, turned to the left by s. -/
def rolN (w a s : Nat) : Nat := a * 2 ^ s % 2 ^ w ||| a / 2 ^ (w - s)
theorem rolN_bit (w a s k : Nat) (ha : a < 2 ^ w) (hs : s < w) (hk : k < w) : (rolN w a s).testBit k = a.testBit ((k + w - s) % w) := by
  have big : ∀ m, w ≤ m → a.testBit m = false := fun m hm => Nat.testBit_lt_two_pow (Nat.lt_of_lt_of_le ha (Nat.pow_le_pow_right (by omega) hm))
  unfold rolN
  rw [Nat.testBit_or, Nat.testBit_mod_two_pow, Nat.testBit_mul_two_pow, Nat.testBit_div_two_pow]
  by_cases h : s ≤ k
  · rw [big (k + (w - s)) (by omega)]
    have e : (k + w - s) % w = k - s := by
      rw [show k + w - s = (k - s) + w by omega, Nat.add_mod_right, Nat.mod_eq_of_lt (by omega)]
    rw [e]; simp [hk, h]
  · have e : (k + w - s) % w = k + (w - s) := by
      rw [show k + w - s = k + (w - s) by omega, Nat.mod_eq_of_lt (by omega)]
    rw [e]; simp [h]
theorem rolN_lt (w a s : Nat) (ha : a < 2 ^ w) : rolN w a s < 2 ^ w := by
  unfold rolN
  exact Nat.or_lt_two_pow (Nat.mod_lt _ (Nat.two_pow_pos _)) (Nat.lt_of_le_of_lt (Nat.div_le_self _ _) ha)
theorem eq_of_bits (w a b : Nat) (ha : a < 2 ^ w) (hb : b < 2 ^ w) (h : ∀ k, k < w → a.testBit k = b.testBit k) : a = b := by
  apply Nat.eq_of_testBit_eq
  intro k
  rcases Nat.lt_or_ge k w with hk | hk
  · exact h k hk
  · rw [Nat.testBit_lt_two_pow (Nat.lt_of_lt_of_le ha (Nat.pow_le_pow_right (by omega) hk)), Nat.testBit_lt_two_pow (Nat.lt_of_lt_of_le hb (Nat.pow_le_pow_right (by omega) hk))]
theorem rolN_rolN (w a i j : Nat) (ha : a < 2 ^ w) (hi : i < w) (hj : j < w) : rolN w (rolN w a i) j = rolN w a ((i + j) % w) := by
  have hl : (i + j) % w < w := Nat.mod_lt _ (by omega)
  refine eq_of_bits w _ _ (rolN_lt _ _ _ (rolN_lt _ _ _ ha)) (rolN_lt _ _ _ ha) fun k hk => ?_
  have hm : (k + w - j) % w < w := Nat.mod_lt _ (by omega)
  rw [rolN_bit w _ j k (rolN_lt _ _ _ ha) hj hk, rolN_bit w a i _ ha hi hm, rolN_bit w a _ k ha hl hk]
  congr 1
  -- all are k - i - j, by w
  rcases Nat.lt_or_ge (i + j) w with h | h
  · rw [Nat.mod_eq_of_lt h]
    rcases Nat.lt_or_ge k j with h1 | h1
    · rw [Nat.mod_eq_of_lt (show k + w - j < w by omega), show k + w - j + w - i = k + w - (i + j) + w by omega, Nat.add_mod_right]
    · rw [show k + w - j = (k - j) + w by omega, Nat.add_mod_right, Nat.mod_eq_of_lt (show k - j < w by omega)]
      congr 1; omega
  · rw [show (i + j) % w = i + j - w by rw [Nat.mod_eq_sub_mod h, Nat.mod_eq_of_lt (by omega)]]
    rcases Nat.lt_or_ge k j with h1 | h1
    · rw [Nat.mod_eq_of_lt (show k + w - j < w by omega)]
      congr 1; omega
    · rw [show k + w - j = (k - j) + w by omega, Nat.add_mod_right, Nat.mod_eq_of_lt (show k - j < w by omega), show k + w - (i + j - w) = k - j + w - i + w by omega, Nat.add_mod_right]
theorem rolN_zero (w a : Nat) (ha : a < 2 ^ w) : rolN w a 0 = a := by
  unfold rolN
  rw [Nat.pow_zero, Nat.mul_one, Nat.mod_eq_of_lt ha, Nat.sub_zero, Nat.div_eq_of_lt ha, Nat.or_zero]
theorem cast_mul (x s m : Nat) : ((x * 2 ^ s % m : Nat) : Int) = (x : Int) * 2 ^ s % (m : Int) := by
  rw [Int.natCast_emod, Int.natCast_mul, Int.natCast_pow]; rfl
theorem cast_div (x s : Nat) : ((x / 2 ^ s : Nat) : Int) = (x : Int) / 2 ^ s := by
  rw [Int.natCast_ediv, Int.natCast_pow]; rfl
theorem rol32_nat (x s : Nat) (hx : x < 4294967296) (_hs : s < 32) : rol32 (x : Int) s = ((rolN 32 x s : Nat) : Int) := by
  unfold rol32 rolN
  have h1 : x * 2 ^ s % 2 ^ 32 < 4294967296 := Nat.mod_lt _ (by omega)
  have h2 : x / 2 ^ (32 - s) < 4294967296 := Nat.lt_of_le_of_lt (Nat.div_le_self _ _) hx
  rw [← u32_or_nat _ _ h1 h2, cast_mul, cast_div]
  rfl
end Go.Proofs.YthfcndaccfpnmaaDoor
