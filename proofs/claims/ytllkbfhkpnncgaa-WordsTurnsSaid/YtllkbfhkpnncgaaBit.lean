/- Rows of bits: what turning does to each bit; own lemmas of the verifier, no statement is proved here. -/
import Derived.Test.YtllkbfhkpnncgaaW3
namespace Go.Proofs.Ytllkbfhkpnncgaa
open Go.RowKit
/-- A number of w bits, turned to the left by s. -/
def rolN (w a s : Nat) : Nat := a * 2 ^ s % 2 ^ w ||| a / 2 ^ (w - s)
theorem rolN_bit (w a s k : Nat) (ha : a < 2 ^ w) (hs : s < w) (hk : k < w) : (rolN w a s).testBit k = a.testBit ((k + w - s) % w) := by
  have big : ∀ m, w ≤ m → a.testBit m = false := fun m hm => Nat.testBit_lt_two_pow (Nat.lt_of_lt_of_le ha (Nat.pow_le_pow_right (by omega) hm))
  unfold rolN
  rw [Nat.testBit_or, Nat.testBit_mod_two_pow, Nat.testBit_mul_two_pow, Nat.testBit_div_two_pow]
  by_cases h : s ≤ k
  · rw [big (k + (w - s)) (by omega)]
    have e : (k + w - s) % w = k - s := by
      rw [show k + w - s = (k - s) + w by omega, Nat.add_mod_right, Nat.mod_eq_of_lt (by omega)]
    rw [e]; simp [hk, h]
  · have e : (k + w - s) % w = k + (w - s) := by
      rw [show k + w - s = k + (w - s) by omega, Nat.mod_eq_of_lt (by omega)]
    rw [e]; simp [h]
theorem rolN_lt (w a s : Nat) (ha : a < 2 ^ w) : rolN w a s < 2 ^ w := by
  unfold rolN
  exact Nat.or_lt_two_pow (Nat.mod_lt _ (Nat.two_pow_pos _)) (Nat.lt_of_le_of_lt (Nat.div_le_self _ _) ha)
theorem eq_of_bits (w a b : Nat) (ha : a < 2 ^ w) (hb : b < 2 ^ w) (h : ∀ k, k < w → a.testBit k = b.testBit k) : a = b := by
  apply Nat.eq_of_testBit_eq
  intro k
  rcases Nat.lt_or_ge k w with hk | hk
  · exact h k hk
  · rw [Nat.testBit_lt_two_pow (Nat.lt_of_lt_of_le ha (Nat.pow_le_pow_right (by omega) hk)), Nat.testBit_lt_two_pow (Nat.lt_of_lt_of_le hb (Nat.pow_le_pow_right (by omega) hk))]
theorem rolN_rolN (w a i j : Nat) (ha : a < 2 ^ w) (hi : i < w) (hj : j < w) : rolN w (rolN w a i) j = rolN w a ((i + j) % w) := by
  have hl : (i + j) % w < w := Nat.mod_lt _ (by omega)
  refine eq_of_bits w _ _ (rolN_lt _ _ _ (rolN_lt _ _ _ ha)) (rolN_lt _ _ _ ha) fun k hk => ?_
  have hm : (k + w - j) % w < w := Nat.mod_lt _ (by omega)
  rw [rolN_bit w _ j k (rolN_lt _ _ _ ha) hj hk, rolN_bit w a i _ ha hi hm, rolN_bit w a _ k ha hl hk]
  congr 1
  -- all are k - i - j, by w
  rcases Nat.lt_or_ge (i + j) w with h | h
  · rw [Nat.mod_eq_of_lt h]
    rcases Nat.lt_or_ge k j with h1 | h1
    · rw [Nat.mod_eq_of_lt (show k + w - j < w by omega), show k + w - j + w - i = k + w - (i + j) + w by omega, Nat.add_mod_right]
    · rw [show k + w - j = (k - j) + w by omega, Nat.add_mod_right, Nat.mod_eq_of_lt (show k - j < w by omega)]
      congr 1; omega
  · rw [show (i + j) % w = i + j - w by rw [Nat.mod_eq_sub_mod h, Nat.mod_eq_of_lt (by omega)]]
    rcases Nat.lt_or_ge k j with h1 | h1
    · rw [Nat.mod_eq_of_lt (show k + w - j < w by omega)]
      congr 1; omega
    · rw [show k + w - j = (k - j) + w by omega, Nat.add_mod_right, Nat.mod_eq_of_lt (show k - j < w by omega), show k + w - (i + j - w) = k - j + w - i + w by omega, Nat.add_mod_right]
theorem rolN_zero (w a : Nat) (ha : a < 2 ^ w) : rolN w a 0 = a := by
  unfold rolN
  rw [Nat.pow_zero, Nat.mul_one, Nat.mod_eq_of_lt ha, Nat.sub_zero, Nat.div_eq_of_lt ha, Nat.or_zero]
theorem cast_mul (x s m : Nat) : ((x * 2 ^ s % m : Nat) : Int) = (x : Int) * 2 ^ s % (m : Int) := by
  rw [Int.natCast_emod, Int.natCast_mul, Int.natCast_pow]; rfl
theorem cast_div (x s : Nat) : ((x / 2 ^ s : Nat) : Int) = (x : Int) / 2 ^ s := by
  rw [Int.natCast_ediv, Int.natCast_pow]; rfl
theorem rol32_nat (x s : Nat) (hx : x < 4294967296) (_hs : s < 32) : rol32 (x : Int) s = ((rolN 32 x s : Nat) : Int) := by
  unfold rol32 rolN
  have h1 : x * 2 ^ s % 2 ^ 32 < 4294967296 := Nat.mod_lt _ (by omega)
  have h2 : x / 2 ^ (32 - s) < 4294967296 := Nat.lt_of_le_of_lt (Nat.div_le_self _ _) hx
  rw [← u32_or_nat _ _ h1 h2, cast_mul, cast_div]
  rfl
theorem rol8_nat (x s : Nat) (hx : x < 256) (_hs : s < 8) : rol8 (x : Int) s = ((rolN 8 x s : Nat) : Int) := by
  unfold rol8 rolN
  have h1 : x * 2 ^ s % 2 ^ 8 < 256 := Nat.mod_lt _ (by omega)
  have h2 : x / 2 ^ (8 - s) < 256 := Nat.lt_of_le_of_lt (Nat.div_le_self _ _) hx
  rw [← u8_or_nat _ _ h1 h2, cast_mul, cast_div]
  rfl
/-- Bit number p of a row of bytes: the highest one of the first byte is the first. -/
def bitOf (bs : List UInt8) (p : Nat) : Bool := (bs.getD (p / 8) 0).toNat.testBit (7 - p % 8)
theorem bytes_ext (xs ys : List UInt8) (n : Nat) (hx : xs.length = n) (hy : ys.length = n) (h : ∀ p, p < 8 * n → bitOf xs p = bitOf ys p) : xs = ys := by
  apply List.ext_getElem (by omega)
  intro i h1 h2
  apply UInt8.toNat_inj.1
  refine eq_of_bits 8 _ _ (UInt8.toNat_lt _) (UInt8.toNat_lt _) fun k hk => ?_
  have hp := h (8 * i + (7 - k)) (by omega)
  unfold bitOf at hp
  rw [show (8 * i + (7 - k)) / 8 = i by omega, show 7 - (8 * i + (7 - k)) % 8 = k by omega] at hp
  simpa [List.getD, h1, h2] using hp
theorem turnF_nat (bs : List UInt8) (n f s i : Nat) (_hs : s < 8) :
    (turnF bs n f s i).toNat = (bs.getD ((f + i) % n) 0).toNat * 2 ^ s % 256 ||| (bs.getD ((f + i + 1) % n) 0).toNat / 2 ^ (8 - s) := by
  have hv := turnF_val bs n f s i
  have b1 := (bs.getD ((f + i) % n) 0).toNat_lt
  have b2 := (bs.getD ((f + i + 1) % n) 0).toNat_lt
  obtain ⟨x, hx⟩ : ∃ x, (bs.getD ((f + i) % n) 0).toNat = x := ⟨_, rfl⟩
  obtain ⟨y, hy⟩ : ∃ y, (bs.getD ((f + i + 1) % n) 0).toNat = y := ⟨_, rfl⟩
  unfold byteAt at hv
  rw [hx] at hv b1 ⊢
  rw [hy] at hv b2 ⊢
  have h1 : x * 2 ^ s % 256 < 256 := Nat.mod_lt _ (by omega)
  have h2 : y / 2 ^ (8 - s) < 256 := Nat.lt_of_le_of_lt (Nat.div_le_self _ _) b2
  have e := u8_or_nat _ _ h1 h2
  have e1 : ((x * 2 ^ s % 256 : Nat) : Int) = (x : Int) * 2 ^ s % 256 := cast_mul x s 256
  have e2 : ((y / 2 ^ (8 - s) : Nat) : Int) = (y : Int) / 2 ^ (8 - s) := cast_div y (8 - s)
  rw [e1, e2] at e
  rw [e] at hv
  exact Int.ofNat.inj hv
theorem turn_bit (bs : List UInt8) (n f s p : Nat) (hs : s < 8) (hp : p < 8 * n) : bitOf (turnL bs n f s) p = bitOf bs ((p + (8 * f + s)) % (8 * n)) := by
  have hi : p / 8 < n := by omega
  have hg : (turnL bs n f s).getD (p / 8) 0 = turnF bs n f s (p / 8) := by simp [turnL, List.getD, hi]
  unfold bitOf
  rw [hg, turnF_nat bs n f s _ hs, Nat.testBit_or, show (256 : Nat) = 2 ^ 8 from rfl, Nat.testBit_mod_two_pow, Nat.testBit_mul_two_pow, Nat.testBit_div_two_pow]
  rw [Nat.mod_mul_right_div_self, Nat.mod_mul_right_mod]
  have hq : p % 8 < 8 := Nat.mod_lt _ (by omega)
  by_cases h : s ≤ 7 - p % 8
  · have e1 : (p + (8 * f + s)) / 8 = f + p / 8 := by omega
    have e2 : (p + (8 * f + s)) % 8 = p % 8 + s := by omega
    have hz : (bs.getD ((f + p / 8 + 1) % n) 0).toNat.testBit (7 - p % 8 + (8 - s)) = false :=
      Nat.testBit_lt_two_pow (Nat.lt_of_lt_of_le (UInt8.toNat_lt _) (Nat.pow_le_pow_right (by omega) (by omega : 8 ≤ 7 - p % 8 + (8 - s))))
    rw [e1, e2, hz]
    have e3 : 7 - p % 8 < 8 := by omega
    have e4 : 7 - p % 8 - s = 7 - (p % 8 + s) := by omega
    simp [e3, h, e4]
  · have e1 : (p + (8 * f + s)) / 8 = f + p / 8 + 1 := by omega
    have e2 : (p + (8 * f + s)) % 8 = p % 8 + s - 8 := by omega
    rw [e1, e2]
    have e4 : 7 - p % 8 + (8 - s) = 7 - (p % 8 + s - 8) := by omega
    simp [h, e4]
theorem turnL_length (bs : List UInt8) (n f s : Nat) : (turnL bs n f s).length = n := by simp [turnL]
end Go.Proofs.Ytllkbfhkpnncgaa
