/- Windows of six bits; plain facts, own text of the verifier, no statement is proved here. -/
import Derived.Test.YthfcndaccfpnmaaDoorX8
namespace Go.Proofs.YthfcndaccfpnmaaDoor
open Go.RowKit
theorem beN_bit (bs : List UInt8) : ∀ n, n ≤ bs.length → ∀ q, q < 8 * n → beN bs n / 2 ^ (8 * n - 1 - q) % 2 = bitN bs ((q : Int) + 1)
  | 0, _, q, hq => absurd hq (by omega)
  | n + 1, hn, q, hq => by
    have hb := (bs.getD n 0).toNat_lt
    rw [beN]
    by_cases h : q < 8 * n
    · rw [← beN_bit bs n (by omega) q h, show 8 * (n + 1) - 1 - q = 8 + (8 * n - 1 - q) by omega, Nat.pow_add, ← Nat.div_div_eq_div_mul]
      congr 2
      omega
    · rw [bitN_in (by omega), show q / 8 = n by omega, show 8 * (n + 1) - 1 - q = 7 - q % 8 by omega]
      obtain ⟨j, hj⟩ : ∃ j, q % 8 = j := ⟨_, rfl⟩
      have hj8 : j < 8 := by omega
      rw [hj]
      generalize (bs.getD n 0).toNat = b at *
      generalize beN bs n = a
      match j, hj8 with
      | 0, _ => simp only [Nat.reduceSub, Nat.reducePow]; omega
      | 1, _ => simp only [Nat.reduceSub, Nat.reducePow]; omega
      | 2, _ => simp only [Nat.reduceSub, Nat.reducePow]; omega
      | 3, _ => simp only [Nat.reduceSub, Nat.reducePow]; omega
      | 4, _ => simp only [Nat.reduceSub, Nat.reducePow]; omega
      | 5, _ => simp only [Nat.reduceSub, Nat.reducePow]; omega
      | 6, _ => simp only [Nat.reduceSub, Nat.reducePow]; omega
      | 7, _ => simp only [Nat.reduceSub, Nat.reducePow]; omega
theorem beN_lt (bs : List UInt8) : ∀ n, beN bs n < 256 ^ n
  | 0 => by simp [beN]
  | n + 1 => by
    have h := beN_lt bs n
    have hb := (bs.getD n 0).toNat_lt
    rw [beN, Nat.pow_succ]; omega
/-- Bits of a sum. -/
theorem bitN_xor {xs bs ss : List UInt8} {n : Nat} (ha : xs.length = n) (hb : bs.length = n) (hs : ss.length = n) (h : ∀ i, i < n → ss.getD i 0 = xs.getD i 0 ^^^ bs.getD i 0) (i : Int) :
    bitN ss i = (bitN xs i + bitN bs i) % 2 := by
  unfold bitN
  rw [ha, hb, hs]
  by_cases hh : hasN n i = true
  · rw [if_pos hh, if_pos hh, if_pos hh]
    have hi : ((i - 1) / 8).toNat < n := by
      have := hh
      unfold hasN at this
      simp only [decide_eq_true_eq] at this
      omega
    rw [h _ hi, u8_bit]
  · rw [if_neg hh, if_neg hh, if_neg hh]
theorem xorL_get (xs ys : List UInt8) (n i : Nat) (hi : i < n) : (xorL xs ys n).getD i 0 = xs.getD i 0 ^^^ ys.getD i 0 := by
  simp [xorL, xorF, List.getD, hi]
theorem xorL_bit {xs ys : List UInt8} {n : Nat} (hx : xs.length = n) (hy : ys.length = n) (i : Int) : bitN (xorL xs ys n) i = (bitN xs i + bitN ys i) % 2 :=
  bitN_xor hx hy (xorL_length _ _ _) (fun i hi => xorL_get xs ys n i hi) i
theorem wide_bit (r : List UInt8) (q : Nat) (hq : q < 48) : bitN (permL r eL) ((q : Int) + 1) = bitN r (eF q) := by
  rw [bit_permL _ _ _ (by rw [show eL.length = 48 from eN_len 48]; omega), tb_in (by rw [show eL.length = 48 from eN_len 48]; exact hq)]
  congr 1
  rw [getD_eq _ _ _ (by rw [show eL.length = 48 from eN_len 48]; exact hq)]
  simp [eL, eN]
theorem fx_bit (r k : List UInt8) (hk : k.length = 6) (q : Nat) (hq : q < 48) : bitN (fx r k) ((q : Int) + 1) = (bitN r (eF q) + bitN k ((q : Int) + 1)) % 2 := by
  unfold fx
  rw [xorL_bit (show (permL r eL).length = 6 from perm_len _ _ 48 (eN_len 48)) hk, wide_bit r q hq]
theorem testBit_of (x i : Nat) : x.testBit i = decide (x / 2 ^ i % 2 = 1) := Nat.testBit_eq_decide_div_mod_eq
theorem six_bit (x : List UInt8) (i k : Nat) (hk : k < 6) : six x i / 2 ^ k % 2 = bitN x ((6 * i + (5 - k) : Nat) + 1) := by
  have h0 := bitN_le x ((6 * i + 0 : Nat) + 1); have h1 := bitN_le x ((6 * i + 1 : Nat) + 1); have h2 := bitN_le x ((6 * i + 2 : Nat) + 1)
  have h3 := bitN_le x ((6 * i + 3 : Nat) + 1); have h4 := bitN_le x ((6 * i + 4 : Nat) + 1); have h5 := bitN_le x ((6 * i + 5 : Nat) + 1)
  have e : six x i = 32 * bitN x ((6 * i + 0 : Nat) + 1) + 16 * bitN x ((6 * i + 1 : Nat) + 1) + 8 * bitN x ((6 * i + 2 : Nat) + 1) + 4 * bitN x ((6 * i + 3 : Nat) + 1) + 2 * bitN x ((6 * i + 4 : Nat) + 1) + bitN x ((6 * i + 5 : Nat) + 1) := by
    simp only [six, sixG]
    omega
  rw [e]
  match k, hk with
  | 0, _ => simp only [Nat.reduceSub, Nat.reducePow]; omega
  | 1, _ => simp only [Nat.reduceSub, Nat.reducePow]; omega
  | 2, _ => simp only [Nat.reduceSub, Nat.reducePow]; omega
  | 3, _ => simp only [Nat.reduceSub, Nat.reducePow]; omega
  | 4, _ => simp only [Nat.reduceSub, Nat.reducePow]; omega
  | 5, _ => simp only [Nat.reduceSub, Nat.reducePow]; omega
theorem two_nought_bit (k : List UInt8) (q : Nat) (hq : q < 8 * k.length) : bitN (0 :: 0 :: k) (((16 + q : Nat) : Int) + 1) = bitN k ((q : Int) + 1) := by
  rw [bitN_in (by simp; omega), bitN_in (by omega), show (16 + q) / 8 = q / 8 + 1 + 1 by omega, show (16 + q) % 8 = q % 8 by omega]
  simp [List.getD]
/-- Six bits of a half and of a key, side by side, are what E and a sum make of them. -/
theorem window (r k : List UInt8) (i : Nat) (hr : r.length = 4) (hk : k.length = 6) (hi : i < 8) :
    rolN 32 (beN r 4) ((4 * i + 31) % 32) / 2 ^ 26 ^^^ (beN (0 :: 0 :: k) 8 / 2 ^ (42 - 6 * i) % 64) = six (fx r k) i := by
  have hR : beN r 4 < 2 ^ 32 := beN_lt r 4
  have hA : rolN 32 (beN r 4) ((4 * i + 31) % 32) / 2 ^ 26 < 2 ^ 6 := by
    have := rolN_lt 32 (beN r 4) ((4 * i + 31) % 32) hR
    omega
  have hB : beN (0 :: 0 :: k) 8 / 2 ^ (42 - 6 * i) % 64 < 2 ^ 6 := Nat.mod_lt _ (by omega)
  refine eq_of_bits 6 _ _ (Nat.xor_lt_two_pow hA hB) (six_lt _ _) fun t ht => ?_
  have hs := six_bit (fx r k) i t ht
  rw [fx_bit r k hk (6 * i + (5 - t)) (by omega)] at hs
  rw [testBit_of (six _ _), hs, Nat.testBit_xor, Nat.testBit_div_two_pow, rolN_bit 32 _ _ _ hR (by omega) (by omega), show (64 : Nat) = 2 ^ 6 from rfl, Nat.testBit_mod_two_pow, Nat.testBit_div_two_pow]
  rw [testBit_of, testBit_of]
  have e1 := beN_bit r 4 (by omega) ((4 * ((6 * i + (5 - t)) / 6) + (6 * i + (5 - t)) % 6 + 31) % 32) (by omega)
  have e2 := beN_bit (0 :: 0 :: k) 8 (by simp [hk]) (16 + (6 * i + (5 - t))) (by omega)
  rw [two_nought_bit k _ (by omega)] at e2
  have a1 : (t + 26 + 32 - (4 * i + 31) % 32) % 32 = 8 * 4 - 1 - (4 * ((6 * i + (5 - t)) / 6) + (6 * i + (5 - t)) % 6 + 31) % 32 := by omega
  have a2 : t + (42 - 6 * i) = 8 * 8 - 1 - (16 + (6 * i + (5 - t))) := by omega
  rw [a1, a2, e1, e2, decide_eq_true ht, Bool.true_and]
  have e3 : eF (6 * i + (5 - t)) = (((4 * ((6 * i + (5 - t)) / 6) + (6 * i + (5 - t)) % 6 + 31) % 32 : Nat) : Int) + 1 := by unfold eF; omega
  rw [← e3]
  have h1 := bitN_le r (eF (6 * i + (5 - t)))
  have h2 := bitN_le k (((6 * i + (5 - t) : Nat) : Int) + 1)
  generalize bitN r (eF (6 * i + (5 - t))) = a at *
  generalize bitN k (((6 * i + (5 - t) : Nat) : Int) + 1) = b at *
  match a, b, h1, h2 with
  | 0, 0, _, _ => rfl
  | 0, 1, _, _ => rfl
  | 1, 0, _, _ => rfl
  | 1, 1, _, _ => rfl
end Go.Proofs.YthfcndaccfpnmaaDoor
