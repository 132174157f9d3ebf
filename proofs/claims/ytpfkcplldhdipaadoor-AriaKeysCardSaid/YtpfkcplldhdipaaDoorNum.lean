/- Plain arithmetic of bytes and words; own lemmas of the verifier, no statement is proved here. -/
import Derived.Test.YtpfkcplldhdipaaDoorMem
namespace Go.Proofs.YtpfkcplldhdipaaDoor
open Go.RowKit
theorem and_split (a b c d k : Nat) (hb : b < 2 ^ k) (hd : d < 2 ^ k) : (2 ^ k * a + b) &&& (2 ^ k * c + d) = 2 ^ k * (a &&& c) + (b &&& d) := by
  have h3 : b &&& d < 2 ^ k := Nat.lt_of_le_of_lt Nat.and_le_left hb
  apply Nat.eq_of_testBit_eq
  intro i
  rw [Nat.testBit_and, Nat.testBit_two_pow_mul_add a hb, Nat.testBit_two_pow_mul_add c hd, Nat.testBit_two_pow_mul_add _ h3]
  split <;> simp
theorem or_split (a b c d k : Nat) (hb : b < 2 ^ k) (hd : d < 2 ^ k) : (2 ^ k * a + b) ||| (2 ^ k * c + d) = 2 ^ k * (a ||| c) + (b ||| d) := by
  have h3 : b ||| d < 2 ^ k := Nat.or_lt_two_pow hb hd
  apply Nat.eq_of_testBit_eq
  intro i
  rw [Nat.testBit_or, Nat.testBit_two_pow_mul_add a hb, Nat.testBit_two_pow_mul_add c hd, Nat.testBit_two_pow_mul_add _ h3]
  split <;> simp
theorem mask_mid (x : Nat) : x &&& 16711935 = x % 256 + x / 65536 % 256 * 65536 := by
  have e1 : x = 2 ^ 16 * (x / 65536) + x % 65536 := by omega
  have e2 : (16711935 : Nat) = 2 ^ 16 * 255 + 255 := rfl
  rw [e1, e2, and_split _ _ _ _ _ (by omega) (by omega), nat_mask8, nat_mask8]
  omega
/-- The bytes of a word turned about, as the library does it. -/
def rev32 (a : Int) : Int :=
  bits .or .u32
    (bits .or .u32 (bits .and .u32 (a / 256) 16711935) (bits .and .u32 a 16711935 * 256 % 4294967296) / 65536)
    (bits .or .u32 (bits .and .u32 (a / 256) 16711935) (bits .and .u32 a 16711935 * 256 % 4294967296) * 65536 % 4294967296)
theorem or_bytes (p q : Nat) (hp : p % 256 + p / 65536 % 256 * 65536 = p) (hq : q % 256 + q / 65536 % 256 * 65536 = q) : (p ||| q * 256) = p + q * 256 := by
  have e1 : 2 ^ 16 * (p / 65536) + p % 65536 = p := by omega
  have e2 : 2 ^ 16 * (q / 65536 * 256) + (q % 65536 * 256) = q * 256 := by omega
  have j1 : (p / 65536 ||| q / 65536 * 256) = p / 65536 + q / 65536 * 256 := by
    rw [Nat.or_comm, nat_join 8 _ _ (by omega) (by omega)]; omega
  have j2 : (p % 65536 ||| q % 65536 * 256) = p % 65536 + q % 65536 * 256 := by
    rw [Nat.or_comm, nat_join 8 _ _ (by omega) (by omega)]; omega
  have key := or_split (p / 65536) (p % 65536) (q / 65536 * 256) (q % 65536 * 256) 16 (by omega) (by omega)
  rw [e1, e2, j1, j2] at key
  rw [key]; omega
theorem rev32_bytes (b0 b1 b2 b3 : Nat) (h0 : b0 < 256) (h1 : b1 < 256) (h2 : b2 < 256) (h3 : b3 < 256) :
    rev32 ((b3 * 16777216 + b2 * 65536 + b1 * 256 + b0 : Nat) : Int) = ((b0 * 16777216 + b1 * 65536 + b2 * 256 + b3 : Nat) : Int) := by
  obtain ⟨x, hx⟩ : ∃ x, x = b3 * 16777216 + b2 * 65536 + b1 * 256 + b0 := ⟨_, rfl⟩
  rw [← hx]
  unfold rev32
  have a1 : bits .and .u32 ((x : Int) / 256) 16711935 = ((b1 + b3 * 65536 : Nat) : Int) := by
    rw [show (16711935 : Int) = ((16711935 : Nat) : Int) from rfl, show (x : Int) / 256 = ((x / 256 : Nat) : Int) by omega, u32_and_nat _ _ (by omega) (by omega), mask_mid]
    omega
  have a2 : bits .and .u32 (x : Int) 16711935 = ((b0 + b2 * 65536 : Nat) : Int) := by
    rw [show (16711935 : Int) = ((16711935 : Nat) : Int) from rfl, u32_and_nat _ _ (by omega) (by omega), mask_mid]
    omega
  have a3 : bits .or .u32 ((b1 + b3 * 65536 : Nat) : Int) (((b0 + b2 * 65536 : Nat) : Int) * 256 % 4294967296) = ((b1 + b3 * 65536 + (b0 + b2 * 65536) * 256 : Nat) : Int) := by
    rw [show (((b0 + b2 * 65536 : Nat) : Int) * 256 % 4294967296) = (((b0 + b2 * 65536) * 256 : Nat) : Int) by omega, u32_or_nat _ _ (by omega) (by omega), or_bytes _ _ (by omega) (by omega)]
  rw [a1, a2, a3]
  obtain ⟨m, hm⟩ : ∃ m, m = b1 + b3 * 65536 + (b0 + b2 * 65536) * 256 := ⟨_, rfl⟩
  rw [← hm]
  rw [show (m : Int) / 65536 = ((m / 65536 : Nat) : Int) by omega, show (m : Int) * 65536 % 4294967296 = ((m * 65536 % 4294967296 : Nat) : Int) by omega, u32_or_nat _ _ (by omega) (by omega), Nat.or_comm, nat_join 16 _ _ (by omega) (by omega)]
  omega
theorem rev32_eq (a : Int) (h0 : 0 ≤ a) (h1 : a < 4294967296) : rev32 a = a % 256 * 16777216 + a / 256 % 256 * 65536 + a / 65536 % 256 * 256 + a / 16777216 := by
  obtain ⟨x, rfl⟩ := Int.eq_ofNat_of_zero_le h0
  have := rev32_bytes (x % 256) (x / 256 % 256) (x / 65536 % 256) (x / 16777216) (by omega) (by omega) (by omega) (by omega)
  rw [show x / 16777216 * 16777216 + x / 65536 % 256 * 65536 + x / 256 % 256 * 256 + x % 256 = x by omega] at this
  rw [this]
  omega
def stepBe (v x : Int) : Int := bits .or .u64 (IntKind.u64.wrap (v * 256)) x
theorem stepBe_eq (v x : Int) (h0 : 0 ≤ v) (h1 : v < 72057594037927936) (h2 : 0 ≤ x) (h3 : x ≤ 255) : stepBe v x = v * 256 + x := by
  obtain ⟨a, rfl⟩ := Int.eq_ofNat_of_zero_le h0
  obtain ⟨b, rfl⟩ := Int.eq_ofNat_of_zero_le h2
  unfold stepBe
  rw [IntKind.wrap_u64, show (a : Int) * 256 % 18446744073709551616 = ((a * 256 : Nat) : Int) by omega, u64_or_nat _ _ (by omega) (by omega), nat_join 8 _ _ (by omega) (by omega)]
  omega
def be (bs : List UInt8) : Nat → Int
  | 0 => 0
  | k + 1 => stepBe (be bs k) (byteAt bs k)
def le (bs : List UInt8) (n : Nat) : Nat → Int
  | 0 => 0
  | k + 1 => stepBe (le bs n k) (byteAt bs (n - 1 - k))
theorem be4 (bs : List UInt8) : be bs 4 = byteAt bs 0 * 16777216 + byteAt bs 1 * 65536 + byteAt bs 2 * 256 + byteAt bs 3 := by
  have h0 := byteAt_lo bs 0; have h1 := byteAt_lo bs 1; have h2 := byteAt_lo bs 2; have h3 := byteAt_lo bs 3
  have k0 := byteAt_hi bs 0; have k1 := byteAt_hi bs 1; have k2 := byteAt_hi bs 2; have k3 := byteAt_hi bs 3
  simp only [be]
  rw [stepBe_eq 0 _ (by omega) (by omega) h0 k0, stepBe_eq _ _ (by omega) (by omega) h1 k1, stepBe_eq _ _ (by omega) (by omega) h2 k2, stepBe_eq _ _ (by omega) (by omega) h3 k3]
  omega
theorem le4 (bs : List UInt8) : le bs 4 4 = byteAt bs 3 * 16777216 + byteAt bs 2 * 65536 + byteAt bs 1 * 256 + byteAt bs 0 := by
  have h0 := byteAt_lo bs 0; have h1 := byteAt_lo bs 1; have h2 := byteAt_lo bs 2; have h3 := byteAt_lo bs 3
  have k0 := byteAt_hi bs 0; have k1 := byteAt_hi bs 1; have k2 := byteAt_hi bs 2; have k3 := byteAt_hi bs 3
  have e : le bs 4 4 = stepBe (stepBe (stepBe (stepBe 0 (byteAt bs 3)) (byteAt bs 2)) (byteAt bs 1)) (byteAt bs 0) := rfl
  rw [e, stepBe_eq 0 _ (by omega) (by omega) h3 k3, stepBe_eq _ (byteAt bs 2) (by omega) (by omega) h2 k2, stepBe_eq _ (byteAt bs 1) (by omega) (by omega) h1 k1, stepBe_eq _ (byteAt bs 0) (by omega) (by omega) h0 k0]
  omega
theorem rev_be4 (bs : List UInt8) : rev32 (be bs 4) = le bs 4 4 := by
  have h0 := byteAt_lo bs 0; have h1 := byteAt_lo bs 1; have h2 := byteAt_lo bs 2; have h3 := byteAt_lo bs 3
  have k0 := byteAt_hi bs 0; have k1 := byteAt_hi bs 1; have k2 := byteAt_hi bs 2; have k3 := byteAt_hi bs 3
  rw [be4, le4, rev32_eq _ (by omega) (by omega)]
  omega
theorem be8 (bs : List UInt8) : be bs 8 = byteAt bs 0 * 72057594037927936 + byteAt bs 1 * 281474976710656 + byteAt bs 2 * 1099511627776 + byteAt bs 3 * 4294967296 + byteAt bs 4 * 16777216 + byteAt bs 5 * 65536 + byteAt bs 6 * 256 + byteAt bs 7 := by
  have h0 := byteAt_lo bs 0; have h1 := byteAt_lo bs 1; have h2 := byteAt_lo bs 2; have h3 := byteAt_lo bs 3
  have k0 := byteAt_hi bs 0; have k1 := byteAt_hi bs 1; have k2 := byteAt_hi bs 2; have k3 := byteAt_hi bs 3
  have h4 := byteAt_lo bs 4; have h5 := byteAt_lo bs 5; have h6 := byteAt_lo bs 6; have h7 := byteAt_lo bs 7
  have k4 := byteAt_hi bs 4; have k5 := byteAt_hi bs 5; have k6 := byteAt_hi bs 6; have k7 := byteAt_hi bs 7
  simp only [be]
  rw [stepBe_eq 0 _ (by omega) (by omega) h0 k0, stepBe_eq _ _ (by omega) (by omega) h1 k1, stepBe_eq _ _ (by omega) (by omega) h2 k2, stepBe_eq _ _ (by omega) (by omega) h3 k3,
    stepBe_eq _ _ (by omega) (by omega) h4 k4, stepBe_eq _ _ (by omega) (by omega) h5 k5, stepBe_eq _ _ (by omega) (by omega) h6 k6, stepBe_eq _ _ (by omega) (by omega) h7 k7]
  omega
/-- The four bytes of a word, the highest first; the lowest first. -/
def put32 (v : Int) : List UInt8 := [u8 (v / 16777216), u8 (v / 65536), u8 (v / 256), u8 v]
def putL32 (v : Int) : List UInt8 := [u8 v, u8 (v / 256), u8 (v / 65536), u8 (v / 16777216)]
def spreadF (v : Int) (n i : Nat) : UInt8 := u8 (v / 2 ^ (8 * (n - 1 - i)))
def spreadL (v : Int) (n : Nat) : List UInt8 := (List.range n).map (spreadF v n)
theorem u8_congr {a b : Int} (h : a % 256 = b % 256) : u8 a = u8 b := by unfold u8; rw [h]
theorem spread4 (v : Int) : spreadL v 4 = put32 v := by
  simp [spreadL, List.range, List.range.loop, spreadF, put32]
theorem spread8 (v : Int) : spreadL v 8 = put32 (v / 4294967296) ++ put32 (v % 4294967296) := by
  simp [spreadL, List.range, List.range.loop, spreadF, put32]
  refine ⟨?_, ?_, ?_, ?_, ?_, ?_, ?_⟩ <;> apply u8_congr <;> omega
theorem bytes_of (v : Int) (h0 : 0 ≤ v) (h1 : v < 4294967296) : ∃ b0 b1 b2 b3 : Int, 0 ≤ b0 ∧ b0 < 256 ∧ 0 ≤ b1 ∧ b1 < 256 ∧ 0 ≤ b2 ∧ b2 < 256 ∧ 0 ≤ b3 ∧ b3 < 256 ∧ v = b3 * 16777216 + b2 * 65536 + b1 * 256 + b0 :=
  ⟨v % 256, v / 256 % 256, v / 65536 % 256, v / 16777216, by omega, by omega, by omega, by omega, by omega, by omega, by omega, by omega, by omega⟩
theorem put32_bytes (b0 b1 b2 b3 : Int) (k0 : 0 ≤ b0) (l0 : b0 < 256) (k1 : 0 ≤ b1) (l1 : b1 < 256) (k2 : 0 ≤ b2) (l2 : b2 < 256) :
    put32 (b3 * 16777216 + b2 * 65536 + b1 * 256 + b0) = [u8 b3, u8 b2, u8 b1, u8 b0] ∧ putL32 (b3 * 16777216 + b2 * 65536 + b1 * 256 + b0) = [u8 b0, u8 b1, u8 b2, u8 b3] := by
  have e1 : (b3 * 16777216 + b2 * 65536 + b1 * 256 + b0) / 256 = b3 * 65536 + b2 * 256 + b1 := by omega
  have e2 : (b3 * 16777216 + b2 * 65536 + b1 * 256 + b0) / 65536 = b3 * 256 + b2 := by omega
  have e3 : (b3 * 16777216 + b2 * 65536 + b1 * 256 + b0) / 16777216 = b3 := by omega
  have f1 : u8 (b3 * 65536 + b2 * 256 + b1) = u8 b1 := u8_congr (by omega)
  have f2 : u8 (b3 * 256 + b2) = u8 b2 := u8_congr (by omega)
  have f0 : u8 (b3 * 16777216 + b2 * 65536 + b1 * 256 + b0) = u8 b0 := u8_congr (by omega)
  unfold put32 putL32
  rw [e1, e2, e3, f0, f1, f2]
  exact ⟨rfl, rfl⟩
theorem rev32_ints (b0 b1 b2 b3 : Int) (k0 : 0 ≤ b0) (l0 : b0 < 256) (k1 : 0 ≤ b1) (l1 : b1 < 256) (k2 : 0 ≤ b2) (l2 : b2 < 256) (k3 : 0 ≤ b3) (l3 : b3 < 256) :
    rev32 (b3 * 16777216 + b2 * 65536 + b1 * 256 + b0) = b0 * 16777216 + b1 * 65536 + b2 * 256 + b3 := by
  obtain ⟨c0, rfl⟩ := Int.eq_ofNat_of_zero_le k0
  obtain ⟨c1, rfl⟩ := Int.eq_ofNat_of_zero_le k1
  obtain ⟨c2, rfl⟩ := Int.eq_ofNat_of_zero_le k2
  obtain ⟨c3, rfl⟩ := Int.eq_ofNat_of_zero_le k3
  have := rev32_bytes c0 c1 c2 c3 (by omega) (by omega) (by omega) (by omega)
  rw [show (c3 : Int) * 16777216 + c2 * 65536 + c1 * 256 + c0 = ((c3 * 16777216 + c2 * 65536 + c1 * 256 + c0 : Nat) : Int) by omega, this]
  omega
theorem put_rev (v : Int) (h0 : 0 ≤ v) (h1 : v < 4294967296) : put32 (rev32 v) = putL32 v := by
  obtain ⟨b0, b1, b2, b3, k0, l0, k1, l1, k2, l2, k3, l3, hv⟩ := bytes_of v h0 h1
  rw [hv, rev32_ints b0 b1 b2 b3 k0 l0 k1 l1 k2 l2 k3 l3, (put32_bytes b0 b1 b2 b3 k0 l0 k1 l1 k2 l2).2, (put32_bytes b3 b2 b1 b0 k3 l3 k2 l2 k1 l1).1]
end Go.Proofs.YtpfkcplldhdipaaDoor
