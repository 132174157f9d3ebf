/- Plain facts on sums of bits of a byte by rows, and on powers by halves; own lemmas of the verifier, no statement is proved here. -/
import Derived.Test.YtpfkcplldhdipaaDoorF2
namespace Go.Proofs.YtpfkcplldhdipaaDoor
open Go.RowKit
/-- Whether an odd number of the first k bits are set. -/
def parK (y : Nat) : Nat → Nat
  | 0 => 0
  | k + 1 => (parK y k + y / 2 ^ k % 2) % 2
def par (y : Nat) : Nat := parK y 8
theorem parK_le (y : Nat) : ∀ k, parK y k ≤ 1
  | 0 => by simp [parK]
  | k + 1 => by rw [parK]; omega
theorem par_le (y : Nat) : par y ≤ 1 := parK_le y 8
theorem par_half : ∀ y < 256, par (y / 16) ^^^ par (y % 16) = par y := by decide +kernel
def oddT : List Nat := [0, 1, 1, 0, 1, 0, 0, 1, 1, 0, 0, 1, 0, 1, 1, 0]
theorem oddT_par : ∀ h < 16, oddT.getD h 0 = par h := by decide +kernel
theorem one_xor {a b : Nat} (ha : a ≤ 1) (hb : b ≤ 1) : a ^^^ b = (a + b) % 2 := by
  match a, b, ha, hb with
  | 0, 0, _, _ | 0, 1, _, _ | 1, 0, _, _ | 1, 1, _, _ => rfl
theorem one_mul_xor {a b : Nat} (ha : a ≤ 1) (hb : b ≤ 1) (s : Nat) : (a * s) ^^^ (b * s) = ((a + b) % 2) * s := by
  match a, b, ha, hb with
  | 0, 0, _, _ | 0, 1, _, _ | 1, 0, _, _ | 1, 1, _, _ => simp
theorem parK_xor (a b : Nat) : ∀ k, parK (a ^^^ b) k = (parK a k + parK b k) % 2
  | 0 => rfl
  | k + 1 => by
    rw [parK, parK_xor a b k, bit_xor, parK, parK]; omega
theorem par_and_xor (x y r : Nat) : par ((x ^^^ y) &&& r) = (par (x &&& r) + par (y &&& r)) % 2 := by
  rw [Nat.and_xor_distrib_right]; exact parK_xor _ _ 8
theorem par_and_xor' (x r b : Nat) : par (x &&& (r ^^^ b)) = (par (x &&& r) + par (x &&& b)) % 2 := by
  rw [Nat.and_xor_distrib_left]; exact parK_xor _ _ 8
theorem parK_zero : ∀ k, parK 0 k = 0
  | 0 => rfl
  | k + 1 => by rw [parK, parK_zero k]; simp
theorem par_zero : par 0 = 0 := parK_zero 8
theorem bit_lt {p k : Nat} (hp : p ≤ 1) (hk : k < 8) : p * 2 ^ k < 256 := by
  have := pow2_lt hk
  have h := Nat.mul_le_mul_right (2 ^ k) hp
  omega
/-- The sum behind k rows. -/
def affG (x : Nat) (rs : Nat → Nat) (c : Nat) : Nat → Nat
  | 0 => c
  | k + 1 => affG x rs c k ^^^ (par (x &&& rs k) * 2 ^ k)
def affN (x : Nat) (rs : Nat → Nat) (c : Nat) : Nat := affG x rs c 8
theorem affG_lt {x c : Nat} {rs : Nat → Nat} (hc : c < 256) : ∀ k, k ≤ 8 → affG x rs c k < 256
  | 0, _ => hc
  | k + 1, h => xor_lt8 (affG_lt hc k (by omega)) (bit_lt (par_le _) (by omega))
theorem affN_lt {x c : Nat} {rs : Nat → Nat} (hc : c < 256) : affN x rs c < 256 := affG_lt hc 8 (Nat.le_refl _)
theorem affG_behind (x c : Nat) (rs : Nat → Nat) : ∀ k, affG x rs c k = affG x rs 0 k ^^^ c
  | 0 => by simp [affG]
  | k + 1 => by
    rw [affG, affG_behind x c rs k, affG, Nat.xor_assoc, Nat.xor_assoc, Nat.xor_comm c]
theorem affG_xor (x y c : Nat) (rs : Nat → Nat) : ∀ k, affG (x ^^^ y) rs c k = affG x rs c k ^^^ affG y rs 0 k
  | 0 => by simp [affG]
  | k + 1 => by
    rw [affG, affG_xor x y c rs k, par_and_xor, ← one_mul_xor (par_le _) (par_le _), affG, affG, xor_shuffle]
theorem affG_none (c : Nat) (rs : Nat → Nat) : ∀ k, affG 0 rs c k = c
  | 0 => rfl
  | k + 1 => by rw [affG, affG_none c rs k, Nat.zero_and, par_zero]; simp
theorem affG_empty (x c : Nat) {rs : Nat → Nat} (h : ∀ k, rs k = 0) : ∀ k, affG x rs c k = c
  | 0 => rfl
  | k + 1 => by rw [affG, affG_empty x c h k, h, Nat.and_zero, par_zero]; simp
theorem affG_congr {x c : Nat} {rs ss : Nat → Nat} : ∀ k, (∀ j, j < k → rs j = ss j) → affG x rs c k = affG x ss c k
  | 0, _ => rfl
  | k + 1, h => by rw [affG, affG, affG_congr k (fun j hj => h j (by omega)), h k (by omega)]
/-- A row turned. -/
theorem affG_row {x c b k : Nat} {rs ss : Nat → Nat} (h : ss k = rs k ^^^ b) (ho : ∀ j, j ≠ k → ss j = rs j) : ∀ n, affG x ss c n = affG x rs c n ^^^ (if k < n then par (x &&& b) * 2 ^ k else 0)
  | 0 => by simp [affG]
  | n + 1 => by
    rw [affG, affG, affG_row h ho n]
    rcases Nat.lt_trichotomy k n with h1 | h1 | h1
    · rw [if_pos h1, if_pos (by omega), ho n (by omega), Nat.xor_assoc, Nat.xor_assoc, Nat.xor_comm (par (x &&& b) * 2 ^ k)]
    · subst h1
      rw [if_neg (by omega), if_pos (by omega), h, par_and_xor', ← one_mul_xor (par_le _) (par_le _), Nat.xor_zero, Nat.xor_assoc]
    · rw [if_neg (by omega), if_neg (by omega), ho n (by omega)]; simp
def oneR (k : Nat) : Nat := [1, 2, 4, 8, 16, 32, 64, 128].getD k 0
theorem aff_one0 : ∀ x < 256, affN x oneR 0 = x := by decide +kernel
theorem aff_one {x c : Nat} (hx : x < 256) : affN x oneR c = x ^^^ c := by
  unfold affN; rw [affG_behind]; rw [show affG x oneR 0 8 = affN x oneR 0 from rfl, aff_one0 x hx]
/-- A power, by halves. -/
def pwG (m : Nat) : Nat → Nat → Nat → Nat → Nat
  | 0, p, _, _ => p
  | f + 1, p, x, n => if n = 0 then p else pwG m f (if n % 2 = 1 then gm m p x else p) (gm m x x) (n / 2)
def pw (m x n : Nat) : Nat := pwG m 10 1 x n
theorem pwG_eq {m : Nat} (hm : IsRest m) : ∀ (f p x n : Nat), p < 256 → x < 256 → n < 2 ^ f → pwG m f p x n = gm m p (gp m x n)
  | 0, p, x, n, _, _, hn => by
    obtain rfl : n = 0 := by simpa using hn
    rw [pwG, show gp m x 0 = 1 from rfl, gm_one]
  | f + 1, p, x, n, hp, hx, hn => by
    rw [pwG]
    by_cases h0 : n = 0
    · subst h0
      rw [if_pos rfl, show gp m x 0 = 1 from rfl, gm_one]
    · rw [if_neg h0]
      have h2 : n / 2 < 2 ^ f := by rw [Nat.pow_succ] at hn; omega
      by_cases h1 : n % 2 = 1
      · rw [if_pos h1, pwG_eq hm f _ _ _ (gm_lt hm hp _) (gm_lt hm hx _) h2, gp_half_odd hm hp hx h1]
      · rw [if_neg h1, pwG_eq hm f _ _ _ hp (gm_lt hm hx _) h2, ← gp_half_even hm hx (by omega)]
theorem pw_eq {m x n : Nat} (hm : IsRest m) (hx : x < 256) (hn : n < 1024) : pw m x n = gp m x n := by
  unfold pw
  rw [pwG_eq hm 10 1 x n (by omega) hx hn, gm_one_left hm (gp_lt hm _)]
end Go.Proofs.YtpfkcplldhdipaaDoor
