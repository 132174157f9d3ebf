/- Plain facts on turns by quarters, sums of them, floats and complex numbers of whole parts; own lemmas of the verifier, no statement is proved here. -/
import Derived.Test.YthfiijmmebgmoaaProg
import Derived.Test.YthfiijmmebgmoaaMemN
import Derived.Test.YthfiijmmebgmoaaFL
import Derived.Laws.BitsAllLaws
import Derived.WalkMore
import Derived.WalkLawsBesides
import Derived.ScopeJumps
namespace Go.Proofs.Ythfiijmmebgmoaa
open Go.RowKit Ieee
theorem ret_int {k : IntKind} {a b : Int} (h : a = b) : Ending.returned (.int k a) = .returned (.int k b) := by rw [h]
theorem ret_bool {a b : Bool} (h : a = b) : Ending.returned (.bool a) = .returned (.bool b) := by rw [h]
theorem ret_float {k : FloatKind} {a b : Nat} (h : a = b) : Ending.returned (.float k a) = .returned (.float k b) := by rw [h]
theorem ret_cx {k : FloatKind} {a b c d : Nat} (h : a = c) (h2 : b = d) : Ending.returned (.complex k a b) = .returned (.complex k c d) := by rw [h, h2]
/-- The parts of a turn by n quarters. -/
def tR (n : Int) : Int := if n % 4 = 0 then 1 else if n % 4 = 2 then -1 else 0
def tI (n : Int) : Int := if n % 4 = 1 then 1 else if n % 4 = 3 then -1 else 0
theorem tR_mod {n m : Int} (h : n % 4 = m % 4) : tR n = tR m := by unfold tR; rw [h]
theorem tI_mod {n m : Int} (h : n % 4 = m % 4) : tI n = tI m := by unfold tI; rw [h]
theorem t_four (n : Int) : (n % 4 = 0 ∧ tR n = 1 ∧ tI n = 0) ∨ (n % 4 = 1 ∧ tR n = 0 ∧ tI n = 1) ∨ (n % 4 = 2 ∧ tR n = -1 ∧ tI n = 0) ∨ (n % 4 = 3 ∧ tR n = 0 ∧ tI n = -1) := by
  have h1 := Int.emod_nonneg n (show (4 : Int) ≠ 0 by omega)
  have h2 := Int.emod_lt_of_pos n (show (0 : Int) < 4 by omega)
  unfold tR tI
  rcases (show n % 4 = 0 ∨ n % 4 = 1 ∨ n % 4 = 2 ∨ n % 4 = 3 by omega) with h | h | h | h <;> simp [h]
theorem tR_abs (n : Int) : (tR n).natAbs ≤ 1 := by rcases t_four n with ⟨_, h, _⟩ | ⟨_, h, _⟩ | ⟨_, h, _⟩ | ⟨_, h, _⟩ <;> rw [h] <;> decide
theorem tI_abs (n : Int) : (tI n).natAbs ≤ 1 := by rcases t_four n with ⟨_, _, h⟩ | ⟨_, _, h⟩ | ⟨_, _, h⟩ | ⟨_, _, h⟩ <;> rw [h] <;> decide
/-- Turned by one, and by another one. -/
theorem t_add (n m : Int) : tR (n + m) = tR n * tR m - tI n * tI m ∧ tI (n + m) = tR n * tI m + tI n * tR m := by
  rcases t_four n with ⟨h1, h2, h3⟩ | ⟨h1, h2, h3⟩ | ⟨h1, h2, h3⟩ | ⟨h1, h2, h3⟩ <;> rcases t_four m with ⟨g1, g2, g3⟩ | ⟨g1, g2, g3⟩ | ⟨g1, g2, g3⟩ | ⟨g1, g2, g3⟩ <;>
    rw [h2, h3, g2, g3] <;> unfold tR tI <;> constructor <;> (repeat' split) <;> omega
theorem t_len (n : Int) : tR n * tR n + tI n * tI n = 1 := by
  rcases t_four n with ⟨_, h2, h3⟩ | ⟨_, h2, h3⟩ | ⟨_, h2, h3⟩ | ⟨_, h2, h3⟩ <;> rw [h2, h3] <;> decide
/-- A sum over 0 to k less 1. -/
def sm (f : Nat → Int) : Nat → Int
  | 0 => 0
  | k + 1 => sm f k + f k
theorem sm_congr {f g : Nat → Int} : ∀ k, (∀ i, i < k → f i = g i) → sm f k = sm g k
  | 0, _ => rfl
  | k + 1, h => by rw [sm, sm, sm_congr k fun i hi => h i (by omega), h k (by omega)]
theorem sm_add (f g : Nat → Int) : ∀ k, sm (fun i => f i + g i) k = sm f k + sm g k
  | 0 => rfl
  | k + 1 => by rw [sm, sm, sm, sm_add f g k]; omega
theorem sm_mul (c : Int) (f : Nat → Int) : ∀ k, sm (fun i => c * f i) k = c * sm f k
  | 0 => by simp [sm]
  | k + 1 => by rw [sm, sm, sm_mul c f k, Int.mul_add]
theorem sm_abs {f : Nat → Int} (h : ∀ i, (f i).natAbs ≤ 1) : ∀ k, (sm f k).natAbs ≤ k
  | 0 => by simp [sm]
  | k + 1 => by have := sm_abs h k; have := h k; rw [sm]; omega
theorem sm_plus (f : Nat → Int) (n : Nat) : ∀ k, sm f (n + k) = sm f n + sm (fun i => f (n + i)) k
  | 0 => by simp [sm]
  | k + 1 => by rw [← Nat.add_assoc, sm, sm_plus f n k, sm]; omega
theorem sm_zero : ∀ k, sm (fun _ => 0) k = 0
  | 0 => rfl
  | k + 1 => by rw [sm, sm_zero k]; rfl
/-- The sum of turns. -/
def eR (bs : List UInt8) (a : Int) (k : Nat) : Int := sm (fun x => tR (byteAt bs x - a * x)) k
def eI (bs : List UInt8) (a : Int) (k : Nat) : Int := sm (fun x => tI (byteAt bs x - a * x)) k
theorem eR_abs (bs : List UInt8) (a : Int) (k : Nat) : (eR bs a k).natAbs ≤ k := sm_abs (fun _ => tR_abs _) k
theorem eI_abs (bs : List UInt8) (a : Int) (k : Nat) : (eI bs a k).natAbs ≤ k := sm_abs (fun _ => tI_abs _) k
theorem t_i64 (x a : Int) (k : Nat) : (x + wrap64 (wrap64 (-a) * k)) % 4 = (x - a * k) % 4 := by
  have h2 : ∀ y : Int, wrap64 y % 4 = y % 4 := fun y => by unfold wrap64; omega
  rw [Int.add_emod, h2, Int.mul_emod, h2, ← Int.mul_emod, ← Int.add_emod, Int.neg_mul]; rfl
/-! Floats. -/
theorem order_flv (z y : Bool) (v u : Int) (hv : v.natAbs < 2 ^ 53) (hu : u.natAbs < 2 ^ 53) : FloatKind.f64.format.order (flv z v) (flv y u) = some (compare v u) := by
  obtain ⟨i, hi⟩ := read_flv z v hv
  obtain ⟨j, hj⟩ := read_flv y u hu
  show double.order _ _ = _
  unfold Format.order
  rw [hi, hj]
  unfold Datum.order
  simp only
  have e1 : min (-(i : Int)) (-(j : Int)) = -((max i j : Nat) : Int) := by omega
  have e2 : (-(i : Int) - -((max i j : Nat) : Int)).toNat = max i j - i := by omega
  have e3 : (-(j : Int) - -((max i j : Nat) : Int)).toNat = max i j - j := by omega
  rw [e1, e2, e3, signed_val, signed_val, show i + (max i j - i) = max i j by omega, show j + (max i j - j) = max i j by omega]
  have hp := two_pos (max i j)
  congr 1
  generalize (2 : Int) ^ max i j = P at *
  rcases Int.lt_or_le v u with h | h
  · rw [Int.compare_eq_lt.2 h, Int.compare_eq_lt.2 (Int.mul_lt_mul_of_pos_right h hp)]
  · rcases Int.lt_or_le u v with h2 | h2
    · rw [Int.compare_eq_gt.2 h2, Int.compare_eq_gt.2 (Int.mul_lt_mul_of_pos_right h2 hp)]
    · have : v = u := by omega
      subst this
      rw [Int.compare_eq_eq.2 rfl, Int.compare_eq_eq.2 rfl]
theorem eqf (z y : Bool) (v u : Int) (hv : v.natAbs < 2 ^ 53) (hu : u.natAbs < 2 ^ 53) : (FloatKind.f64.format.order (flv z v) (flv y u) == some .eq) = decide (v = u) := by
  rw [order_flv z y v u hv hu]
  by_cases h : v = u
  · rw [h, Int.compare_eq_eq.2 rfl]; simp
  · have h2 : compare v u ≠ .eq := fun e => h (Int.compare_eq_eq.1 e)
    cases hc : compare v u <;> simp_all
theorem leqf (z y : Bool) (v u : Int) (hv : v.natAbs < 2 ^ 53) (hu : u.natAbs < 2 ^ 53) : (FloatKind.f64.format.order (flv z v) (flv y u) == some .lt || FloatKind.f64.format.order (flv z v) (flv y u) == some .eq) = decide (v ≤ u) := by
  rw [order_flv z y v u hv hu]
  rcases Int.lt_or_le v u with h | h
  · rw [Int.compare_eq_lt.2 h, decide_eq_true (by omega)]; rfl
  · rcases Int.lt_or_le u v with h2 | h2
    · rw [Int.compare_eq_gt.2 h2, decide_eq_false (by omega)]; rfl
    · rw [Int.compare_eq_eq.2 (by omega), decide_eq_true (by omega)]; rfl
theorem ltf (z y : Bool) (v u : Int) (hv : v.natAbs < 2 ^ 53) (hu : u.natAbs < 2 ^ 53) : (FloatKind.f64.format.order (flv z v) (flv y u) == some .lt) = decide (v < u) := by
  rw [order_flv z y v u hv hu]
  rcases Int.lt_or_le v u with h | h
  · rw [Int.compare_eq_lt.2 h, decide_eq_true h]; rfl
  · rw [decide_eq_false (by omega)]
    rcases Int.lt_or_le u v with h2 | h2
    · rw [Int.compare_eq_gt.2 h2]; rfl
    · rw [Int.compare_eq_eq.2 (by omega)]; rfl
theorem f_0 : flv false 0 = 0 := by decide +kernel
theorem f_1 : flv false 1 = 4607182418800017408 := by decide +kernel
theorem f_m1 : flv false (-1) = 13830554455654793216 := by decide +kernel
theorem f_m0 : flv true 0 = 9223372036854775808 := by decide +kernel
theorem f_3 : flv false 3 = 4613937818241073152 := by decide +kernel
theorem f_4 : flv false 4 = 4616189618054758400 := by decide +kernel
theorem f_m4 : flv false (-4) = 13839561654909534208 := by decide +kernel
theorem f_20 : flv false 1048576 = 4697254411347427328 := by decide +kernel
/-- A sum whose left one is plain is plain. -/
theorem add_plain2 (y : Bool) (v u : Int) (hv : v.natAbs < 2 ^ 52) (hu : u.natAbs < 2 ^ 52) : floatBits .add .f64 (flv false v) (flv y u) = some (flv false (v + u)) := by
  rw [add_flv _ _ _ _ hv hu]
  congr 1
  by_cases h : v + u = 0
  · have : (sgn v false && sgn u y) = false := by
      unfold sgn
      by_cases hv0 : v = 0
      · rw [if_pos hv0]; rfl
      · by_cases hu0 : u = 0
        · omega
        · rw [if_neg hv0, if_neg hu0]
          rcases Int.lt_or_le v 0 with h1 | h1
          · rw [decide_eq_false (show ¬ u < 0 by omega), Bool.and_false]
          · rw [decide_eq_false (show ¬ v < 0 by omega), Bool.false_and]
    rw [this]
  · exact flv_any h
theorem add_any (z y : Bool) (v u : Int) (hv : v.natAbs < 2 ^ 52) (hu : u.natAbs < 2 ^ 52) : ∃ x, floatBits .add .f64 (flv z v) (flv y u) = some (flv x (v + u)) := ⟨_, add_flv z y v u hv hu⟩
/-- A product of complex numbers. -/
theorem cmul_any (a b c d : Int) (ha : a.natAbs < 2 ^ 20) (hb : b.natAbs < 2 ^ 20) (hc : c.natAbs < 2 ^ 20) (hd : d.natAbs < 2 ^ 20) :
    ∃ z y, cMulBits (flv false a) (flv false b) (flv false c) (flv false d) = some (flv z (a * c - b * d), flv y (a * d + b * c)) := by
  have key : ∀ x y : Int, x.natAbs < 2 ^ 20 → y.natAbs < 2 ^ 20 → (x * y).natAbs < 2 ^ 40 := fun x y hx hy => by
    rw [Int.natAbs_mul, show (2 : Nat) ^ 40 = 2 ^ 20 * 2 ^ 20 from rfl]
    exact Nat.mul_lt_mul_of_lt_of_lt hx hy
  have k1 := key a c ha hc
  have k2 := key b d hb hd
  have k3 := key a d ha hd
  have k4 := key b c hb hc
  unfold cMulBits
  rw [mul_flv false false a c (by omega) (by omega) (by omega), Option.bind_some, mul_flv false false b d (by omega) (by omega) (by omega), Option.bind_some, sub_flv _ _ _ _ (by omega) (by omega), Option.bind_some,
    mul_flv false false a d (by omega) (by omega) (by omega), Option.bind_some, mul_flv false false b c (by omega) (by omega) (by omega), Option.bind_some, add_flv _ _ _ _ (by omega) (by omega), Option.bind_some]
  exact ⟨_, _, rfl⟩
theorem csum_any (y x : Bool) (a b c d : Int) (ha : a.natAbs < 2 ^ 52) (hb : b.natAbs < 2 ^ 52) (hc : c.natAbs < 2 ^ 52) (hd : d.natAbs < 2 ^ 52) :
    cSumBits .add .f64 (flv false a) (flv false b) (flv y c) (flv x d) = some (flv false (a + c), flv false (b + d)) := by
  unfold cSumBits
  rw [add_plain2 y a c ha hc, Option.bind_some, add_plain2 x b d hb hd, Option.bind_some]
theorem i64_and3 (n : Int) : bits .and .i64 n 3 = n % 4 := by
  have e0 : bits .and .i64 n 3 = IntKind.i64.wrap ((BitVec.ofInt 64 n &&& BitVec.ofInt 64 3).toNat : Int) := rfl
  rw [e0, BitVec.toNat_and, BitVec.toNat_ofInt, show (BitVec.ofInt 64 3).toNat = 3 from rfl, nat_mask2]
  simp [IntKind.wrap, IntKind.bits, IntKind.signed]
  omega
theorem tmod_four (n : Int) : Int.tmod (n.tmod 4 + 4) 4 = n % 4 := by
  have h := @Int.tmod_eq_emod n 4
  have h1 := Int.emod_nonneg n (show (4 : Int) ≠ 0 by omega)
  have h2 := Int.emod_lt_of_pos n (show (0 : Int) < 4 by omega)
  have h3 : 0 ≤ n.tmod 4 + 4 := by split at h <;> omega
  rw [Int.tmod_eq_emod_of_nonneg h3]
  split at h <;> omega
end Go.Proofs.Ythfiijmmebgmoaa
