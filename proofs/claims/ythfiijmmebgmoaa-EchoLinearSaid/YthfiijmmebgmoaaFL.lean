/- Plain facts on floats that stand for whole numbers; own lemmas of the verifier, no statement is proved here. -/
import Derived.Laws.ComplexArith
namespace Go.Proofs.Ythfiijmmebgmoaa
open Ieee
/-- The word of a whole number with its sign (a nought has one, too). -/
def fl (s : Bool) (m : Nat) : Nat := double.nearest s m 0
theorem dW : double.signWeight = 2 ^ 63 := rfl
theorem dB : double.binade = 2 ^ 52 := rfl
theorem dI : double.infRung = 2047 * 2 ^ 52 := rfl
theorem dL : double.leastPlace = -1074 := rfl
theorem dF : double.fractionBits = 52 := rfl
theorem read_word (s : Bool) (r : Nat) (h : r < 2 ^ 63) : double.read (double.word s r) =
    if r < 2 ^ 52 then .number s r (-1074) else if r < 2047 * 2 ^ 52 then .number s (2 ^ 52 + r % 2 ^ 52) (-1074 + (r / 2 ^ 52 - 1 : Nat)) else if r = 2047 * 2 ^ 52 then .infinity s else .nan s (r - 2047 * 2 ^ 52) := by
  have h1 : (double.word s r / double.signWeight % 2 == 1) = s := by
    unfold Format.word
    rw [dW]
    cases s
    · simp only [Bool.false_eq_true, if_false, Nat.div_eq_of_lt h]; rfl
    · have : (2 ^ 63 + r) / 2 ^ 63 = 1 := by omega
      simp only [if_true, this]; rfl
  have h2 : double.word s r % double.signWeight = r := by
    unfold Format.word
    rw [dW]
    cases s
    · simp only [Bool.false_eq_true, if_false]; exact Nat.mod_eq_of_lt h
    · simp only [if_true]; omega
  unfold Format.read
  simp only [h1, h2, dB, dI, dL]
theorem cut_none (way : Toward) (s : Bool) (n : Nat) (hw : way = .even) : way.cut s n 0 = n := by
  subst hw
  unfold Toward.cut
  simp only [Nat.zero_min, Nat.shiftLeft_zero, Nat.div_one, Nat.mod_one]
  simp
theorem cut_exact (s : Bool) (q d : Nat) (hq : 0 < q) : Toward.even.cut s (q * 2 ^ d) d = q := by
  have hl : d ≤ (q * 2 ^ d).log2 := by
    rw [Nat.le_log2 (by have := Nat.two_pow_pos d; have := Nat.mul_pos hq this; omega)]
    exact Nat.le_mul_of_pos_left _ hq
  unfold Toward.cut
  have hm : min d ((q * 2 ^ d).log2 + 2) = d := Nat.min_eq_left (by omega)
  simp only [hm, Nat.one_shiftLeft, Nat.mul_mod_left, Nat.mul_div_cancel _ (Nat.two_pow_pos d)]
  simp
theorem log2_shift (m k : Nat) (hm : 0 < m) : (m * 2 ^ k).log2 = m.log2 + k := by
  have h1 : m * 2 ^ k ≠ 0 := by have := Nat.mul_pos hm (Nat.two_pow_pos k); omega
  rw [Nat.log2_eq_iff h1]
  have h2 := (Nat.log2_eq_iff (show m ≠ 0 by omega)).1 rfl
  constructor
  · rw [Nat.pow_add]; exact Nat.mul_le_mul_right _ h2.1
  · rw [show m.log2 + k + 1 = (m.log2 + 1) + k by omega, Nat.pow_add]; exact Nat.mul_lt_mul_of_pos_right h2.2 (Nat.two_pow_pos k)
/-- Where a whole number lies. -/
def rung (m : Nat) : Nat := (m.log2 + 1022) * 2 ^ 52 + m * 2 ^ (52 - m.log2)
theorem log2_lt53 {m : Nat} (hm : 0 < m) (h : m < 2 ^ 53) : m.log2 ≤ 52 := by
  have := (Nat.log2_lt (show m ≠ 0 by omega)).2 h
  omega
theorem top_bits {m : Nat} (hm : 0 < m) (h : m < 2 ^ 53) : 2 ^ 52 ≤ m * 2 ^ (52 - m.log2) ∧ m * 2 ^ (52 - m.log2) < 2 ^ 53 := by
  have hl := log2_lt53 hm h
  have h2 := (Nat.log2_eq_iff (show m ≠ 0 by omega)).1 rfl
  have e1 : 2 ^ m.log2 * 2 ^ (52 - m.log2) = 2 ^ 52 := by rw [← Nat.pow_add]; congr 1; omega
  have e2 : 2 ^ (m.log2 + 1) * 2 ^ (52 - m.log2) = 2 ^ 53 := by rw [← Nat.pow_add]; congr 1; omega
  have h3 := Nat.mul_le_mul_right (2 ^ (52 - m.log2)) h2.1
  have h4 := Nat.mul_lt_mul_of_pos_right h2.2 (Nat.two_pow_pos (52 - m.log2))
  omega
/-- A whole number, written with noughts behind, is written as it is. -/
theorem nearest_shift (s : Bool) (m k : Nat) (hm : 0 < m) (h : m < 2 ^ 53) : double.nearest s (m * 2 ^ k) (-(k : Int)) = double.word s (rung m) := by
  have hl := log2_lt53 hm h
  have h1 : m * 2 ^ k ≠ 0 := by have := Nat.mul_pos hm (Nat.two_pow_pos k); omega
  have ht := top_bits hm h
  unfold Format.nearest
  simp only [if_neg h1, log2_shift m k hm, dF, dL, dB, dI]
  have e1 : max (-(k : Int) + ((m.log2 + k : Nat) : Int) - (52 : Nat)) (-1074) = (m.log2 : Int) - 52 := by omega
  rw [e1]
  have e2 : ((m.log2 : Int) - 52 - -1074).toNat = m.log2 + 1022 := by omega
  rw [e2]
  have e3 : Toward.even.cut s ((m * 2 ^ k) <<< (-(k : Int) - ((m.log2 : Int) - 52)).toNat) ((m.log2 : Int) - 52 - -(k : Int)).toNat = m * 2 ^ (52 - m.log2) := by
    rcases Nat.le_total k (52 - m.log2) with hk | hk
    · rw [show ((m.log2 : Int) - 52 - -(k : Int)).toNat = 0 by omega, cut_none _ _ _ rfl, Nat.shiftLeft_eq, Nat.mul_assoc, ← Nat.pow_add]
      congr 2; omega
    · rw [show (-(k : Int) - ((m.log2 : Int) - 52)).toNat = 0 by omega, Nat.shiftLeft_zero, show ((m.log2 : Int) - 52 - -(k : Int)).toNat = k - (52 - m.log2) by omega]
      have e4 : m * 2 ^ k = m * 2 ^ (52 - m.log2) * 2 ^ (k - (52 - m.log2)) := by
        rw [Nat.mul_assoc, ← Nat.pow_add]; congr 2; omega
      rw [e4]
      exact cut_exact _ _ _ (Nat.mul_pos hm (Nat.two_pow_pos _))
  rw [e3]
  unfold rung
  congr 1
  omega
theorem nearest_zero (s : Bool) (p : Int) : double.nearest s 0 p = double.word s 0 := by unfold Format.nearest; simp
theorem fl_pos (s : Bool) (m : Nat) (hm : 0 < m) (h : m < 2 ^ 53) : fl s m = double.word s (rung m) := by
  have := nearest_shift s m 0 hm h
  simpa [fl] using this
/-- What a word of a whole number stands for: m times a power of two, less that power. -/
theorem read_fl (s : Bool) (m : Nat) (h : m < 2 ^ 53) : ∃ k : Nat, double.read (fl s m) = .number s (m * 2 ^ k) (-(k : Int)) := by
  rcases Nat.eq_zero_or_pos m with h0 | h0
  · subst h0
    obtain ⟨k, hk⟩ : ∃ k : Nat, k = 1074 := ⟨_, rfl⟩
    refine ⟨k, ?_⟩
    unfold fl
    rw [nearest_zero, read_word _ _ (by omega), if_pos (by omega), Nat.zero_mul, hk]
    rfl
  · have hl := log2_lt53 h0 h
    have ht := top_bits h0 h
    refine ⟨52 - m.log2, ?_⟩
    rw [fl_pos s m h0 h]
    obtain ⟨t, hte⟩ : ∃ t, m * 2 ^ (52 - m.log2) = 2 ^ 52 + t := ⟨m * 2 ^ (52 - m.log2) - 2 ^ 52, by omega⟩
    have hr : rung m = (m.log2 + 1023) * 2 ^ 52 + t := by unfold rung; rw [hte]; omega
    have ht2 : t < 2 ^ 52 := by omega
    rw [hr, read_word _ _ (by omega), if_neg (by omega), if_pos (by omega), hte]
    have e1 : ((m.log2 + 1023) * 2 ^ 52 + t) % 2 ^ 52 = t := by
      rw [Nat.add_comm, Nat.add_mul_mod_self_right, Nat.mod_eq_of_lt ht2]
    have e2 : ((m.log2 + 1023) * 2 ^ 52 + t) / 2 ^ 52 = m.log2 + 1023 := by
      rw [Nat.add_comm, Nat.add_mul_div_right _ _ (by omega), Nat.div_eq_of_lt ht2]; omega
    rw [e1, e2, show (-1074 : Int) + ((m.log2 + 1023 - 1 : Nat) : Int) = -((52 - m.log2 : Nat) : Int) by omega]
/-- Whatever has that value is written so. -/
theorem write_fl (s : Bool) (m k : Nat) (h : m < 2 ^ 53) : double.write (.number s (m * 2 ^ k) (-(k : Int))) = fl s m := by
  unfold Format.write
  simp only
  rcases Nat.eq_zero_or_pos m with h0 | h0
  · subst h0
    rw [Nat.zero_mul, nearest_zero]
    unfold fl
    rw [nearest_zero]
  · rw [nearest_shift s m k h0 h, fl_pos s m h0 h]
/-- The sign of a number; of a nought as told. -/
def sgn (v : Int) (z : Bool) : Bool := if v = 0 then z else decide (v < 0)
/-- The float of a whole number; of a nought with that sign. -/
def flv (z : Bool) (v : Int) : Nat := fl (sgn v z) v.natAbs
theorem signed_val (v : Int) (z : Bool) (k d : Nat) : signed (sgn v z) (v.natAbs * 2 ^ k) d = v * 2 ^ (k + d) := by
  unfold signed sgn
  have e : ((v.natAbs * 2 ^ k) <<< d : Nat) = v.natAbs * 2 ^ (k + d) := by rw [Nat.shiftLeft_eq, Nat.mul_assoc, ← Nat.pow_add]
  rw [e]
  have e2 : ((v.natAbs * 2 ^ (k + d) : Nat) : Int) = (v.natAbs : Int) * 2 ^ (k + d) := by push_cast; rfl
  rw [e2]
  by_cases h0 : v = 0
  · subst h0; simp
  · rw [if_neg h0]
    by_cases hn : v < 0
    · rw [if_pos (by simpa using hn), show v.natAbs = -v by omega, Int.neg_mul, Int.neg_neg]
    · rw [if_neg (by simpa using hn), show (v.natAbs : Int) = v by omega]
theorem read_flv (z : Bool) (v : Int) (h : v.natAbs < 2 ^ 53) : ∃ k : Nat, double.read (flv z v) = .number (sgn v z) (v.natAbs * 2 ^ k) (-(k : Int)) := read_fl _ _ h
theorem write_flv (z : Bool) (v : Int) (k : Nat) (h : v.natAbs < 2 ^ 53) : double.write (.number (sgn v z) (v.natAbs * 2 ^ k) (-(k : Int))) = flv z v := write_fl _ _ k h
theorem two_pos (k : Nat) : (0 : Int) < 2 ^ k := Int.pow_pos (by omega)
theorem scale_zero (v : Int) (k : Nat) : v * 2 ^ k = 0 ↔ v = 0 := by
  constructor
  · intro h
    rcases Int.mul_eq_zero.1 h with h1 | h1
    · exact h1
    · have := two_pos k; omega
  · rintro rfl; simp
theorem scale_neg (v : Int) (k : Nat) : v * 2 ^ k < 0 ↔ v < 0 := by
  have hp := two_pos k
  constructor
  · intro h
    rcases Int.lt_or_le v 0 with h1 | h1
    · exact h1
    · have := Int.mul_nonneg h1 (Int.le_of_lt hp); omega
  · intro h; exact Int.mul_neg_of_neg_of_pos h hp
theorem scale_abs (v : Int) (k : Nat) : (v * 2 ^ k).natAbs = v.natAbs * 2 ^ k := by
  rw [Int.natAbs_mul, Int.natAbs_pow]; rfl
/-- Sums. -/
theorem sum_flv (z y : Bool) (v u : Int) (i j : Nat) (h : (v + u).natAbs < 2 ^ 53) :
    (Datum.sum (.number (sgn v z) (v.natAbs * 2 ^ i) (-(i : Int))) (.number (sgn u y) (u.natAbs * 2 ^ j) (-(j : Int)))).map double.write = some (flv (sgn v z && sgn u y) (v + u)) := by
  unfold Datum.sum
  simp only [Option.map_some]
  have e1 : min (-(i : Int)) (-(j : Int)) = -((max i j : Nat) : Int) := by omega
  have e2 : (-(i : Int) - -((max i j : Nat) : Int)).toNat = max i j - i := by omega
  have e3 : (-(j : Int) - -((max i j : Nat) : Int)).toNat = max i j - j := by omega
  rw [e1, e2, e3, signed_val, signed_val, show i + (max i j - i) = max i j by omega, show j + (max i j - j) = max i j by omega, ← Int.add_mul, scale_abs]
  have e4 : (if (v + u) * 2 ^ max i j = 0 then (sgn v z && sgn u y) else decide ((v + u) * 2 ^ max i j < 0)) = sgn (v + u) (sgn v z && sgn u y) := by
    unfold sgn
    simp only [scale_zero, scale_neg]
  rw [e4, write_flv _ _ _ h]
theorem add_flv (z y : Bool) (v u : Int) (hv : v.natAbs < 2 ^ 52) (hu : u.natAbs < 2 ^ 52) : floatBits .add .f64 (flv z v) (flv y u) = some (flv (sgn v z && sgn u y) (v + u)) := by
  obtain ⟨i, hi⟩ := read_flv z v (by omega)
  obtain ⟨j, hj⟩ := read_flv y u (by omega)
  show double.add _ _ = _
  unfold Format.add
  rw [hi, hj]
  exact sum_flv z y v u i j (by omega)
theorem sgn_neg (u : Int) (y : Bool) : (!sgn u y) = sgn (-u) (!y) := by
  unfold sgn
  by_cases h0 : u = 0
  · subst h0; simp
  · rw [if_neg h0, if_neg (by omega)]
    rcases Int.lt_or_le u 0 with h | h
    · rw [decide_eq_true h, decide_eq_false (by omega)]; rfl
    · rw [decide_eq_false (by omega), decide_eq_true (by omega)]; rfl
theorem sub_flv (z y : Bool) (v u : Int) (hv : v.natAbs < 2 ^ 52) (hu : u.natAbs < 2 ^ 52) : floatBits .sub .f64 (flv z v) (flv y u) = some (flv (sgn v z && sgn (-u) (!y)) (v - u)) := by
  obtain ⟨i, hi⟩ := read_flv z v (by omega)
  obtain ⟨j, hj⟩ := read_flv y u (by omega)
  show double.sub _ _ = _
  unfold Format.sub
  rw [hi, hj]
  unfold Datum.opposite
  simp only
  rw [sgn_neg, show u.natAbs = (-u).natAbs by omega]
  exact sum_flv z (!y) v (-u) i j (by omega)
/-- Products. -/
theorem mul_flv (z y : Bool) (v u : Int) (hv : v.natAbs < 2 ^ 53) (hu : u.natAbs < 2 ^ 53) (h : (v * u).natAbs < 2 ^ 53) : floatBits .mul .f64 (flv z v) (flv y u) = some (flv (sgn v z ^^ sgn u y) (v * u)) := by
  obtain ⟨i, hi⟩ := read_flv z v hv
  obtain ⟨j, hj⟩ := read_flv y u hu
  show double.mul _ _ = _
  unfold Format.mul
  rw [hi, hj]
  unfold Datum.product
  simp only [Option.map_some]
  have e1 : v.natAbs * 2 ^ i * (u.natAbs * 2 ^ j) = (v * u).natAbs * 2 ^ (i + j) := by
    rw [Int.natAbs_mul, Nat.pow_add, Nat.mul_assoc, Nat.mul_left_comm (2 ^ i), ← Nat.mul_assoc]
  have e2 : -(i : Int) + -(j : Int) = -((i + j : Nat) : Int) := by omega
  have e3 : (sgn v z ^^ sgn u y) = sgn (v * u) (sgn v z ^^ sgn u y) := by
    by_cases hv0 : v = 0
    · subst hv0; simp [sgn]
    · by_cases hu0 : u = 0
      · subst hu0; simp [sgn]
      · have hne : v * u ≠ 0 := Int.mul_ne_zero hv0 hu0
        unfold sgn
        rw [if_neg hv0, if_neg hu0, if_neg hne]
        rcases Int.lt_or_gt_of_ne hv0 with h1 | h1 <;> rcases Int.lt_or_gt_of_ne hu0 with h2 | h2
        · have := Int.mul_pos_of_neg_of_neg h1 h2
          rw [decide_eq_true h1, decide_eq_true h2, decide_eq_false (by omega)]; rfl
        · have := Int.mul_neg_of_neg_of_pos h1 h2
          rw [decide_eq_true h1, decide_eq_false (by omega), decide_eq_true this]; rfl
        · have := Int.mul_neg_of_pos_of_neg h1 h2
          rw [decide_eq_false (by omega), decide_eq_true h2, decide_eq_true this]; rfl
        · have := Int.mul_pos h1 h2
          rw [decide_eq_false (by omega), decide_eq_false (by omega), decide_eq_false (by omega)]; rfl
  rw [e1, e2]
  conv => lhs; rw [e3]
  rw [write_flv _ _ _ h]
/-- Are two the same? -/
theorem eq_flv (z y : Bool) (v u : Int) (hv : v.natAbs < 2 ^ 53) (hu : u.natAbs < 2 ^ 53) : Op.floatEq .f64 (flv z v) (flv y u) = decide (v = u) := by
  obtain ⟨i, hi⟩ := read_flv z v hv
  obtain ⟨j, hj⟩ := read_flv y u hu
  show (double.order _ _ == some .eq) = _
  unfold Format.order
  rw [hi, hj]
  unfold Datum.order
  simp only
  have e1 : min (-(i : Int)) (-(j : Int)) = -((max i j : Nat) : Int) := by omega
  have e2 : (-(i : Int) - -((max i j : Nat) : Int)).toNat = max i j - i := by omega
  have e3 : (-(j : Int) - -((max i j : Nat) : Int)).toNat = max i j - j := by omega
  rw [e1, e2, e3, signed_val, signed_val, show i + (max i j - i) = max i j by omega, show j + (max i j - j) = max i j by omega]
  have hp := two_pos (max i j)
  by_cases h : v = u
  · subst h
    simp
  · have hne : v * 2 ^ max i j ≠ u * 2 ^ max i j := fun he => h (Int.eq_of_mul_eq_mul_right (by omega) he)
    have : compare (v * 2 ^ max i j) (u * 2 ^ max i j) ≠ .eq := fun he => hne (Int.compare_eq_eq.1 he)
    rw [decide_eq_false h]
    cases hc : compare (v * 2 ^ max i j) (u * 2 ^ max i j) with
    | eq => exact absurd hc this
    | lt => rfl
    | gt => rfl
/-- As a whole number again. -/
theorem toInt_flv (z : Bool) (v : Int) (hv : v.natAbs < 2 ^ 53) : floatToIntVal .f64 (flv z v) .i64 = some v := by
  obtain ⟨k, hk⟩ := read_flv z v hv
  have e : (FloatKind.f64.decode (flv z v)).toInt .zero = some v := by
    show (double.read (flv z v)).toInt .zero = some v
    rw [hk]
    unfold Datum.toInt Datum.integral
    simp only
    rw [show (-(k : Int)).toNat = 0 by omega, Nat.shiftLeft_zero, show (-(-(k : Int))).toNat = k by omega]
    have ec : Toward.zero.cut (sgn v z) (v.natAbs * 2 ^ k) k = v.natAbs := by
      unfold Toward.cut
      rcases Nat.eq_zero_or_pos v.natAbs with h0 | h0
      · rw [h0]; simp
      · have hl : k ≤ (v.natAbs * 2 ^ k).log2 := by rw [log2_shift _ _ h0]; omega
        rw [Nat.min_eq_left (by omega), Nat.one_shiftLeft]
        simp only [Nat.mul_div_cancel _ (Nat.two_pow_pos k)]
        simp
    rw [ec]
    have := signed_val v z 0 0
    simp only [Nat.pow_zero, Nat.mul_one, Nat.add_zero, Int.pow_zero, Int.mul_one] at this
    rw [this]
  unfold floatToIntVal
  rw [e]
  simp only
  rw [if_pos]
  simp [IntKind.min, IntKind.max, IntKind.bits, IntKind.signed]
  omega
/-- float64(n). -/
theorem ofInt_flv (n : Int) : floatOfInt .f64 n = flv false n := by
  show double.write (.number (decide (n < 0)) n.natAbs 0) = _
  unfold flv fl sgn Format.write
  simp only
  by_cases h : n = 0
  · subst h; rfl
  · rw [if_neg h]
theorem flv_any {z y : Bool} {v : Int} (h : v ≠ 0) : flv z v = flv y v := by unfold flv sgn; rw [if_neg h, if_neg h]
/-- A sum of numbers whose noughts are plain has a plain nought. -/
theorem add_plain (v u : Int) (hv : v.natAbs < 2 ^ 52) (hu : u.natAbs < 2 ^ 52) : floatBits .add .f64 (flv false v) (flv false u) = some (flv false (v + u)) := by
  rw [add_flv _ _ _ _ hv hu]
  congr 1
  by_cases h : v + u = 0
  · have : (sgn v false && sgn u false) = false := by
      unfold sgn
      by_cases hv0 : v = 0
      · rw [if_pos hv0]; rfl
      · by_cases hu0 : u = 0
        · rw [if_pos hu0, Bool.and_false]
        · rw [if_neg hv0, if_neg hu0]
          rcases Int.lt_or_le v 0 with h1 | h1
          · rw [decide_eq_false (show ¬ u < 0 by omega), Bool.and_false]
          · rw [decide_eq_false (show ¬ v < 0 by omega), Bool.false_and]
    rw [this]
  · exact flv_any h
end Go.Proofs.Ythfiijmmebgmoaa
