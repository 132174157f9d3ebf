/- Walks over what cuts a float, over the powers of both; own lemmas of the verifier, no statement is proved here. -/
import Derived.Test.YthfiijmmebgmoaaE3
namespace Go.Proofs.Ythfiijmmebgmoaa
open Go.RowKit
theorem cut_whole (s : Bool) (m k : Nat) : Ieee.Toward.zero.cut s (m * 2 ^ k) k = m := by
  unfold Ieee.Toward.cut
  rcases Nat.eq_zero_or_pos m with h0 | h0
  · rw [h0]; simp
  · have hl : k ≤ (m * 2 ^ k).log2 := by rw [log2_shift _ _ h0]; omega
    rw [Nat.min_eq_left (by omega), Nat.one_shiftLeft]
    simp only [Nat.mul_div_cancel _ (Nat.two_pow_pos k)]
    simp
theorem e33 (z : Bool) (v : Int) (w : World) (h : v.natAbs < 2 ^ 53) : Sem.run Try.prog (Extern.MathFloor.toIntegral "math.archTrunc" .zero #[.float .f64 (flv z v)]) w = .ok (.float .f64 (flv z v)) w := by
  obtain ⟨k, hk⟩ := read_flv z v h
  have hd : FloatKind.f64.decode (flv z v) = .number (sgn v z) (v.natAbs * 2 ^ k) (-(k : Int)) := hk
  have hi : FloatKind.f64.encode (Ieee.Datum.integral .zero (.number (sgn v z) (v.natAbs * 2 ^ k) (-(k : Int)))) = flv z v := by
    unfold Ieee.Datum.integral
    simp only
    rw [show (-(k : Int)).toNat = 0 by omega, Nat.shiftLeft_zero, show (-(-(k : Int))).toNat = k by omega, cut_whole]
    have := write_flv z v 0 h
    rw [Nat.pow_zero, Nat.mul_one] at this
    exact this
  delta Extern.MathFloor.toIntegral
  conv => lhs; arg 2; whnf
  rw [hd]
  exact congrArg (fun b => Result.ok (Value.float .f64 b) w) hi
theorem trunc_any (v : Int) (w : World) (h : v.natAbs ≤ 2 ^ 52) :
    Calls Try.prog 31 #[.float .f64 (flv false v)] w fun e w' => e = .returned (.float .f64 (flv false v)) ∧ w = w' := by
  have h33 := @run_callFunc_extern Try.prog 33 _ (Extern.MathFloor.toIntegral "math.archTrunc" .zero) Try.func33 (by kernel_rfl) (by kernel_rfl) (by kernel_rfl) (by kernel_rfl)
  have hr := fun w => e33 false v w (by omega)
  obtain ⟨X, hX⟩ : ∃ X, flv false v = X := ⟨_, rfl⟩
  rw [hX] at hr ⊢
  go_enter Try.func31, Try.ntmps31
  go_wp2_with (rw [h33, hr]; simp only [Result.andThen]; rw [Oper.upon_value])
  go_ret
  exact ⟨rfl, rfl⟩
theorem isPart_any (v : Int) (w : World) (h : v.natAbs ≤ 2 ^ 20) :
    Calls Try.prog 26 #[.float .f64 (flv false v)] w fun e w' => e = .returned (.bool true) ∧ w = w' := by
  have h1 := eqf false false v v (by omega) (by omega)
  rw [decide_eq_true rfl] at h1
  have h2 := leqf false false (v.natAbs : Int) 1048576 (by omega) (by omega)
  rw [decide_eq_true (by omega), f_20] at h2
  have hA := fun w => fabs_any v w (by omega)
  have hT := fun w => trunc_any v w (by omega)
  obtain ⟨X, hXe⟩ : ∃ X, flv false v = X := ⟨_, rfl⟩
  obtain ⟨Y, hYe⟩ : ∃ Y, flv false (v.natAbs : Int) = Y := ⟨_, rfl⟩
  rw [hXe] at h1 hA hT ⊢
  rw [hYe] at h2 hA
  go_enter Try.func26, Try.ntmps26
  go_wp2_with fail
  refine (hT _).mono ?_
  rintro e w' ⟨rfl, rfl⟩
  go_wp2_with fail
  refine (hA _).mono ?_
  rintro e w' ⟨rfl, rfl⟩
  go_wp2_with fail
  go_ret
  refine ⟨ret_bool ?_, rfl⟩
  first | rfl | exact h2 | simp [h1, h2]
theorem square_any (v : Int) (w : World) (h : v.natAbs ≤ 2 ^ 20) :
    Calls Try.prog 27 #[.float .f64 (flv false v)] w fun e w' => e = .returned (.int .i64 (v * v)) ∧ w = w' := by
  have hop := fun w => run_convert_float_int (P := Try.prog) w 45 3 .f64 .i64 (flv false v) v rfl rfl (toInt_flv false v (by omega))
  have hm : (v * v).natAbs ≤ 2 ^ 40 := by rw [Int.natAbs_mul, show (2 : Nat) ^ 40 = 2 ^ 20 * 2 ^ 20 from rfl]; exact Nat.mul_le_mul h h
  obtain ⟨y, hy⟩ : ∃ y, v * v = y := ⟨_, rfl⟩
  rw [hy] at hm ⊢
  go_enter Try.func27, Try.ntmps27
  go_wp2_with (rw [hop])
  go_ret
  exact ⟨rfl, rfl⟩
theorem power_any (a b : Int) (w : World) (ha : a.natAbs ≤ 2 ^ 20) (hb : b.natAbs ≤ 2 ^ 20) :
    Calls Try.prog 18 #[.complex .f64 (flv false a) (flv false b)] w fun e w' => e = .returned (.int .i64 (a * a + b * b)) ∧ w = w' := by
  have hm : (a * a).natAbs ≤ 2 ^ 40 := by rw [Int.natAbs_mul, show (2 : Nat) ^ 40 = 2 ^ 20 * 2 ^ 20 from rfl]; exact Nat.mul_le_mul ha ha
  have hn : (b * b).natAbs ≤ 2 ^ 40 := by rw [Int.natAbs_mul, show (2 : Nat) ^ 40 = 2 ^ 20 * 2 ^ 20 from rfl]; exact Nat.mul_le_mul hb hb
  have p1 := fun w => isPart_any a w ha
  have p2 := fun w => isPart_any b w hb
  have q1 := fun w => square_any a w ha
  have q2 := fun w => square_any b w hb
  obtain ⟨x, hx⟩ : ∃ x, a * a = x := ⟨_, rfl⟩
  obtain ⟨y, hy⟩ : ∃ y, b * b = y := ⟨_, rfl⟩
  rw [hx] at hm q1 ⊢
  rw [hy] at hn q2 ⊢
  obtain ⟨X, hXe⟩ : ∃ X, flv false a = X := ⟨_, rfl⟩
  obtain ⟨Y, hYe⟩ : ∃ Y, flv false b = Y := ⟨_, rfl⟩
  rw [hXe] at p1 q1 ⊢
  rw [hYe] at p2 q2 ⊢
  go_enter Try.func18, Try.ntmps18
  go_wp2_with fail
  refine (p1 _).mono ?_
  rintro e w' ⟨rfl, rfl⟩
  go_wp2_with fail
  refine (p2 _).mono ?_
  rintro e w' ⟨rfl, rfl⟩
  go_wp2_with fail
  refine (q1 _).mono ?_
  rintro e w' ⟨rfl, rfl⟩
  go_wp2_with fail
  refine (q2 _).mono ?_
  rintro e w' ⟨rfl, rfl⟩
  go_wp2_with fail
  go_ret
  exact ⟨rfl, rfl⟩
theorem rpower_any (a b : Int) (w : World) (ha : a.natAbs ≤ 2 ^ 20) (hb : b.natAbs ≤ 2 ^ 20) :
    Calls Try.prog 19 #[.complex .f64 (flv false a) (flv false b)] w fun e w' => e = .returned (.int .i64 (a * a + b * b)) ∧ w = w' := by
  have hop1 := fun w => run_convert_float_int (P := Try.prog) w 45 3 .f64 .i64 (flv false a) a rfl rfl (toInt_flv false a (by omega))
  have hop2 := fun w => run_convert_float_int (P := Try.prog) w 45 3 .f64 .i64 (flv false b) b rfl rfl (toInt_flv false b (by omega))
  have hm : (a * a).natAbs ≤ 2 ^ 40 := by rw [Int.natAbs_mul, show (2 : Nat) ^ 40 = 2 ^ 20 * 2 ^ 20 from rfl]; exact Nat.mul_le_mul ha ha
  have hn : (b * b).natAbs ≤ 2 ^ 40 := by rw [Int.natAbs_mul, show (2 : Nat) ^ 40 = 2 ^ 20 * 2 ^ 20 from rfl]; exact Nat.mul_le_mul hb hb
  obtain ⟨x, hx⟩ : ∃ x, a * a = x := ⟨_, rfl⟩
  obtain ⟨y, hy⟩ : ∃ y, b * b = y := ⟨_, rfl⟩
  rw [hx] at hm ⊢
  rw [hy] at hn ⊢
  go_enter Try.func19, Try.ntmps19
  go_wp2_with (first | rw [hop1] | rw [hop2])
  go_ret
  exact ⟨rfl, rfl⟩
end Go.Proofs.Ythfiijmmebgmoaa
