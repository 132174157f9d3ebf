/- Walks over products, sums and what undoes a number, of the program and of the reference; own lemmas of the verifier, no statement is proved here. -/
import Derived.Test.YtamolgbdpnpemaaT1
import Derived.Test.YtamolgbdpnpemaaPM
namespace Go.Proofs.Ytamolgbdpnpemaa
open Go.RowKit
set_option maxHeartbeats 400000 in
theorem isNumber_any (a : Nat) (w : World) (h : a < 65536) : Calls Try.prog 22 #[.int .i64 a] w fun e w' => e = .returned (.bool true) ∧ w = w' := by
  go_enter Try.func22, Try.ntmps22
  go_wp2
  go_ret
  exact ⟨ret_bool (by simp; omega), rfl⟩
set_option maxHeartbeats 400000 in
theorem standing_any (a : Nat) (w : World) (h : a < 65536) : Calls Try.prog 23 #[.int .i64 a] w fun e w' => e = .returned (.int .u64 (st a : Nat)) ∧ w = w' := by
  by_cases h0 : a = 0
  · subst h0
    go_enter Try.func23, Try.ntmps23
    go_wp2
    go_ret
    exact ⟨rfl, rfl⟩
  · have hs : st a = a := if_neg h0
    rw [hs]
    have hz : ((a : Int) == 0) = false := by simp; omega
    clear hs
    go_enter Try.func23, Try.ntmps23
    go_wp2
    go_ret
    exact ⟨rfl, rfl⟩
set_option maxHeartbeats 400000 in
theorem stood_any (a : Nat) (w : World) (_h : a < 65536) : Calls Try.prog 24 #[.int .i64 a] w fun e w' => e = .returned (.int .i64 (st a : Nat)) ∧ w = w' := by
  by_cases h0 : a = 0
  · subst h0
    go_enter Try.func24, Try.ntmps24
    go_wp2
    go_ret
    exact ⟨rfl, rfl⟩
  · have hs : st a = a := if_neg h0
    rw [hs]
    have hz : ((a : Int) == 0) = false := by simp; omega
    clear hs
    go_enter Try.func24, Try.ntmps24
    go_wp2
    go_ret
    exact ⟨rfl, rfl⟩
theorem nat_mask16 (n : Nat) : n &&& 65535 = n % 65536 := by
  rw [show (65535 : Nat) = 2 ^ 16 - 1 from rfl, Nat.and_two_pow_sub_one_eq_mod]
theorem and16u (n : Nat) (h : n < 65537) : bits .and .u64 (n : Int) 65535 = ((n % 65536 : Nat) : Int) := by
  rw [show (65535 : Int) = ((65535 : Nat) : Int) from rfl, u64_and_nat _ _ (by omega) (by omega), nat_mask16]
theorem and16i (t : Int) : bits .and .i64 t 65535 = t % 65536 := by
  have e0 : bits .and .i64 t 65535 = IntKind.i64.wrap ((BitVec.ofInt 64 t &&& BitVec.ofInt 64 65535).toNat : Int) := rfl
  have e : (BitVec.ofInt 64 t &&& BitVec.ofInt 64 65535).toNat = (t % 65536).toNat := by
    rw [BitVec.toNat_and, BitVec.toNat_ofInt, BitVec.toNat_ofInt]
    have : (65535 % ((2 ^ 64 : Nat) : Int)).toNat = 65535 := rfl
    rw [this, nat_mask16]
    omega
  rw [e0, e]
  simp [IntKind.wrap, IntKind.bits, IntKind.signed]
  omega
theorem st_le {a : Nat} (h : a < 65536) : st a ≤ 65536 := by have := st_lt h; omega
set_option maxHeartbeats 400000 in
theorem mul_any (a b : Nat) (w : World) (ha : a < 65536) (hb : b < 65536) : Calls Try.prog 13 #[.int .i64 a, .int .i64 b] w fun e w' => e = .returned (.int .i64 (mulF a b : Nat)) ∧ w = w' := by
  have hS := st_le ha
  have hT := st_le hb
  have hF : mulF a b = st a * st b % 65537 % 65536 := rfl
  obtain ⟨S, hS1⟩ : ∃ S, st a = S := ⟨_, rfl⟩
  obtain ⟨T, hT1⟩ : ∃ T, st b = T := ⟨_, rfl⟩
  have c1 := fun w => standing_any a w ha
  have c2 := fun w => standing_any b w hb
  rw [hS1] at hS c1 hF
  rw [hT1] at hT c2 hF
  have hM : S * T ≤ 65536 * 65536 := Nat.mul_le_mul hS hT
  obtain ⟨M, hM1⟩ : ∃ M, S * T = M := ⟨_, rfl⟩
  rw [hM1] at hM hF
  have hMi : (S : Int) * (T : Int) = (M : Int) := by rw [← hM1]; simp
  have hA := and16u (M % 65537) (Nat.mod_lt _ (by omega))
  rw [← hF] at hA
  have hl := mulF_lt a b
  obtain ⟨R, hR⟩ : ∃ R, mulF a b = R := ⟨_, rfl⟩
  rw [hR] at hA hl ⊢
  have hA2 : bits .and .u64 ((M : Int) % 65537) 65535 = (R : Int) := by rw [← hA]; rfl
  clear hA hF hM1 hS1 hT1 hR
  have C1 := hid c1
  have C2 := hid c2
  clear c1 c2
  go_enter Try.func13, Try.ntmps13
  go_wp2_with (first
    | (go_at_call 22; refine (isNumber_any _ _ (by omega)).mono ?_; rintro e w' ⟨rfl, rfl⟩)
    | (go_at_call 23; refine (C1.out _).mono ?_; rintro e w' ⟨rfl, rfl⟩)
    | (go_at_call 23; refine (C2.out _).mono ?_; rintro e w' ⟨rfl, rfl⟩))
  go_ret
  exact ⟨rfl, rfl⟩
set_option maxHeartbeats 400000 in
theorem rmul_any (a b : Nat) (w : World) (ha : a < 65536) (hb : b < 65536) : Calls Try.prog 14 #[.int .i64 a, .int .i64 b] w fun e w' => e = .returned (.int .i64 (mulF a b : Nat)) ∧ w = w' := by
  have hS := st_le ha
  have hT := st_le hb
  have hF : mulF a b = st a * st b % 65537 % 65536 := rfl
  obtain ⟨S, hS1⟩ : ∃ S, st a = S := ⟨_, rfl⟩
  obtain ⟨T, hT1⟩ : ∃ T, st b = T := ⟨_, rfl⟩
  have c1 := fun w => stood_any a w ha
  have c2 := fun w => stood_any b w hb
  rw [hS1] at hS c1 hF
  rw [hT1] at hT c2 hF
  have hM : S * T ≤ 65536 * 65536 := Nat.mul_le_mul hS hT
  obtain ⟨M, hM1⟩ : ∃ M, S * T = M := ⟨_, rfl⟩
  rw [hM1] at hM hF
  have hMi : (S : Int) * (T : Int) = (M : Int) := by rw [← hM1]; simp
  have HF := hid hF
  clear hF hM1 hS1 hT1
  have C1 := hid c1
  have C2 := hid c2
  clear c1 c2
  go_enter Try.func14, Try.ntmps14
  go_wp2_with (first
    | (go_at_call 24; refine (C1.out _).mono ?_; rintro e w' ⟨rfl, rfl⟩)
    | (go_at_call 24; refine (C2.out _).mono ?_; rintro e w' ⟨rfl, rfl⟩))
  go_ret
  exact ⟨ret_int (by rw [HF.out]; omega), rfl⟩
set_option maxHeartbeats 400000 in
theorem sum_any (a b : Nat) (w : World) (ha : a < 65536) (hb : b < 65536) : Calls Try.prog 32 #[.int .i64 a, .int .i64 b] w fun e w' => e = .returned (.int .i64 ((a + b) % 65536 : Nat)) ∧ w = w' := by
  have hA := and16i ((a : Int) + b)
  go_enter Try.func32, Try.ntmps32
  go_wp2
  go_ret
  exact ⟨ret_int (by omega), rfl⟩
/-- What makes it nought. -/
def negF (a : Nat) : Nat := (65536 - a) % 65536
set_option maxHeartbeats 400000 in
theorem minus_any (a : Nat) (w : World) (ha : a < 65536) : Calls Try.prog 29 #[.int .i64 a] w fun e w' => e = .returned (.int .i64 (negF a : Nat)) ∧ w = w' := by
  have hA := and16i (-(a : Int))
  go_enter Try.func29, Try.ntmps29
  go_wp2
  go_ret
  exact ⟨ret_int (by unfold negF; omega), rfl⟩
end Go.Proofs.Ytamolgbdpnpemaa
