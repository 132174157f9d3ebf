/- The law on squares of sums, walked; own text of the verifier. -/
import Derived.Test.YtgdhbnnjafoifaaF3
namespace Go.Proofs.Ytgdhbnnjafoifaa
open Go.RowKit
set_option maxRecDepth 100000 in
set_option maxHeartbeats 4000000 in
theorem square_walk (a0 a1 a2 : Int) (w0 : (Lit.int .u8 a0).wf = true) (w1 : (Lit.int .u8 a1).wf = true) (_w2 : (Lit.int .i64 a2).wf = true) (w : World) :
    Calls Try.prog 7 #[.int .u8 a0, .int .u8 a1, .int .i64 a2] w fun e w' => e = .returned (.bool true) ∧ Below w.heap.size w w' := by
  obtain ⟨a, rfl, ha⟩ := byte_arg w0
  clear w0
  obtain ⟨b, rfl, hb⟩ := byte_arg w1
  clear w1
  go_enter Try.func7, Try.ntmps7
  go_wp2_with fail
  refine (known_any _).mono ?_
  rintro e wk ⟨rfl, rfl⟩
  obtain ⟨q, hq⟩ : ∃ q : Nat, a2 % 256 = q := ⟨(a2 % 256).toNat, by omega⟩
  have hq2 : q < 256 := by omega
  have HQ := hid hq
  obtain ⟨m, hm⟩ : ∃ m : Nat, 256 + q = m := ⟨_, rfl⟩
  have HM := hid (show IsRest m by constructor <;> omega)
  have HE := hid (show 256 + (q : Int) = ((m : Nat) : Int) by omega)
  have hm0 : 256 ≤ m := by omega
  have hm1 : m < 512 := by omega
  clear hq hm
  go_wp2_with fail
  refine (within_any _ _ _ (by omega) (by omega)).mono ?_
  rintro e w' ⟨rfl, rfl⟩
  rw [HQ.out]
  have hx := xor_lt8 ha hb
  go_wp2_with fail
  rw [HE.out, u8_xor_nat _ _ ha hb]
  refine (mul_any (a ^^^ b) (a ^^^ b) m _ HM.out hx hx).mono ?_
  rintro e w' ⟨rfl, rfl⟩
  go_wp2_with fail
  refine (mul_any a a m _ HM.out ha ha).mono ?_
  rintro e w' ⟨rfl, rfl⟩
  go_wp2_with fail
  refine (mul_any b b m _ HM.out hb hb).mono ?_
  rintro e w' ⟨rfl, rfl⟩
  have hX := u8_xor_nat _ _ (gm_lt HM.out ha a) (gm_lt HM.out hb b)
  rw [gm_sq HM.out ha hb]
  obtain ⟨X, hXe⟩ : ∃ X, gm m a a ^^^ gm m b b = X := ⟨_, rfl⟩
  rw [hXe] at hX ⊢
  clear hXe
  go_wp2_with fail
  refine (pow_any a 2 m _ HM.out ha (by omega)).mono ?_
  rintro e w' ⟨rfl, rfl⟩
  rw [gp_two HM.out ha]
  go_wp2_with fail
  refine (mul_any a a m _ HM.out ha ha).mono ?_
  rintro e w' ⟨rfl, rfl⟩
  go_wp2_with fail
  go_ret
  exact ⟨rfl, Below.refl _ _⟩
end Go.Proofs.Ytgdhbnnjafoifaa
