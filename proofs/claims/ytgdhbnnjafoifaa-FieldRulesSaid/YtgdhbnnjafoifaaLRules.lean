/- The law on the rules of products, walked; own text of the verifier. -/
import Derived.Test.YtgdhbnnjafoifaaF3
namespace Go.Proofs.Ytgdhbnnjafoifaa
open Go.RowKit
set_option maxRecDepth 100000 in
set_option maxHeartbeats 4000000 in
theorem rules_walk (a0 a1 a2 a3 : Int) (w0 : (Lit.int .u8 a0).wf = true) (w1 : (Lit.int .u8 a1).wf = true) (w2 : (Lit.int .u8 a2).wf = true) (_w3 : (Lit.int .i64 a3).wf = true) (w : World) :
    Calls Try.prog 4 #[.int .u8 a0, .int .u8 a1, .int .u8 a2, .int .i64 a3] w fun e w' => e = .returned (.bool true) ∧ Below w.heap.size w w' := by
  obtain ⟨a, rfl, ha⟩ := byte_arg w0
  clear w0
  obtain ⟨b, rfl, hb⟩ := byte_arg w1
  clear w1
  obtain ⟨c, rfl, hc⟩ := byte_arg w2
  clear w2
  go_enter Try.func4, Try.ntmps4
  go_wp2_with fail
  refine (known_any _).mono ?_
  rintro e wk ⟨rfl, rfl⟩
  obtain ⟨q, hq⟩ : ∃ q : Nat, a3 % 256 = q := ⟨(a3 % 256).toNat, by omega⟩
  have hq2 : q < 256 := by omega
  have HQ := hid hq
  obtain ⟨m, hm⟩ : ∃ m : Nat, 256 + q = m := ⟨_, rfl⟩
  have HM := hid (show IsRest m by constructor <;> omega)
  have HE := hid (show 256 + (q : Int) = ((m : Nat) : Int) by omega)
  have hm0 : 256 ≤ m := by omega
  have hm1 : m < 512 := by omega
  clear hq hm
  go_wp2_with fail
  refine (within_any _ _ _ (by omega) (by omega)).mono ?_
  rintro e w' ⟨rfl, rfl⟩
  rw [HQ.out]
  go_wp2_with fail
  rw [HE.out]
  refine (mul_any a b m _ HM.out ha hb).mono ?_
  rintro e w' ⟨rfl, rfl⟩
  go_wp2_with fail
  refine (mul_any b a m _ HM.out hb ha).mono ?_
  rintro e w' ⟨rfl, rfl⟩
  rw [gm_comm HM.out hb ha]
  go_wp2_with fail
  refine (mul_any a b m _ HM.out ha hb).mono ?_
  rintro e w' ⟨rfl, rfl⟩
  have hab := gm_lt HM.out ha b
  go_wp2_with fail
  refine (mul_any (gm m a b) c m _ HM.out hab hc).mono ?_
  rintro e w' ⟨rfl, rfl⟩
  go_wp2_with fail
  refine (mul_any b c m _ HM.out hb hc).mono ?_
  rintro e w' ⟨rfl, rfl⟩
  have hbc := gm_lt HM.out hb c
  go_wp2_with fail
  refine (mul_any a (gm m b c) m _ HM.out ha hbc).mono ?_
  rintro e w' ⟨rfl, rfl⟩
  rw [← gm_assoc HM.out ha hb hc]
  have hx := xor_lt8 hb hc
  go_wp2_with fail
  rw [u8_xor_nat _ _ hb hc]
  refine (mul_any a (b ^^^ c) m _ HM.out ha hx).mono ?_
  rintro e w' ⟨rfl, rfl⟩
  go_wp2_with fail
  refine (mul_any a b m _ HM.out ha hb).mono ?_
  rintro e w' ⟨rfl, rfl⟩
  go_wp2_with fail
  refine (mul_any a c m _ HM.out ha hc).mono ?_
  rintro e w' ⟨rfl, rfl⟩
  have hac := gm_lt HM.out ha c
  have hX := u8_xor_nat _ _ hab hac
  rw [gm_xor_right m a b c]
  obtain ⟨X, hXe⟩ : ∃ X, gm m a b ^^^ gm m a c = X := ⟨_, rfl⟩
  rw [hXe] at hX ⊢
  clear hXe
  go_wp2_with fail
  refine (mul_any a 1 m _ HM.out ha (by omega)).mono ?_
  rintro e w' ⟨rfl, rfl⟩
  rw [gm_one]
  go_wp2_with fail
  refine (mul_any a 0 m _ HM.out ha (by omega)).mono ?_
  rintro e w' ⟨rfl, rfl⟩
  rw [gm_zero_right]
  go_wp2_with fail
  go_ret
  exact ⟨rfl, Below.refl _ _⟩
end Go.Proofs.Ytgdhbnnjafoifaa
