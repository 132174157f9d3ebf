/- The law on bytes that nothing undoes, walked; own text of the verifier. -/
import Derived.Test.YtgdhbnnjafoifaaF3
namespace Go.Proofs.Ytgdhbnnjafoifaa
open Go.RowKit
set_option maxRecDepth 100000 in
set_option maxHeartbeats 4000000 in
theorem none_walk (a0 a1 : Int) (w0 : (Lit.int .u8 a0).wf = true) (_w1 : (Lit.int .i64 a1).wf = true) (w : World) :
    Calls Try.prog 8 #[.int .u8 a0, .int .i64 a1] w fun e w' => e = .returned (.bool true) ∧ Below w.heap.size w w' := by
  obtain ⟨a, rfl, ha⟩ := byte_arg w0
  clear w0
  go_enter Try.func8, Try.ntmps8
  go_wp2_with fail
  refine (known_any _).mono ?_
  rintro e wk ⟨rfl, rfl⟩
  obtain ⟨q, hq⟩ : ∃ q : Nat, a1 % 256 = q := ⟨(a1 % 256).toNat, by omega⟩
  have hq2 : q < 256 := by omega
  have HQ := hid hq
  obtain ⟨m, hm⟩ : ∃ m : Nat, 256 + q = m := ⟨_, rfl⟩
  have HM := hid (show IsRest m by constructor <;> omega)
  have HE := hid (show 256 + (q : Int) = ((m : Nat) : Int) by omega)
  have hm0 : 256 ≤ m := by omega
  have hm1 : m < 512 := by omega
  clear hq hm
  go_wp2_with fail
  refine (within_any _ _ _ (by omega) (by omega)).mono ?_
  rintro e w' ⟨rfl, rfl⟩
  rw [HQ.out]
  go_wp2_with fail
  rw [HE.out]
  refine (inv_any a m _ HM.out ha).mono ?_
  rintro e w' ⟨rfl, rfl⟩
  have hx := invF_lt m a
  obtain ⟨X, hX⟩ : ∃ X, invF m a = X := ⟨_, rfl⟩
  rw [hX] at hx ⊢
  have HX := hid hX
  clear hX
  go_wp2_with fail
  go_loop [7] (fun i => ∃ k : Nat, 1 ≤ k ∧ k ≤ 256 ∧ i = .int .i64 k ∧ ∀ z, z < k → gm m a z ≠ 1) (fun i => 256 - natOf i)
  case atStart => exact ⟨1, by omega, by omega, rfl, fun z hz => by rw [show z = 0 by omega, gm_zero_right]; omega⟩
  case round =>
    obtain ⟨k, hk1, hk, rfl, hall⟩ := hrel
    have HA := hid hall
    clear hall
    by_cases hlt : k < 256
    · go_wp2_with fail
      refine (mul_any a k m _ HM.out ha hlt).mono ?_
      rintro e w' ⟨rfl, rfl⟩
      by_cases he : gm m a k = 1
      · have HF : X = k := HX.out.symm.trans (invF_of hlt he HA.out)
        subst HF
        rw [he]
        clear he
        go_wp2_with fail
        go_ret
        exact ⟨rfl, Below.refl _ _⟩
      · have he2 : (((gm m a k : Nat) : Int) == 1) = false := by simp; omega
        have HE' := hid he
        clear he
        obtain ⟨G, hG⟩ : ∃ G, gm m a k = G := ⟨_, rfl⟩
        rw [hG] at he2 ⊢
        clear hG
        go_wp2_with fail
        go_round
        case rel =>
          refine ⟨k + 1, by omega, by omega, by go_num, fun z hz => ?_⟩
          rcases Nat.lt_or_ge z k with h1 | h1
          · exact HA.out z h1
          · rw [show z = k by omega]; exact HE'.out
        case measure => simp [natOf]; omega
    · obtain rfl : k = 256 := by omega
      have HF : X = 0 := HX.out.symm.trans (invF_none HA.out)
      subst HF
      go_wp2_with fail
      go_ret
      exact ⟨rfl, Below.refl _ _⟩
end Go.Proofs.Ytgdhbnnjafoifaa
