/- The law on what undoes a byte in a field, walked; own text of the verifier. -/
import Derived.Test.YtgdhbnnjafoifaaF3
namespace Go.Proofs.Ytgdhbnnjafoifaa
open Go.RowKit
set_option maxRecDepth 100000 in
set_option maxHeartbeats 4000000 in
theorem inv_walk (a0 a1 a2 : Int) (w0 : (Lit.int .u8 a0).wf = true) (w1 : (Lit.int .u8 a1).wf = true) (_w2 : (Lit.int .i64 a2).wf = true) (w : World) :
    Calls Try.prog 5 #[.int .u8 a0, .int .u8 a1, .int .i64 a2] w fun e w' => e = .returned (.bool true) ∧ Below w.heap.size w w' := by
  obtain ⟨a, rfl, ha⟩ := byte_arg w0
  clear w0
  obtain ⟨b, rfl, hb⟩ := byte_arg w1
  clear w1
  go_enter Try.func5, Try.ntmps5
  go_wp2_with fail
  refine (known_any _).mono ?_
  rintro e wk ⟨rfl, rfl⟩
  go_wp2_with fail
  refine (mod_any _ _).mono ?_
  rintro e w2 ⟨rfl, hb2⟩
  have HB2 := hid hb2
  have hF0 := modF_field a2
  obtain ⟨m, hm⟩ : ∃ m, modF a2 = m := ⟨_, rfl⟩
  rw [hm] at hF0 ⊢
  have HF := hid hF0
  have HM := hid hF0.toIsRest
  have hm0 := hF0.lo
  have hm1 := hF0.hi
  clear hm hF0 hb2
  go_wp2_with fail
  refine (inv_any a m _ HM.out ha).mono ?_
  rintro e w' ⟨rfl, rfl⟩
  go_wp2_with fail
  refine (inv_any b m _ HM.out hb).mono ?_
  rintro e w' ⟨rfl, rfl⟩
  rcases Nat.eq_zero_or_pos a with h0 | h0
  · subst h0
    rw [invF_zero]
    go_wp2_with fail
    go_ret
    exact ⟨rfl, HB2.out⟩
  · have hx := invF_lt m a
    have hy := invF_lt m b
    have E1 := hid (HF.out.invF h0 ha)
    have E2 := hid (HF.out.invF_mul h0 ha)
    have E3 := hid (HF.out.invF_invF h0 ha)
    have E4 := hid (HF.out.invF_prod h0 ha hb)
    have hne : ((a : Int) == 0) = false := by simp; omega
    obtain ⟨X, hX⟩ : ∃ X, invF m a = X := ⟨_, rfl⟩
    rw [hX] at hx E1 E2 E3 E4 ⊢
    obtain ⟨Y, hY⟩ : ∃ Y, invF m b = Y := ⟨_, rfl⟩
    rw [hY] at hy E4 ⊢
    clear hX hY
    go_wp2_with fail
    refine (mul_any a X m _ HM.out ha hx).mono ?_
    rintro e w' ⟨rfl, rfl⟩
    rw [E2.out]
    go_wp2_with fail
    refine (pow_any a 254 m _ HM.out ha (by omega)).mono ?_
    rintro e w' ⟨rfl, rfl⟩
    rw [← E1.out]
    go_wp2_with fail
    refine (inv_any X m _ HM.out hx).mono ?_
    rintro e w' ⟨rfl, rfl⟩
    rw [E3.out]
    go_wp2_with fail
    refine (mul_any a b m _ HM.out ha hb).mono ?_
    rintro e w' ⟨rfl, rfl⟩
    have hab := gm_lt HM.out ha b
    go_wp2_with fail
    refine (inv_any (gm m a b) m _ HM.out hab).mono ?_
    rintro e w' ⟨rfl, rfl⟩
    rw [E4.out]
    go_wp2_with fail
    refine (mul_any X Y m _ HM.out hx hy).mono ?_
    rintro e w' ⟨rfl, rfl⟩
    go_wp2_with fail
    go_ret
    exact ⟨rfl, HB2.out⟩
end Go.Proofs.Ytgdhbnnjafoifaa
