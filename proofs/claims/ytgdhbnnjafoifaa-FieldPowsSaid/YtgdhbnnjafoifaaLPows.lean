/- The law on powers, walked; own text of the verifier. -/
import Derived.Test.YtgdhbnnjafoifaaF3
namespace Go.Proofs.Ytgdhbnnjafoifaa
open Go.RowKit
set_option maxRecDepth 100000 in
set_option maxHeartbeats 4000000 in
theorem pows_walk (a0 a1 a2 a3 : Int) (w0 : (Lit.int .u8 a0).wf = true) (_w1 : (Lit.int .i64 a1).wf = true) (_w2 : (Lit.int .i64 a2).wf = true) (_w3 : (Lit.int .i64 a3).wf = true) (w : World) :
    Calls Try.prog 6 #[.int .u8 a0, .int .i64 a1, .int .i64 a2, .int .i64 a3] w fun e w' => e = .returned (.bool true) ∧ Below w.heap.size w w' := by
  obtain ⟨a, rfl, ha⟩ := byte_arg w0
  clear w0
  go_enter Try.func6, Try.ntmps6
  go_wp2_with fail
  refine (known_any _).mono ?_
  rintro e wk ⟨rfl, rfl⟩
  go_wp2_with fail
  refine (mod_any _ _).mono ?_
  rintro e w2 ⟨rfl, hb2⟩
  have HB2 := hid hb2
  have hF0 := modF_field a3
  obtain ⟨m, hm⟩ : ∃ m, modF a3 = m := ⟨_, rfl⟩
  rw [hm] at hF0 ⊢
  have HF := hid hF0
  have HM := hid hF0.toIsRest
  have hm0 := hF0.lo
  have hm1 := hF0.hi
  clear hm hF0 hb2
  obtain ⟨i, hi⟩ : ∃ i : Nat, a1 % 400000 = i := ⟨(a1 % 400000).toNat, by omega⟩
  have hi2 : i < 400000 := by omega
  have Hi := hid hi
  clear hi
  go_wp2_with fail
  refine (within_any _ _ _ (by omega) (by omega)).mono ?_
  rintro e w' ⟨rfl, rfl⟩
  rw [Hi.out]
  obtain ⟨j, hj⟩ : ∃ j : Nat, a2 % 400000 = j := ⟨(a2 % 400000).toNat, by omega⟩
  have hj2 : j < 400000 := by omega
  have Hj := hid hj
  clear hj
  go_wp2_with fail
  refine (within_any _ _ _ (by omega) (by omega)).mono ?_
  rintro e w' ⟨rfl, rfl⟩
  rw [Hj.out]
  go_wp2_with fail
  refine (pow_any a i m _ HM.out ha (by omega)).mono ?_
  rintro e w' ⟨rfl, rfl⟩
  go_wp2_with fail
  refine (pow_any a j m _ HM.out ha (by omega)).mono ?_
  rintro e w' ⟨rfl, rfl⟩
  have hpi := gp_lt (a := a) HM.out i
  have hpj := gp_lt (a := a) HM.out j
  go_wp2_with fail
  refine (mul_any (gp m a i) (gp m a j) m _ HM.out hpi hpj).mono ?_
  rintro e w' ⟨rfl, rfl⟩
  rw [← gp_add HM.out ha i j]
  go_wp2_with fail
  rw [show (i : Int) + (j : Int) = ((i + j : Nat) : Int) by omega]
  refine (pow_any a (i + j) m _ HM.out ha (by omega)).mono ?_
  rintro e w' ⟨rfl, rfl⟩
  rcases Nat.eq_zero_or_pos a with h0 | h0
  · subst h0
    go_wp2_with fail
    refine (pow_any 0 1 m _ HM.out (show 0 < 256 by omega) (by omega)).mono ?_
    rintro e w' ⟨rfl, rfl⟩
    rw [gp_one HM.out (show 0 < 256 by omega)]
    go_wp2_with fail
    rw [show (1 : Int) + (i : Int) = ((1 + i : Nat) : Int) by omega]
    refine (pow_any 0 (1 + i) m _ HM.out (by omega) (by omega)).mono ?_
    rintro e w' ⟨rfl, rfl⟩
    rw [Nat.add_comm 1 i, gp_zero]
    go_wp2_with fail
    refine (pow_any 0 7 m _ HM.out (show 0 < 256 by omega) (by omega)).mono ?_
    rintro e w' ⟨rfl, rfl⟩
    have h7 := gp_lt (a := 0) HM.out 7
    go_wp2_with fail
    refine (mul_any (gp m 0 7) 0 m _ HM.out h7 (show 0 < 256 by omega)).mono ?_
    rintro e w' ⟨rfl, rfl⟩
    rw [show gm m (gp m 0 7) 0 = gp m 0 8 from rfl]
    go_wp2_with fail
    refine (pow_any 0 8 m _ HM.out (show 0 < 256 by omega) (by omega)).mono ?_
    rintro e w' ⟨rfl, rfl⟩
    go_wp2_with fail
    go_ret
    exact ⟨rfl, HB2.out⟩
  · have hne : ((a : Int) == 0) = false := by simp; omega
    have E := hid (HF.out.all a h0 ha)
    go_wp2_with fail
    refine (pow_any a 255 m _ HM.out ha (by omega)).mono ?_
    rintro e w' ⟨rfl, rfl⟩
    rw [E.out]
    go_wp2_with fail
    refine (pow_any a 1 m _ HM.out ha (by omega)).mono ?_
    rintro e w' ⟨rfl, rfl⟩
    rw [gp_one HM.out ha]
    go_wp2_with fail
    rw [show (1 : Int) + (i : Int) = ((1 + i : Nat) : Int) by omega]
    refine (pow_any 0 (1 + i) m _ HM.out (by omega) (by omega)).mono ?_
    rintro e w' ⟨rfl, rfl⟩
    rw [Nat.add_comm 1 i, gp_zero]
    go_wp2_with fail
    refine (pow_any a 7 m _ HM.out ha (by omega)).mono ?_
    rintro e w' ⟨rfl, rfl⟩
    have h7 := gp_lt (a := a) HM.out 7
    go_wp2_with fail
    refine (mul_any (gp m a 7) a m _ HM.out h7 ha).mono ?_
    rintro e w' ⟨rfl, rfl⟩
    rw [show gm m (gp m a 7) a = gp m a 8 from rfl]
    go_wp2_with fail
    refine (pow_any a 8 m _ HM.out ha (by omega)).mono ?_
    rintro e w' ⟨rfl, rfl⟩
    go_wp2_with fail
    go_ret
    exact ⟨rfl, HB2.out⟩
end Go.Proofs.Ytgdhbnnjafoifaa
