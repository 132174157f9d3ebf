/- The law on turns, walked; own text of the verifier. -/
import Derived.Test.YthfiijmmebgmoaaE7
namespace Go.Proofs.Ythfiijmmebgmoaa
open Go.RowKit
set_option maxRecDepth 100000 in
set_option maxHeartbeats 4000000 in
theorem turns_walk (a0 a1 : Int) (_w0 : (Lit.int .i64 a0).wf = true) (_w1 : (Lit.int .i64 a1).wf = true) (w : World) :
    Calls Try.prog 4 #[.int .i64 a0, .int .i64 a1] w fun e w' => e = .returned (.bool true) ∧ Below w.heap.size w w' := by
  go_enter Try.func4, Try.ntmps4
  go_wp2_with fail
  refine (known_any _).mono ?_
  rintro e wk ⟨rfl, hbk⟩
  have HB := hid hbk
  clear hbk
  obtain ⟨p, hp⟩ : ∃ p, a0 % 1099511627776 = p := ⟨_, rfl⟩
  obtain ⟨q, hq⟩ : ∃ q, a1 % 1099511627776 = q := ⟨_, rfl⟩
  have p0 : 0 ≤ p := by omega
  have p1 : p < 1099511627776 := by omega
  have q0 : 0 ≤ q := by omega
  have q1 : q < 1099511627776 := by omega
  have HP := hid hp
  have HQ := hid hq
  clear hp hq
  go_wp2_with fail
  refine (within_any _ _ _ (by omega) (by omega)).mono ?_
  rintro e w' ⟨rfl, rfl⟩
  rw [HP.out]
  go_wp2_with fail
  refine (within_any _ _ _ (by omega) (by omega)).mono ?_
  rintro e w' ⟨rfl, rfl⟩
  rw [HQ.out]
  obtain ⟨a, ha⟩ : ∃ a, p - 549755813888 = a := ⟨_, rfl⟩
  obtain ⟨b, hb⟩ : ∃ b, q - 549755813888 = b := ⟨_, rfl⟩
  have a0' : -549755813888 ≤ a := by omega
  have a1' : a < 549755813888 := by omega
  have b0' : -549755813888 ≤ b := by omega
  have b1' : b < 549755813888 := by omega
  obtain ⟨t1, t2⟩ := t_add a b
  have x1 := tR_abs a
  have x2 := tI_abs a
  have x3 := tR_abs b
  have x4 := tI_abs b
  have x5 := tR_abs (a + b)
  have x6 := tI_abs (a + b)
  obtain ⟨z1, z2, hm⟩ := cmul_any (tR a) (tI a) (tR b) (tI b) (by omega) (by omega) (by omega) (by omega)
  rw [← t1, ← t2] at hm
  have hop1 := fun t w => run_complex_mul (P := Try.prog) w t _ _ _ _ _ _ hm
  have e1 := eqf z1 false (tR (a + b)) (tR (a + b)) (by omega) (by omega)
  have e2 := eqf z2 false (tI (a + b)) (tI (a + b)) (by omega) (by omega)
  have e3 := eqf false false (tR a) (tR a) (by omega) (by omega)
  have e4 := eqf false false (tI a) (tI a) (by omega) (by omega)
  have f1 : tR (a + 4) = tR a := tR_mod (by omega)
  have f2 : tI (a + 4) = tI a := tI_mod (by omega)
  have hl := t_len a
  have y1 := tR_abs (-a)
  have y2 := tI_abs (-a)
  obtain ⟨s1, s2⟩ := t_add a (-a)
  rw [show a + -a = 0 by omega] at s1 s2
  obtain ⟨z3, z4, hm2⟩ := cmul_any (tR a) (tI a) (tR (-a)) (tI (-a)) (by omega) (by omega) (by omega) (by omega)
  rw [← s1, ← s2, show tR 0 = 1 from rfl, show tI 0 = 0 from rfl] at hm2
  have hop2 := fun t w => run_complex_mul (P := Try.prog) w t _ _ _ _ _ _ hm2
  have e5 := eqf z3 false 1 1 (by omega) (by omega)
  have e6 := eqf z4 false 0 0 (by omega) (by omega)
  rw [f_1] at e5
  rw [f_0] at e6
  rw [decide_eq_true rfl] at e1 e2 e3 e4 e5 e6
  have HL := hid hl
  have HF := hid (And.intro f1 f2)
  have X1 := hid x1
  have X2 := hid x2
  clear x1 x2 x3 x4 x5 x6 y1 y2 t1 t2 s1 s2 hm hm2 f1 f2 hl
  have hz : 0 - a = -a := by omega

  go_wp2_with (first
    | (go_at_call 15; refine (turn_any _ _).mono ?_; rintro e w' ⟨rfl, rfl⟩; try rw [HF.out.1, HF.out.2])
    | (go_at_call 18; refine (power_any (tR a) (tI a) _ (by have := X1.out; omega) (by have := X2.out; omega)).mono ?_; rintro e w' ⟨rfl, rfl⟩; rw [HL.out])
    | rw [hop1] | rw [hop2])

  go_ret

  exact ⟨rfl, HB.out⟩
end Go.Proofs.Ythfiijmmebgmoaa
