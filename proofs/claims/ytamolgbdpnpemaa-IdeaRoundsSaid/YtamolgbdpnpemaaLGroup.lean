/- The law on products as a group, walked; own text of the verifier. -/
import Derived.Test.YtamolgbdpnpemaaX12
namespace Go.Proofs.Ytamolgbdpnpemaa
open Go.RowKit
theorem within16 (a : Int) (w : World) : ∃ x : Nat, x < 65536 ∧ a % 65536 = x ∧ Calls Try.prog 9 #[.int .i64 a, .int .i64 65536] w fun e w' => e = .returned (.int .i64 (x : Nat)) ∧ w = w' := by
  obtain ⟨x, hx⟩ : ∃ x : Nat, a % 65536 = x := ⟨(a % 65536).toNat, by omega⟩
  refine ⟨x, by omega, hx, ?_⟩
  have h := within_any a 65536 w (by omega) (by omega)
  rw [hx] at h
  exact h
set_option maxRecDepth 100000 in
set_option maxHeartbeats 4000000 in
theorem group_walk (a0 : Int) (a1 : Int) (a2 : Int) (_w0 : (Lit.int .i64 a0).wf = true) (_w1 : (Lit.int .i64 a1).wf = true) (_w2 : (Lit.int .i64 a2).wf = true) (w : World) :
    Calls Try.prog 4 #[.int .i64 a0, .int .i64 a1, .int .i64 a2] w fun e w' => e = .returned (.bool true) ∧ Below w.heap.size w w' := by
  go_enter Try.func4, Try.ntmps4
  go_wp2_with fail
  refine (known_any _).mono ?_
  rintro e w1 ⟨rfl, hx1⟩
  have HX := hid hx1
  clear hx1
  obtain ⟨x, hx, _, cx⟩ := within16 a0 w1
  obtain ⟨y, hy, _, cy⟩ := within16 a1 w1
  obtain ⟨z, hz, _, cz⟩ := within16 a2 w1
  have CX := hid cx
  have CY := hid cy
  have CZ := hid cz
  have hm3 : mulF x y = mulF x z ↔ y = z := ⟨mulF_cancel hx hy hz, fun h => by rw [h]⟩
  have c0 := fun w => inv_any x w hx
  have c1 := fun w => mul_any x y w hx hy
  have c2 := fun w => mul_any y x w hy hx
  have c3 := fun w => mul_any (mulF x y) z w (mulF_lt _ _) hz
  have c4 := fun w => mul_any y z w hy hz
  have c5 := fun w => mul_any x (mulF y z) w hx (mulF_lt _ _)
  have c6 := fun w => mul_any x 1 w hx (by omega)
  have c7 := fun w => mul_any x (invF x) w hx (invF_lt _)
  have c8 := fun w => inv_any (invF x) w (invF_lt _)
  have c9 := fun w => mul_any x z w hx hz
  rw [mulF_comm y x] at c2
  rw [mulF_assoc hx hy hz] at c3
  rw [mulF_one hx] at c6
  rw [mulF_inv hx] at c7
  rw [invF_inv hx] at c8
  obtain ⟨i, hi⟩ : ∃ i, invF x = i := ⟨_, rfl⟩
  obtain ⟨t, ht⟩ : ∃ t, mulF x (mulF y z) = t := ⟨_, rfl⟩
  obtain ⟨m1, h1⟩ : ∃ m, mulF x y = m := ⟨_, rfl⟩
  obtain ⟨m2, h2⟩ : ∃ m, mulF y z = m := ⟨_, rfl⟩
  obtain ⟨m3, h3⟩ : ∃ m, mulF x z = m := ⟨_, rfl⟩
  rw [hi] at c0 c7 c8
  rw [ht] at c3 c5
  rw [h1] at c1 c2 c3 hm3
  rw [h2] at c4 c5
  rw [h3] at c9 hm3
  have C0 := hid c0
  have C1 := hid c1
  have C2 := hid c2
  have C3 := hid c3
  have C4 := hid c4
  have C5 := hid c5
  have C6 := hid c6
  have C7 := hid c7
  have C8 := hid c8
  have C9 := hid c9
  have HB := hid (show ∃ b, ((m1 : Int) == (m3 : Int)) = b ∧ ((y : Int) == (z : Int)) = b from ⟨((m1 : Int) == (m3 : Int)), rfl, by
    rw [Bool.eq_iff_iff]; simp only [beq_iff_eq]; constructor
    · intro h; have := hm3.2 (by omega); omega
    · intro h; have := hm3.1 (by omega); omega⟩)
  clear c0 c1 c2 c3 c4 c5 c6 c7 c8 c9 hi ht h1 h2 h3 hm3 cx cy cz hx hy hz
  go_wp2_with fail
  refine CX.out.mono ?_
  rintro e w' ⟨rfl, rfl⟩
  go_wp2_with fail
  refine CY.out.mono ?_
  rintro e w' ⟨rfl, rfl⟩
  go_wp2_with fail
  refine CZ.out.mono ?_
  rintro e w' ⟨rfl, rfl⟩
  go_wp2_with fail
  refine (C0.out _).mono ?_
  rintro e w' ⟨rfl, rfl⟩
  go_wp2_with fail
  refine (C1.out _).mono ?_
  rintro e w' ⟨rfl, rfl⟩
  go_wp2_with fail
  refine (C2.out _).mono ?_
  rintro e w' ⟨rfl, rfl⟩
  go_wp2_with fail
  refine (C1.out _).mono ?_
  rintro e w' ⟨rfl, rfl⟩
  go_wp2_with fail
  refine (C3.out _).mono ?_
  rintro e w' ⟨rfl, rfl⟩
  go_wp2_with fail
  refine (C4.out _).mono ?_
  rintro e w' ⟨rfl, rfl⟩
  go_wp2_with fail
  refine (C5.out _).mono ?_
  rintro e w' ⟨rfl, rfl⟩
  go_wp2_with fail
  refine (C6.out _).mono ?_
  rintro e w' ⟨rfl, rfl⟩
  go_wp2_with fail
  refine (C7.out _).mono ?_
  rintro e w' ⟨rfl, rfl⟩
  go_wp2_with fail
  refine (C8.out _).mono ?_
  rintro e w' ⟨rfl, rfl⟩
  go_wp2_with fail
  refine (C1.out _).mono ?_
  rintro e w' ⟨rfl, rfl⟩
  go_wp2_with fail
  refine (C9.out _).mono ?_
  rintro e w' ⟨rfl, rfl⟩
  obtain ⟨b, hb1, hb2⟩ := HB.out
  go_wp2_with fail
  go_ret
  exact ⟨rfl, HX.out⟩
end Go.Proofs.Ytamolgbdpnpemaa
