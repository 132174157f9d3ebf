/- Walk over the reference's rc5; own lemmas of the verifier, no statement is proved here. -/
import Derived.Test.YtgkfohgeelfceaaDoorY4
namespace Go.Proofs.YtgkfohgeelfceaaDoor
open Go.RowKit
theorem rfAt_succ (s : List UInt32) (z0 z : W2) (r : Nat) (hr : 1 ≤ r) (hz : rfAt s z0 (r - 1) = z) : rfAt s z0 r =
    ⟨rolI (z.a ^^^ z.b) (z.b.toNat % 32 : Nat) + s.getD (2 * r) 0, rolI (z.b ^^^ (rolI (z.a ^^^ z.b) (z.b.toNat % 32 : Nat) + s.getD (2 * r) 0)) ((rolI (z.a ^^^ z.b) (z.b.toNat % 32 : Nat) + s.getD (2 * r) 0).toNat % 32 : Nat) + s.getD (2 * r + 1) 0⟩ := by
  obtain ⟨j, rfl⟩ : ∃ j, r = j + 1 := ⟨r - 1, by omega⟩
  rw [Nat.add_sub_cancel] at hz
  rw [rfAt, hz]; rfl
theorem rbAt_succ (s : List UInt32) (z0 z : W2) (r : Nat) (h1 : 1 ≤ r) (h2 : r ≤ 12) (hz : rbAt s z0 (12 - r) = z) : rbAt s z0 (12 - (r - 1)) =
    ⟨rolI (z.a - s.getD (2 * r) 0) (32 - (((rolI (z.b - s.getD (2 * r + 1) 0) (32 - ((z.a.toNat % 32 : Nat) : Int)) ^^^ z.a).toNat % 32 : Nat) : Int)) ^^^ (rolI (z.b - s.getD (2 * r + 1) 0) (32 - ((z.a.toNat % 32 : Nat) : Int)) ^^^ z.a), rolI (z.b - s.getD (2 * r + 1) 0) (32 - ((z.a.toNat % 32 : Nat) : Int)) ^^^ z.a⟩ := by
  rw [show 12 - (r - 1) = 12 - r + 1 by omega, rbAt, hz]
  unfold rcG rcB'
  rw [show 12 - (12 - r) = r by omega]
set_option maxRecDepth 100000 in
set_option maxHeartbeats 4000000 in
theorem rc5_there (p g c : Nat) (s : List UInt32) (z : W2) (w : World) (h : RefS w p g 26 c .r s) :
    Calls Tryd.prog 38 #[.pointer (some ⟨p, 0, none⟩), .int .u32 (z.a.toNat : Nat), .int .u32 (z.b.toNat : Nat), .bool false] w (Two w (rfAt s ⟨z.a + s.getD 0 0, z.b + s.getD 1 0⟩ 12)) := by
  have H := hid h
  have hk := h.keys
  have hroom := h.room
  have hc0 := h.cell 0 (by omega)
  have hc1 := h.cell 1 (by omega)
  obtain ⟨s0, hs0⟩ : ∃ x, s.getD 0 0 = x := ⟨_, rfl⟩
  obtain ⟨s1, hs1⟩ : ∃ x, s.getD 1 0 = x := ⟨_, rfl⟩
  rw [hs0] at hc0 ⊢
  rw [hs1] at hc1 ⊢
  have e0 := w_add z.a s0
  have e1 := w_add z.b s1
  obtain ⟨P, hP⟩ : ∃ x, z.a + s0 = x := ⟨_, rfl⟩
  obtain ⟨Q, hQ⟩ : ∃ x, z.b + s1 = x := ⟨_, rfl⟩
  rw [hP] at e0 ⊢
  rw [hQ] at e1 ⊢
  have b1 := wlt z.a
  have b2 := wlt z.b
  have b3 := wlt s0
  have b4 := wlt s1
  clear h hs0 hs1 hP hQ
  go_enter Tryd.func38, Tryd.ntmps38
  go_wp2_with fail
  go_quiet (fail)
  obtain ⟨W, hW⟩ : ∃ W, w.drewN nq = W := ⟨_, rfl⟩
  have HX := hid (show Ext w W by rw [← hW]; exact Ext.drewN (Ext.refl w) nq)
  rw [hW]
  have E0 := hid e0
  have E1 := hid e1
  clear hW hk hc0 hc1 e0 e1
  go_wp2_with fail
  go_loopw [1, 2, 10] (fun a b i wr => ∃ r : Nat, 1 ≤ r ∧ r ≤ 13 ∧ i = .int .i64 r ∧ a = .int .u32 ((rfAt s ⟨P, Q⟩ (r - 1)).a.toNat : Nat) ∧ b = .int .u32 ((rfAt s ⟨P, Q⟩ (r - 1)).b.toNat : Nat) ∧ Ext w wr) (fun _ _ i _ => 13 - (intOf i).toNat)
  case atStart => exact ⟨1, by omega, by omega, rfl, by first | rfl | exact congrArg _ E0.out, by first | rfl | exact congrArg _ E1.out, HX.out⟩
  case round =>
    clear HX
    obtain ⟨r, hr1, hr2, rfl, rfl, rfl, hx⟩ := hrel
    obtain ⟨y, hy⟩ : ∃ y, rfAt s ⟨P, Q⟩ (r - 1) = y := ⟨_, rfl⟩
    rw [hy]
    by_cases hlt : r ≤ 12
    · have hst := rfAt_succ s ⟨P, Q⟩ y r hr1 hy
      have hrs := H.out.later hx
      have hk := hrs.keys
      have hc1 := hrs.cell (2 * r) (by omega)
      have hc2 := hrs.cell (2 * r + 1) (by omega)
      obtain ⟨k1, hk1⟩ : ∃ x, s.getD (2 * r) 0 = x := ⟨_, rfl⟩
      obtain ⟨k2, hk2⟩ : ∃ x, s.getD (2 * r + 1) 0 = x := ⟨_, rfl⟩
      rw [hk1] at hc1 hst
      rw [hk2] at hc2 hst
      have x1 := w_xor y.a y.b
      obtain ⟨p1, hp1⟩ : ∃ x, y.a ^^^ y.b = x := ⟨_, rfl⟩
      rw [hp1] at x1 hst
      have hra := fun w => rrol_w p1 (y.b.toNat % 32 : Nat) w
      obtain ⟨q1, hq1⟩ : ∃ x, y.b.toNat % 32 = x := ⟨_, rfl⟩
      have m1 : (y.b.toNat : Int) % 32 = (q1 : Int) := by omega
      have l1 : q1 < 32 := by omega
      rw [hq1] at hra hst
      obtain ⟨p2, hp2⟩ : ∃ x, rolI p1 (q1 : Nat) = x := ⟨_, rfl⟩
      rw [hp2] at hra hst
      have a1 := w_add p2 k1
      obtain ⟨X, hX⟩ : ∃ x, p2 + k1 = x := ⟨_, rfl⟩
      rw [hX] at a1 hst
      have x2 := w_xor y.b X
      obtain ⟨p3, hp3⟩ : ∃ x, y.b ^^^ X = x := ⟨_, rfl⟩
      rw [hp3] at x2 hst
      have hrb := fun w => rrol_w p3 (X.toNat % 32 : Nat) w
      obtain ⟨q2, hq2⟩ : ∃ x, X.toNat % 32 = x := ⟨_, rfl⟩
      have m2 : (X.toNat : Int) % 32 = (q2 : Int) := by omega
      have l2 : q2 < 32 := by omega
      rw [hq2] at hrb hst
      obtain ⟨p4, hp4⟩ : ∃ x, rolI p3 (q2 : Nat) = x := ⟨_, rfl⟩
      rw [hp4] at hrb hst
      have a2 := w_add p4 k2
      obtain ⟨Y, hY⟩ : ∃ x, p4 + k2 = x := ⟨_, rfl⟩
      rw [hY] at a2 hst
      have HRA := hid hra
      have HRB := hid hrb
      have HST := hid hst
      have HX := hid hx
      have HK1 := hid hk1
      have HK2 := hid hk2
      have HY := hid hy
      have b5 := wlt y.a
      have b6 := wlt y.b
      have b7 := wlt k1
      have b8 := wlt k2
      have b9 := wlt p2
      have b10 := wlt p4
      have b11 := wlt X
      clear hrs hk1 hk2 hp1 hq1 hp2 hX hp3 hq2 hp4 hY hra hrb hst hx hy hc2
      go_wp2_with fail
      go_quiet (first | (go_at_call 25; exact quietSame (HRA.out _)))
      obtain ⟨W2, hW2⟩ : ∃ W2, wr.drewN nq = W2 := ⟨_, rfl⟩
      have hx2 : Ext w W2 := by rw [← hW2]; exact Ext.drewN HX.out nq
      rw [hW2]
      clear hW2 hk hc1
      have hrs := H.out.later hx2
      have hk := hrs.keys
      have hc2 := hrs.cell (2 * r + 1) (by omega)
      rw [HK2.out] at hc2
      have HX2 := hid hx2
      clear hrs hx2
      go_wp2_with fail
      go_quiet (first | (go_at_call 25; exact quietSame (HRB.out _)))
      obtain ⟨W3, hW3⟩ : ∃ W3, W2.drewN nq = W3 := ⟨_, rfl⟩
      have HX3 := hid (show Ext w W3 by rw [← hW3]; exact Ext.drewN HX2.out nq)
      rw [hW3]
      clear hW3 hk hc2
      go_wp2_with fail
      go_roundw
      case rel => exact ⟨r + 1, by omega, by omega, by go_num, by rw [Nat.add_sub_cancel, HST.out] <;> first | done | exact congrArg _ a1, by rw [Nat.add_sub_cancel, HST.out] <;> first | done | exact congrArg _ a2, HX3.out⟩
      case measure => simp [intOf]; omega
    · obtain rfl : r = 13 := by omega
      have HY := hid hy
      have HX := hid hx
      clear hy hx
      go_wp2_with fail
      go_ret2
      rw [show rfAt s ⟨P, Q⟩ 12 = y from HY.out]
      exact ⟨rfl, HX.out⟩
set_option maxRecDepth 100000 in
set_option maxHeartbeats 4000000 in
theorem rc5_back (p g c : Nat) (s : List UInt32) (z : W2) (w : World) (h : RefS w p g 26 c .r s) :
    Calls Tryd.prog 38 #[.pointer (some ⟨p, 0, none⟩), .int .u32 (z.a.toNat : Nat), .int .u32 (z.b.toNat : Nat), .bool true] w (Two w ⟨(rbAt s z 12).a - s.getD 0 0, (rbAt s z 12).b - s.getD 1 0⟩) := by
  have H := hid h
  clear h
  go_enter Tryd.func38, Tryd.ntmps38
  go_wp2_with fail
  go_loop [1, 2, 11] (fun a b i => ∃ r : Nat, r ≤ 12 ∧ i = .int .i64 r ∧ a = .int .u32 ((rbAt s z (12 - r)).a.toNat : Nat) ∧ b = .int .u32 ((rbAt s z (12 - r)).b.toNat : Nat)) (fun _ _ i => (intOf i).toNat)
  case atStart => exact ⟨12, by omega, rfl, rfl, rfl⟩
  case round =>
    obtain ⟨r, hr2, rfl, rfl, rfl⟩ := hrel
    obtain ⟨y, hy⟩ : ∃ y, rbAt s z (12 - r) = y := ⟨_, rfl⟩
    rw [hy]
    by_cases hlt : 1 ≤ r
    · have hst := rbAt_succ s z y r hlt hr2 hy
      have hk := H.out.keys
      have hroom := H.out.room
      have hc1 := H.out.cell (2 * r) (by omega)
      have hc2 := H.out.cell (2 * r + 1) (by omega)
      obtain ⟨k1, hk1⟩ : ∃ x, s.getD (2 * r) 0 = x := ⟨_, rfl⟩
      obtain ⟨k2, hk2⟩ : ∃ x, s.getD (2 * r + 1) 0 = x := ⟨_, rfl⟩
      rw [hk1] at hc1 hst
      rw [hk2] at hc2 hst
      have a1 := w_sub y.b k2
      obtain ⟨p1, hp1⟩ : ∃ x, y.b - k2 = x := ⟨_, rfl⟩
      rw [hp1] at a1 hst
      have hra := fun w => rrol_w p1 (32 - ((y.a.toNat % 32 : Nat) : Int)) w
      obtain ⟨q1, hq1⟩ : ∃ x, y.a.toNat % 32 = x := ⟨_, rfl⟩
      have m1 : (y.a.toNat : Int) % 32 = (q1 : Int) := by omega
      have l1 : q1 < 32 := by omega
      rw [hq1] at hra hst
      obtain ⟨p2, hp2⟩ : ∃ x, rolI p1 (32 - (q1 : Int)) = x := ⟨_, rfl⟩
      rw [hp2] at hra hst
      have x1 := w_xor p2 y.a
      obtain ⟨X, hX⟩ : ∃ x, p2 ^^^ y.a = x := ⟨_, rfl⟩
      rw [hX] at x1 hst
      have a2 := w_sub y.a k1
      obtain ⟨p3, hp3⟩ : ∃ x, y.a - k1 = x := ⟨_, rfl⟩
      rw [hp3] at a2 hst
      have hrb := fun w => rrol_w p3 (32 - ((X.toNat % 32 : Nat) : Int)) w
      obtain ⟨q2, hq2⟩ : ∃ x, X.toNat % 32 = x := ⟨_, rfl⟩
      have m2 : (X.toNat : Int) % 32 = (q2 : Int) := by omega
      have l2 : q2 < 32 := by omega
      rw [hq2] at hrb hst
      obtain ⟨p4, hp4⟩ : ∃ x, rolI p3 (32 - (q2 : Int)) = x := ⟨_, rfl⟩
      rw [hp4] at hrb hst
      have x2 := w_xor p4 X
      obtain ⟨Y, hY⟩ : ∃ x, p4 ^^^ X = x := ⟨_, rfl⟩
      rw [hY] at x2 hst
      have HRA := hid hra
      have HRB := hid hrb
      have HST := hid hst
      have b5 := wlt y.a
      have b6 := wlt y.b
      have b7 := wlt k1
      have b8 := wlt k2
      have b9 := wlt p2
      have b10 := wlt p4
      have b11 := wlt X
      clear hk1 hk2 hp1 hq1 hp2 hX hp3 hq2 hp4 hY hra hrb hst hy
      go_wp2_with fail
      refine (HRA.out _).mono ?_
      rintro e w' ⟨rfl, rfl⟩
      go_wp2_with fail
      refine (HRB.out _).mono ?_
      rintro e w' ⟨rfl, rfl⟩
      go_wp2_with fail
      go_round
      case rel => exact ⟨r - 1, by omega, by go_num, by rw [HST.out] <;> first | done | exact congrArg _ x2, by rw [HST.out] <;> first | done | exact congrArg _ x1⟩
      case measure => simp [intOf]; omega
    · obtain rfl : r = 0 := by omega
      have hk := H.out.keys
      have hroom := H.out.room
      have hc0 := H.out.cell 0 (by omega)
      have hc1 := H.out.cell 1 (by omega)
      obtain ⟨s0, hs0⟩ : ∃ x, s.getD 0 0 = x := ⟨_, rfl⟩
      obtain ⟨s1, hs1⟩ : ∃ x, s.getD 1 0 = x := ⟨_, rfl⟩
      rw [hs0] at hc0
      rw [hs1] at hc1
      have e0 := w_sub y.a s0
      have e1 := w_sub y.b s1
      obtain ⟨P, hP⟩ : ∃ x, y.a - s0 = x := ⟨_, rfl⟩
      obtain ⟨Q, hQ⟩ : ∃ x, y.b - s1 = x := ⟨_, rfl⟩
      rw [hP] at e0
      rw [hQ] at e1
      have HY := hid (show (⟨(rbAt s z 12).a - s.getD 0 0, (rbAt s z 12).b - s.getD 1 0⟩ : W2) = ⟨P, Q⟩ by rw [show rbAt s z 12 = y from hy, hs0, hs1, hP, hQ])
      have b1 := wlt y.a
      have b2 := wlt y.b
      have b3 := wlt s0
      have b4 := wlt s1
      clear hy hs0 hs1 hP hQ
      go_wp2_with fail
      go_quiet (fail)
      go_wp2_with fail
      go_ret2
      rw [HY.out]
      exact ⟨by simp [e0, e1], Ext.drewN (Ext.refl w) nq⟩
end Go.Proofs.YtgkfohgeelfceaaDoor
