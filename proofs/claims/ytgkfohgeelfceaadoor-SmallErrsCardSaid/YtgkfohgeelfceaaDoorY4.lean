/- Walks over the reference's magma and rc5; own lemmas of the verifier, no statement is proved here. -/
import Derived.Test.YtgkfohgeelfceaaDoorY3
import Derived.BigQuiet
namespace Go.Proofs.YtgkfohgeelfceaaDoor
open Go.RowKit
set_option maxRecDepth 100000 in
set_option maxHeartbeats 4000000 in
theorem rmagma_false (p g c : Nat) (key : List UInt8) (z0 : W2) (w : World) (h : RefS w p g 8 c .m (words .m key 8)) :
    Calls Tryd.prog 41 #[.pointer (some ⟨p, 0, none⟩), .int .u32 (z0.a.toNat : Nat), .int .u32 (z0.b.toNat : Nat), .bool false] w (Two w ⟨(mgAt (kw .m key) false z0 32).b, (mgAt (kw .m key) false z0 32).a⟩) := by
  have H := hid h
  clear h
  go_enter Tryd.func41, Tryd.ntmps41
  go_wp2_with fail
  go_loopw [1, 2, 10] (fun a c i wr => ∃ j : Nat, j ≤ 32 ∧ i = .int .i64 j ∧ a = .int .u32 ((mgAt (kw .m key) false z0 j).a.toNat : Nat) ∧ c = .int .u32 ((mgAt (kw .m key) false z0 j).b.toNat : Nat) ∧ Ext w wr) (fun _ _ i _ => 32 - (intOf i).toNat)
  case atStart => exact ⟨0, by omega, rfl, rfl, rfl, Ext.refl _⟩
  case round =>
    obtain ⟨j, hj, rfl, rfl, rfl, hx⟩ := hrel
    by_cases hlt : j < 32
    · obtain ⟨z, hz⟩ : ∃ z, mgAt (kw .m key) false z0 j = z := ⟨_, rfl⟩
      rw [hz]
      have HX := hid hx
      clear hx
      by_cases h24 : 24 ≤ j
      · obtain ⟨m, hm⟩ : ∃ m : Nat, j = m := ⟨_, rfl⟩
        have hmi : (m : Int) = (j : Int) := by omega
        obtain ⟨q, hq⟩ : ∃ q : Nat, 31 - m = q := ⟨_, rfl⟩
        have hq8 : q < 8 := by omega
        have hmq : mAt false j = q := by
          unfold mAt
          simp only [Bool.false_eq_true, if_false]
          rw [hm, if_neg (by omega)]; exact hq
        have hst : mgAt (kw .m key) false z0 (j + 1) = ⟨z.b, z.a ^^^ gW z.b (kw .m key q)⟩ := by rw [mgAt, hz, hmq]
        have hrs := H.out.later HX.out
        have hkc := hrs.keys
        have hroom := hrs.room
        have hc := hrs.cell q hq8
        rw [words_get _ _ _ _ hq8] at hc
        obtain ⟨kq, hkq⟩ : ∃ kq, kw .m key q = kq := ⟨_, rfl⟩
        rw [hkq] at hst hc
        have HST := hid hst
        have hmod : (m : Int) % 8 = (m % 8 : Nat) := by omega
        have h24i : 24 ≤ (m : Int) := by omega
        clear hst hrs hkq hmq
        go_wp2_with fail
        refine (rg_any z.b kq _).mono ?_
        rintro e w' ⟨rfl, hx2⟩
        have HX2 := hid (Ext.trans HX.out hx2)
        clear hx2
        go_wp2_with fail
        go_roundw
        case rel => exact ⟨j + 1, by omega, by go_num, by rw [HST.out], by rw [HST.out]; exact congrArg _ (w_xor _ _), HX2.out⟩
        case measure => simp [intOf]; omega
      · obtain ⟨m, hm⟩ : ∃ m : Nat, j = m := ⟨_, rfl⟩
        have hmi : (m : Int) = (j : Int) := by omega
        obtain ⟨q, hq⟩ : ∃ q : Nat, m % 8 = q := ⟨_, rfl⟩
        have hq8 : q < 8 := by omega
        have hmq : mAt false j = q := by
          unfold mAt
          simp only [Bool.false_eq_true, if_false]
          rw [hm, if_pos (by omega)]; exact hq
        have hst : mgAt (kw .m key) false z0 (j + 1) = ⟨z.b, z.a ^^^ gW z.b (kw .m key q)⟩ := by rw [mgAt, hz, hmq]
        have hrs := H.out.later HX.out
        have hkc := hrs.keys
        have hroom := hrs.room
        have hc := hrs.cell q hq8
        rw [words_get _ _ _ _ hq8] at hc
        obtain ⟨kq, hkq⟩ : ∃ kq, kw .m key q = kq := ⟨_, rfl⟩
        rw [hkq] at hst hc
        have HST := hid hst
        have hmod : (m : Int) % 8 = (m % 8 : Nat) := by omega
        have h24i : (m : Int) < 24 := by omega
        clear hst hrs hkq hmq
        go_wp2_with fail
        refine (rg_any z.b kq _).mono ?_
        rintro e w' ⟨rfl, hx2⟩
        have HX2 := hid (Ext.trans HX.out hx2)
        clear hx2
        go_wp2_with fail
        go_roundw
        case rel => exact ⟨j + 1, by omega, by go_num, by rw [HST.out], by rw [HST.out]; exact congrArg _ (w_xor _ _), HX2.out⟩
        case measure => simp [intOf]; omega
    · obtain rfl : j = 32 := by omega
      obtain ⟨z, hz⟩ : ∃ z, mgAt (kw .m key) false z0 32 = z := ⟨_, rfl⟩
      rw [hz]
      have HZ := hid hz
      have HX := hid hx
      clear hz hx
      go_wp2_with fail
      go_ret2
      rw [HZ.out]
      exact ⟨rfl, HX.out⟩
set_option maxRecDepth 100000 in
set_option maxHeartbeats 4000000 in
theorem rmagma_true (p g c : Nat) (key : List UInt8) (z0 : W2) (w : World) (h : RefS w p g 8 c .m (words .m key 8)) :
    Calls Tryd.prog 41 #[.pointer (some ⟨p, 0, none⟩), .int .u32 (z0.a.toNat : Nat), .int .u32 (z0.b.toNat : Nat), .bool true] w (Two w ⟨(mgAt (kw .m key) true z0 32).b, (mgAt (kw .m key) true z0 32).a⟩) := by
  have H := hid h
  clear h
  go_enter Tryd.func41, Tryd.ntmps41
  go_wp2_with fail
  go_loopw [1, 2, 10] (fun a c i wr => ∃ j : Nat, j ≤ 32 ∧ i = .int .i64 j ∧ a = .int .u32 ((mgAt (kw .m key) true z0 j).a.toNat : Nat) ∧ c = .int .u32 ((mgAt (kw .m key) true z0 j).b.toNat : Nat) ∧ Ext w wr) (fun _ _ i _ => 32 - (intOf i).toNat)
  case atStart => exact ⟨0, by omega, rfl, rfl, rfl, Ext.refl _⟩
  case round =>
    obtain ⟨j, hj, rfl, rfl, rfl, hx⟩ := hrel
    by_cases hlt : j < 32
    · obtain ⟨z, hz⟩ : ∃ z, mgAt (kw .m key) true z0 j = z := ⟨_, rfl⟩
      rw [hz]
      have HX := hid hx
      clear hx
      by_cases h24 : 24 ≤ 31 - j
      · obtain ⟨m, hm⟩ : ∃ m : Nat, 31 - j = m := ⟨_, rfl⟩
        have hmi : (m : Int) = 31 - (j : Int) := by omega
        obtain ⟨q, hq⟩ : ∃ q : Nat, 31 - m = q := ⟨_, rfl⟩
        have hq8 : q < 8 := by omega
        have hmq : mAt true j = q := by
          unfold mAt
          simp only [if_true]
          rw [hm, if_neg (by omega)]; exact hq
        have hst : mgAt (kw .m key) true z0 (j + 1) = ⟨z.b, z.a ^^^ gW z.b (kw .m key q)⟩ := by rw [mgAt, hz, hmq]
        have hrs := H.out.later HX.out
        have hkc := hrs.keys
        have hroom := hrs.room
        have hc := hrs.cell q hq8
        rw [words_get _ _ _ _ hq8] at hc
        obtain ⟨kq, hkq⟩ : ∃ kq, kw .m key q = kq := ⟨_, rfl⟩
        rw [hkq] at hst hc
        have HST := hid hst
        have hmod : (m : Int) % 8 = (m % 8 : Nat) := by omega
        have h24i : 24 ≤ (m : Int) := by omega
        clear hst hrs hkq hmq
        go_wp2_with fail
        refine (rg_any z.b kq _).mono ?_
        rintro e w' ⟨rfl, hx2⟩
        have HX2 := hid (Ext.trans HX.out hx2)
        clear hx2
        go_wp2_with fail
        go_roundw
        case rel => exact ⟨j + 1, by omega, by go_num, by rw [HST.out], by rw [HST.out]; exact congrArg _ (w_xor _ _), HX2.out⟩
        case measure => simp [intOf]; omega
      · obtain ⟨m, hm⟩ : ∃ m : Nat, 31 - j = m := ⟨_, rfl⟩
        have hmi : (m : Int) = 31 - (j : Int) := by omega
        obtain ⟨q, hq⟩ : ∃ q : Nat, m % 8 = q := ⟨_, rfl⟩
        have hq8 : q < 8 := by omega
        have hmq : mAt true j = q := by
          unfold mAt
          simp only [if_true]
          rw [hm, if_pos (by omega)]; exact hq
        have hst : mgAt (kw .m key) true z0 (j + 1) = ⟨z.b, z.a ^^^ gW z.b (kw .m key q)⟩ := by rw [mgAt, hz, hmq]
        have hrs := H.out.later HX.out
        have hkc := hrs.keys
        have hroom := hrs.room
        have hc := hrs.cell q hq8
        rw [words_get _ _ _ _ hq8] at hc
        obtain ⟨kq, hkq⟩ : ∃ kq, kw .m key q = kq := ⟨_, rfl⟩
        rw [hkq] at hst hc
        have HST := hid hst
        have hmod : (m : Int) % 8 = (m % 8 : Nat) := by omega
        have h24i : (m : Int) < 24 := by omega
        clear hst hrs hkq hmq
        go_wp2_with fail
        refine (rg_any z.b kq _).mono ?_
        rintro e w' ⟨rfl, hx2⟩
        have HX2 := hid (Ext.trans HX.out hx2)
        clear hx2
        go_wp2_with fail
        go_roundw
        case rel => exact ⟨j + 1, by omega, by go_num, by rw [HST.out], by rw [HST.out]; exact congrArg _ (w_xor _ _), HX2.out⟩
        case measure => simp [intOf]; omega
    · obtain rfl : j = 32 := by omega
      obtain ⟨z, hz⟩ : ∃ z, mgAt (kw .m key) true z0 32 = z := ⟨_, rfl⟩
      rw [hz]
      have HZ := hid hz
      have HX := hid hx
      clear hz hx
      go_wp2_with fail
      go_ret2
      rw [HZ.out]
      exact ⟨rfl, HX.out⟩
end Go.Proofs.YtgkfohgeelfceaaDoor
