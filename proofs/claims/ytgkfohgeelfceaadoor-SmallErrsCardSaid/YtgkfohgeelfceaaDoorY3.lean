/- Walks over the reference's lays, xtea and magma; own lemmas of the verifier, no statement is proved here. -/
import Derived.Test.YtgkfohgeelfceaaDoorY2
namespace Go.Proofs.YtgkfohgeelfceaaDoor
open Go.RowKit
/-- The reference's Small. -/
structure RefS (w : World) (p g n c : Nat) (t : T3) (ks : List UInt32) : Prop where
  tag : w.cell? ⟨p, 0, none⟩ = some (.int .i64 t.code)
  keys : w.cell? ⟨p, 1, none⟩ = some (.slice (some ⟨g, 0, none⟩) n c)
  room : n ≤ c
  len : ks.length = n
  at_ : KW w g 0 ks
theorem RefS.later {w w' : World} {p g n c : Nat} {t : T3} {ks : List UInt32} (h : RefS w p g n c t ks) (hx : Ext w w') : RefS w' p g n c t ks :=
  ⟨cell_at hx h.tag, cell_at hx h.keys, h.room, h.len, h.at_.later hx⟩
theorem RefS.cell {w : World} {p g n c : Nat} {t : T3} {ks : List UInt32} (h : RefS w p g n c t ks) (j : Nat) (hj : j < n) : w.cell? ⟨g, j, none⟩ = some (.int .u32 ((ks.getD j 0).toNat : Nat)) := by
  have := h.at_ j (by rw [h.len]; exact hj)
  rwa [Nat.zero_add] at this
theorem w_shr11 (a : UInt32) : (a.toNat : Int) / (2048 : Int) = (((a >>> 11 : UInt32).toNat : Nat) : Int) := by
  rw [UInt32.toNat_shiftRight, Nat.shiftRight_eq_div_pow]
  have h : (11 : UInt32).toNat % 32 = 11 := rfl
  rw [h]
  omega
theorem shr11_mod (a : UInt32) : (a >>> 11 : UInt32).toNat % 4 = a.toNat / 2048 % 4 := by
  have := w_shr11 a
  omega
set_option maxHeartbeats 1000000 in
theorem lays_any (p g c : Nat) (key : List UInt8) (v s a : UInt32) (w : World) (h : RefS w p g 4 c .x (words .x key 4)) :
    Calls Tryd.prog 56 #[.pointer (some ⟨p, 0, none⟩), .int .u32 (v.toNat : Nat), .int .u32 (s.toNat : Nat), .int .u32 (a.toNat : Nat)] w fun e w' => e = .returned (.int .u32 ((mixW v (s + kw .x key (a.toNat % 4))).toNat : Nat)) ∧ w = w' := by
  have hk := h.keys
  have hr := h.room
  obtain ⟨i, hi⟩ : ∃ i, a.toNat % 4 = i := ⟨_, rfl⟩
  have hi4 : i < 4 := by omega
  have ei : (a.toNat : Int) % 4 = (i : Int) := by omega
  have hc := h.cell i hi4
  rw [words_get _ _ _ _ hi4] at hc
  rw [hi]
  obtain ⟨k, hke⟩ : ∃ k, kw .x key i = k := ⟨_, rfl⟩
  rw [hke] at hc ⊢
  have hs := w_add s k
  have hm := w_mix v (s + k)
  obtain ⟨S, hS⟩ : ∃ S, s + k = S := ⟨_, rfl⟩
  rw [hS] at hs hm ⊢
  have b1 := wlt v
  have b2 := wlt s
  have b3 := wlt k
  have b4 := wlt a
  have HM := hid hm
  clear h hi hke hS hm
  go_enter Tryd.func56, Tryd.ntmps56
  go_wp2
  go_ret
  exact ⟨ret_int HM.out, rfl⟩
/-- Two words are handed back. -/
def Two (w : World) (z : W2) (e : Ending) (w' : World) : Prop := e = .returned (.tuple #[.int .u32 (z.a.toNat : Nat), .int .u32 (z.b.toNat : Nat)]) ∧ Ext w w'
theorem gold_val : gold.toNat = 2654435769 := rfl
set_option maxRecDepth 100000 in
set_option maxHeartbeats 4000000 in
theorem xtea_there (p g c : Nat) (key : List UInt8) (z : W2) (w : World) (h : RefS w p g 4 c .x (words .x key 4)) :
    Calls Tryd.prog 40 #[.pointer (some ⟨p, 0, none⟩), .int .u32 (z.a.toNat : Nat), .int .u32 (z.b.toNat : Nat), .bool false] w (Two w (xtAt (kw .x key) z 32)) := by
  have H := hid h
  clear h
  go_enter Tryd.func40, Tryd.ntmps40
  go_wp2_with fail
  go_loop [1, 2, 10, 11] (fun v u s i => ∃ j : Nat, j ≤ 32 ∧ i = .int .i64 j ∧ v = .int .u32 ((xtAt (kw .x key) z j).a.toNat : Nat) ∧ u = .int .u32 ((xtAt (kw .x key) z j).b.toNat : Nat) ∧ s = .int .u32 ((sumX j).toNat : Nat)) (fun _ _ _ i => 32 - (intOf i).toNat)
  case atStart => exact ⟨0, by omega, rfl, rfl, rfl, rfl⟩
  case round =>
    obtain ⟨j, hj, rfl, rfl, rfl, rfl⟩ := hrel
    by_cases hlt : j < 32
    · have hst : xtAt (kw .x key) z (j + 1) = xtT (kw .x key) j (xtAt (kw .x key) z j) := rfl
      unfold xtT at hst
      obtain ⟨y, hy⟩ : ∃ y, xtAt (kw .x key) z j = y := ⟨_, rfl⟩
      have hss := sumX_succ j
      obtain ⟨S, hS⟩ : ∃ S, sumX j = S := ⟨_, rfl⟩
      obtain ⟨S2, hS2⟩ : ∃ S2, sumX (j + 1) = S2 := ⟨_, rfl⟩
      rw [hS, hS2] at hss
      rw [hy, hS, hS2, ← shr11_mod] at hst
      have hs2 : ((S.toNat : Int) + 2654435769) % 4294967296 = (S2.toNat : Int) := by rw [hss]; exact w_add S gold
      have c1 := fun w (h : RefS w p g 4 c .x (words .x key 4)) => lays_any p g c key y.b S S w h
      obtain ⟨m1, hm1⟩ : ∃ m, mixW y.b (S + kw .x key (S.toNat % 4)) = m := ⟨_, rfl⟩
      rw [hm1] at c1 hst
      have a1 := w_add y.a m1
      obtain ⟨X, hX⟩ : ∃ X, y.a + m1 = X := ⟨_, rfl⟩
      rw [hX] at a1 hst
      have c2 := fun w (h : RefS w p g 4 c .x (words .x key 4)) => lays_any p g c key X S2 (S2 >>> 11) w h
      have sh := w_shr11 S2
      obtain ⟨S3, hS3⟩ : ∃ S3, S2 >>> 11 = S3 := ⟨_, rfl⟩
      rw [hS3] at c2 hst sh
      obtain ⟨m2, hm2⟩ : ∃ m, mixW X (S2 + kw .x key (S3.toNat % 4)) = m := ⟨_, rfl⟩
      rw [hm2] at c2 hst
      have a2 := w_add y.b m2
      obtain ⟨Y, hY⟩ : ∃ Y, y.b + m2 = Y := ⟨_, rfl⟩
      rw [hY] at a2 hst
      rw [hy, hS]
      have C1 := hid c1
      have C2 := hid c2
      have HST := hid hst
      have HSS := hid hS2
      have b1 := wlt S2
      clear hy hS hS2 hm1 hm2 hX hY hS3 c1 c2 hst hss
      go_wp2_with fail
      refine (C1.out _ H.out).mono ?_
      rintro e w' ⟨rfl, rfl⟩
      go_wp2_with fail
      refine (C2.out _ H.out).mono ?_
      rintro e w' ⟨rfl, rfl⟩
      go_wp2_with fail
      go_round
      case rel => exact ⟨j + 1, by omega, by go_num, by rw [HST.out], by rw [HST.out]; exact congrArg _ a2, by rw [HSS.out]⟩
      case measure => simp [intOf]; omega
    · obtain rfl : j = 32 := by omega
      obtain ⟨y, hy⟩ : ∃ y, xtAt (kw .x key) z 32 = y := ⟨_, rfl⟩
      rw [hy]
      have HY := hid hy
      clear hy
      go_wp2_with fail
      go_ret2
      rw [HY.out]
      exact ⟨rfl, Ext.refl _⟩
set_option maxRecDepth 100000 in
set_option maxHeartbeats 4000000 in
theorem xtea_back (p g c : Nat) (key : List UInt8) (z : W2) (w : World) (h : RefS w p g 4 c .x (words .x key 4)) :
    Calls Tryd.prog 40 #[.pointer (some ⟨p, 0, none⟩), .int .u32 (z.a.toNat : Nat), .int .u32 (z.b.toNat : Nat), .bool true] w (Two w (xbAt (kw .x key) z 32)) := by
  have H := hid h
  clear h
  go_enter Tryd.func40, Tryd.ntmps40
  go_wp2_with fail
  go_loop [10, 12] (fun s i => ∃ j : Nat, j ≤ 32 ∧ i = .int .i64 j ∧ s = .int .u32 ((sumX j).toNat : Nat)) (fun _ i => 32 - (intOf i).toNat)
  case atStart => exact ⟨0, by omega, rfl, rfl⟩
  case round =>
    obtain ⟨j, hj, rfl, rfl⟩ := hrel
    by_cases hlt : j < 32
    · have hss := sumX_succ j
      obtain ⟨S, hS⟩ : ∃ S, sumX j = S := ⟨_, rfl⟩
      obtain ⟨S2, hS2⟩ : ∃ S2, sumX (j + 1) = S2 := ⟨_, rfl⟩
      rw [hS, hS2] at hss
      have hs2 : ((S.toNat : Int) + 2654435769) % 4294967296 = (S2.toNat : Int) := by rw [hss]; exact w_add S gold
      rw [hS]
      have HSS := hid hS2
      clear hS hS2 hss
      go_wp2_with fail
      go_round
      case rel => exact ⟨j + 1, by omega, by go_num, by rw [HSS.out]; exact congrArg _ hs2⟩
      case measure => simp [intOf]; omega
    · obtain rfl : j = 32 := by omega
      obtain ⟨S0, hS0⟩ : ∃ S0, sumX 32 = S0 := ⟨_, rfl⟩
      rw [hS0]
      have HS0 := hid hS0
      clear hS0
      go_wp2_with fail
      go_loop [1, 2, 10, 13] (fun v u s i => ∃ j : Nat, j ≤ 32 ∧ i = .int .i64 j ∧ v = .int .u32 ((xbAt (kw .x key) z j).a.toNat : Nat) ∧ u = .int .u32 ((xbAt (kw .x key) z j).b.toNat : Nat) ∧ s = .int .u32 ((sumX (32 - j)).toNat : Nat)) (fun _ _ _ i => 32 - (intOf i).toNat)
      case atStart => exact ⟨0, by omega, rfl, rfl, rfl, by rw [← HS0.out]⟩
      case round =>
        clear HS0
        obtain ⟨j, hj, rfl, rfl, rfl, rfl⟩ := hrel
        by_cases hlt2 : j < 32
        · have hst : xbAt (kw .x key) z (j + 1) = xtB (kw .x key) j (xbAt (kw .x key) z j) := rfl
          unfold xtB at hst
          obtain ⟨y, hy⟩ : ∃ y, xbAt (kw .x key) z j = y := ⟨_, rfl⟩
          have hss := sumX_succ (31 - j)
          rw [show 31 - j + 1 = 32 - j by omega] at hss
          obtain ⟨S, hS⟩ : ∃ S, sumX (32 - j) = S := ⟨_, rfl⟩
          obtain ⟨S2, hS2⟩ : ∃ S2, sumX (31 - j) = S2 := ⟨_, rfl⟩
          rw [hS, hS2] at hss
          rw [hy, hS, hS2, ← shr11_mod] at hst
          have hs2 : ((S.toNat : Int) - 2654435769) % 4294967296 = (S2.toNat : Int) := by
            have := w_sub S gold
            rw [hss] at this ⊢
            rw [UInt32.add_sub_cancel] at this
            exact this
          have sh := w_shr11 S
          obtain ⟨S3, hS3⟩ : ∃ S3, S >>> 11 = S3 := ⟨_, rfl⟩
          rw [hS3] at hst sh
          have c1 := fun w (h : RefS w p g 4 c .x (words .x key 4)) => lays_any p g c key y.a S S3 w h
          obtain ⟨m1, hm1⟩ : ∃ m, mixW y.a (S + kw .x key (S3.toNat % 4)) = m := ⟨_, rfl⟩
          rw [hm1] at c1 hst
          have a1 := w_sub y.b m1
          obtain ⟨X, hX⟩ : ∃ X, y.b - m1 = X := ⟨_, rfl⟩
          rw [hX] at a1 hst
          have c2 := fun w (h : RefS w p g 4 c .x (words .x key 4)) => lays_any p g c key X S2 S2 w h
          obtain ⟨m2, hm2⟩ : ∃ m, mixW X (S2 + kw .x key (S2.toNat % 4)) = m := ⟨_, rfl⟩
          rw [hm2] at c2 hst
          have a2 := w_sub y.a m2
          obtain ⟨Y, hY⟩ : ∃ Y, y.a - m2 = Y := ⟨_, rfl⟩
          rw [hY] at a2 hst
          rw [hy, hS]
          have C1 := hid c1
          have C2 := hid c2
          have HST := hid hst
          have HSS := hid (show sumX (32 - (j + 1)) = S2 by rw [← hS2]; congr 1; omega)
          have b1 := wlt S
          clear hy hS hS2 hm1 hm2 hX hY hS3 c1 c2 hst hss
          go_wp2_with fail
          refine (C1.out _ H.out).mono ?_
          rintro e w' ⟨rfl, rfl⟩
          go_wp2_with fail
          refine (C2.out _ H.out).mono ?_
          rintro e w' ⟨rfl, rfl⟩
          go_wp2_with fail
          go_round
          case rel => exact ⟨j + 1, by omega, by go_num, by rw [HST.out]; exact congrArg _ a2, by rw [HST.out], by rw [HSS.out]⟩
          case measure => simp [intOf]; omega
        · obtain rfl : j = 32 := by omega
          obtain ⟨y, hy⟩ : ∃ y, xbAt (kw .x key) z 32 = y := ⟨_, rfl⟩
          rw [hy]
          have HY := hid hy
          clear hy
          go_wp2_with fail
          go_ret2
          rw [HY.out]
          exact ⟨rfl, Ext.refl _⟩
end Go.Proofs.YtgkfohgeelfceaaDoor
