/- The law on F and the sum of its half and its key, walked; own text of the verifier. -/
import Derived.Test.YthfcndaccfpnmaaDoorX17
import Derived.Test.YthfcndaccfpnmaaDoorX11
namespace Go.Proofs.YthfcndaccfpnmaaDoor
open Go.RowKit
theorem fL_wide (a b k : List UInt8) (hk : k.length = 6) : fL b (xorL k (xorL (permL a eL) (permL b eL) 6) 6) = fL a k := by
  unfold fL
  rw [fx_wide a b k hk]
set_option maxRecDepth 100000 in
set_option maxHeartbeats 4000000 in
theorem wide_walk (a0 : Option Addr) (len0 cap0 : Nat) (z0 : List Int) (a1 : Option Addr) (len1 cap1 : Nat) (z1 : List Int) (a2 : Option Addr) (len2 cap2 : Nat) (z2 : List Int) (w : World) (w0 : IsRow .u8 w a0 len0 cap0 z0) (w1 : IsRow .u8 w a1 len1 cap1 z1) (w2 : IsRow .u8 w a2 len2 cap2 z2) (ho : Boxes w) :
    Calls Tryd.prog 9 #[.slice a0 len0 cap0, .slice a1 len1 cap1, .slice a2 len2 cap2] w fun e w' => e = .returned (.bool true) ∧ Below w.heap.size w w' := by
  obtain ⟨rs, hr0, hmax0, _⟩ := w0.rdc
  obtain ⟨ss, hr1, hmax1, _⟩ := w1.rdc
  obtain ⟨ks, hr2, hmax2, _⟩ := w2.rdc
  unfold maxLen at hmax0 hmax1 hmax2
  clear w0 w1 w2
  have HO := hid ho
  have H0 := hid hr0
  have H1 := hid hr1
  have H2 := hid hr2
  clear ho hr0 hr1 hr2
  go_enter Tryd.func9, Tryd.ntmps9
  go_wp2_with fail
  refine (known_any _ HO.out).mono ?_
  rintro e wk ⟨rfl, hxk⟩
  have HXK := hid hxk
  clear hxk
  go_wp2_with fail
  go_loopw [7, 8] (fun v i wr => ∃ k : Nat, k ≤ 48 ∧ i = .int .i64 k ∧ OwnN .i64 3 wr wk.heap.size v (eN k) ∧ Below wk.heap.size wk wr) (fun _ i _ => 48 - (intOf i).toNat)
  case atStart => exact ⟨0, Nat.zero_le _, rfl, World.ownsRow_nil _ _ _ _, Below.refl _ _⟩
  case round =>
    obtain ⟨k, hk, rfl, hown, hb⟩ := hrel
    by_cases hlt : k < 48
    · have hF : eF k = (((4 * (k / 6) + k % 6 + 31) % 32 + 1 : Nat) : Int) := rfl
      have hv : ((4 * ((k : Int) / 6) + (k : Int) % 6 + 31) % 32 + 1) = eF k := by rw [hF]; omega
      obtain ⟨X, hX⟩ : ∃ X, eF k = X := ⟨_, rfl⟩
      have hown2 := OwnN.kept hown (Ext.alloc1 wr X)
      have hone := one_rd wr X
      have hz := hb.size
      have HB := hid (hb.trans (Below.mono (Ext.alloc1 wr X) hz))
      have HS := hid (eN_succ k)
      have hl := eN_len k
      rw [hX] at hv HS
      clear hb hown hF hX
      go_wp2_with (at_builtin; refine wpL_appendN _ rfl (.tmp 23) (.tmp 33) 46 rfl Tryd.underlying46 8 Tryd.info3 wk.heap.size _ (eN k) rfl hown2 _ _ 1 1 [X] rfl hone (by omega) (by unfold maxLen; omega) (by simp; omega) ?_; intro v2 w2 hown3 hb2)
      rw [← HS.out] at hown3
      have HB2 := hid (HB.out.trans hb2)
      clear hb2
      go_roundw
      case rel => exact ⟨k + 1, by omega, by go_num, hown3, HB2.out⟩
      case measure => simp [intOf]; omega
    · obtain rfl : k = 48 := by omega
      obtain ⟨At, ct, rfl, ht⟩ := tab_of hown (eN_len 48) (by omega) (fun t ht => by have := e_in t ht; omega)
      have HT := hid (show Tab wr At 48 ct eL from ht)
      have HX := hid (Ext.trans HXK.out (show Ext wk wr from hb))
      clear hown hb ht
      go_wp2_with fail
      refine (bytes_rd _ 4 _ _ _ _ (H0.out.later HX.out) (by omega) (by omega)).mono ?_
      rintro e w3 ⟨A3, c3, rfl, hc3, hr3, hx3⟩
      have HX3 := hid (Ext.trans HX.out hx3)
      have HT3 := hid (HT.out.later hx3)
      have HA3 := hid hr3
      clear hr3 hx3 HX HT
      go_wp2_with fail
      refine (bytes_rd _ 4 _ _ _ _ (H1.out.later HX3.out) (by omega) (by omega)).mono ?_
      rintro e w4 ⟨A4, c4, rfl, hc4, hr4, hx4⟩
      have HX4 := hid (Ext.trans HX3.out hx4)
      have HT4 := hid (HT3.out.later hx4)
      have HA4 := hid (HA3.out.later hx4)
      have HB4 := hid hr4
      clear hr4 hx4 HX3 HT3 HA3
      go_wp2_with fail
      refine (bytes_rd _ 6 _ _ _ _ (H2.out.later HX4.out) (by omega) (by omega)).mono ?_
      rintro e w5 ⟨A5, c5, rfl, hc5, hr5, hx5⟩
      have HX5 := hid (Ext.trans HX4.out hx5)
      have HT5 := hid (HT4.out.later hx5)
      have HA5 := hid (HA4.out.later hx5)
      have HB5 := hid (HB4.out.later hx5)
      have HK5 := hid hr5
      clear hr5 hx5 HX4 HT4 HA4 HB4
      obtain ⟨a, ha⟩ : ∃ a, byL 4 rs = a := ⟨_, rfl⟩
      obtain ⟨b, hb⟩ : ∃ b, byL 4 ss = b := ⟨_, rfl⟩
      obtain ⟨k, hk⟩ : ∃ k, byL 6 ks = k := ⟨_, rfl⟩
      rw [ha] at HA5
      rw [hb] at HB5
      rw [hk] at HK5
      have HKL := hid (show k.length = 6 by rw [← hk]; exact byL_len _ _)
      clear ha hb hk
      go_wp2_with fail
      refine (by_rd _ _ 4 48 _ _ _ _ 6 _ HA5.out (by omega) HT5.out e_ok (by omega)).mono ?_
      rintro e w6 ⟨A6, c6, rfl, hc6, hr6, hx6⟩
      have HX6 := hid (Ext.trans HX5.out hx6)
      have HT6 := hid (HT5.out.later hx6)
      have HA6 := hid (HA5.out.later hx6)
      have HB6 := hid (HB5.out.later hx6)
      have HK6 := hid (HK5.out.later hx6)
      have HP6 := hid hr6
      clear hr6 hx6 HX5 HT5 HA5 HB5 HK5
      go_wp2_with fail
      refine (by_rd _ _ 4 48 _ _ _ _ 6 _ HB6.out (by omega) HT6.out e_ok (by omega)).mono ?_
      rintro e w7 ⟨A7, c7, rfl, hc7, hr7, hx7⟩
      have HX7 := hid (Ext.trans HX6.out hx7)
      have HA7 := hid (HA6.out.later hx7)
      have HB7 := hid (HB6.out.later hx7)
      have HK7 := hid (HK6.out.later hx7)
      have HP7 := hid (HP6.out.later hx7)
      have HQ7 := hid hr7
      clear hr7 hx7 HX6 HT6 HA6 HB6 HK6 HP6
      go_wp2_with fail
      refine (both_rd _ _ 6 _ _ _ _ _ HP7.out HQ7.out (by omega)).mono ?_
      rintro e w8 ⟨A8, c8, rfl, hc8, hr8, hx8⟩
      have HX8 := hid (Ext.trans HX7.out hx8)
      have HA8 := hid (HA7.out.later hx8)
      have HB8 := hid (HB7.out.later hx8)
      have HK8 := hid (HK7.out.later hx8)
      have HD8 := hid hr8
      clear hr8 hx8 HX7 HA7 HB7 HK7 HP7 HQ7
      go_wp2_with fail
      refine (f_any _ _ _ _ _ _ _ HA8.out HK8.out (HO.out.later HX8.out)).mono ?_
      rintro e w9 ⟨A9, c9, rfl, hc9, hr9, hx9⟩
      have HX9 := hid (Ext.trans HX8.out hx9)
      have HB9 := hid (HB8.out.later hx9)
      have HK9 := hid (HK8.out.later hx9)
      have HD9 := hid (HD8.out.later hx9)
      have HF9 := hid hr9
      clear hr9 hx9 HX8 HA8 HB8 HK8 HD8
      go_wp2_with fail
      refine (both_rd _ _ 6 _ _ _ _ _ HK9.out HD9.out (by omega)).mono ?_
      rintro e w10 ⟨A10, c10, rfl, hc10, hr10, hx10⟩
      have HX10 := hid (Ext.trans HX9.out hx10)
      have HB10 := hid (HB9.out.later hx10)
      have HF10 := hid (HF9.out.later hx10)
      have HE10 := hid hr10
      clear hr10 hx10 HX9 HB9 HK9 HD9 HF9
      go_wp2_with fail
      refine (f_any _ _ _ _ _ _ _ HB10.out HE10.out (HO.out.later HX10.out)).mono ?_
      rintro e w11 ⟨A11, c11, rfl, hc11, hr11, hx11⟩
      rw [fL_wide a b k HKL.out] at hr11
      have HX11 := hid (Ext.trans HX10.out hx11)
      have hs1 := strq (c := c9) (HF10.out.later hx11)
      have hs2 := strq (c := c11) hr11
      clear hr11 hx11 HX10 HB10 HF10 HE10
      go_wp2_with fail
      go_ret
      exact ⟨rfl, HX11.out⟩
end Go.Proofs.YthfcndaccfpnmaaDoor
