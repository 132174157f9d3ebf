/- Walk over the reference's F; own lemmas of the verifier, no statement is proved here. -/
import Derived.Test.YthfcndaccfpnmaaDoorX10
namespace Go.Proofs.YthfcndaccfpnmaaDoor
open Go.RowKit
/-- The bytes when i nibbles have been laid. -/
def nibF (x : List UInt8) (i p : Nat) : Nat := (if 2 * p < i then 16 * sN (2 * p) (six x (2 * p)) else 0) + (if 2 * p + 1 < i then sN (2 * p + 1) (six x (2 * p + 1)) else 0)
def nibL (x : List UInt8) (i : Nat) : List UInt8 := (List.range 4).map fun p => UInt8.ofNat (nibF x i p)
theorem nibL_len (x : List UInt8) (i : Nat) : (nibL x i).length = 4 := by simp [nibL]
theorem nibL_zero (x : List UInt8) : nibL x 0 = List.replicate 4 0 := by
  rfl
theorem nibL_full (x : List UInt8) : nibL x 8 = fourL x := by
  apply List.ext_getElem
  · simp [nibL, fourL]
  · intro p h1 h2
    have hp : p < 4 := by simpa [nibL] using h1
    simp only [nibL, fourL, List.getElem_map, List.getElem_range, nibF, fourF]
    rw [if_pos (by omega), if_pos (by omega)]
theorem nibF_lt (x : List UInt8) (i p : Nat) : nibF x i p < 256 := by
  have h1 := sN_lt (2 * p) (six x (2 * p))
  have h2 := sN_lt (2 * p + 1) (six x (2 * p + 1))
  unfold nibF
  split <;> split <;> omega
theorem nibL_set (x : List UInt8) (i : Nat) : nibL x (i + 1) = (nibL x i).set (i / 2) (UInt8.ofNat (nibF x (i + 1) (i / 2))) := by
  apply List.ext_getElem
  · simp [nibL]
  · intro p h1 h2
    rw [List.getElem_set]
    simp only [nibL, List.getElem_map, List.getElem_range]
    split
    · rename_i h; subst h; rfl
    · rename_i h
      congr 1
      unfold nibF
      congr 1
      · by_cases hc : 2 * p < i
        · rw [if_pos (by omega), if_pos hc]
        · rw [if_neg (by omega), if_neg hc]
      · by_cases hc : 2 * p + 1 < i
        · rw [if_pos (by omega), if_pos hc]
        · rw [if_neg (by omega), if_neg hc]
theorem nibL_get (x : List UInt8) (i p : Nat) (hp : p < 4) : byteAt (nibL x i) p = (nibF x i p : Nat) := by
  unfold byteAt
  have : (nibL x i).getD p 0 = UInt8.ofNat (nibF x i p) := by simp [nibL, List.getD, hp]
  rw [this]; exact u8_nat _ (nibF_lt _ _ _)
theorem nib_even (x : List UInt8) (p : Nat) : nibF x (2 * p) p = 0 ∧ nibF x (2 * p + 1) p = 16 * sN (2 * p) (six x (2 * p)) := by
  unfold nibF
  rw [if_neg (by omega), if_neg (by omega), if_pos (by omega), if_neg (by omega)]
  exact ⟨rfl, rfl⟩
theorem nib_odd (x : List UInt8) (p : Nat) : nibF x (2 * p + 1) p = 16 * sN (2 * p) (six x (2 * p)) ∧ nibF x (2 * p + 1 + 1) p = 16 * sN (2 * p) (six x (2 * p)) + sN (2 * p + 1) (six x (2 * p + 1)) := by
  unfold nibF
  rw [if_pos (by omega), if_neg (by omega), if_pos (by omega), if_pos (by omega)]
  exact ⟨rfl, rfl⟩
theorem or_nib (a b : Nat) (ha : a < 16) (hb : b < 16) : bits .or .u8 ((16 * a : Nat) : Int) (b : Int) = ((16 * a + b : Nat) : Int) := by
  rw [u8_or_nat _ _ (by omega) (by omega)]
  have := Nat.two_pow_add_eq_or_of_lt (i := 4) (b := b) (by omega) a
  rw [show 16 * a = 2 ^ 4 * a by omega, ← this]
theorem or_none (b : Nat) (hb : b < 256) : bits .or .u8 0 (b : Int) = (b : Int) := by
  rw [show (0 : Int) = ((0 : Nat) : Int) from rfl, u8_or_nat _ _ (by omega) hb, Nat.zero_or]
theorem both_rd (A A' : Option Addr) (n c c' : Nat) (xs ys : List UInt8) (w : World) (h : Rd w w.heap.size A n xs) (h' : Rd w w.heap.size A' n ys) (hn : n ≤ 140737488355328) :
    Calls Tryd.prog 22 #[.slice A n c, .slice A' n c'] w (RdRet w n (xorL xs ys n)) := by
  refine (both_any A A' n c c' xs ys w h h' hn).mono ?_
  rintro e w' ⟨v, rfl, ho, hb⟩
  exact rd_ret ho hb (xorL_length _ _ _)
theorem rbit_six (A : Option Addr) (c i j : Nat) (x : List UInt8) (w : World) (h : Rd w w.heap.size A 6 x) (hi : i < 8) (hj : j < 6) :
    Calls Tryd.prog 38 #[.slice A 6 c, .int .i64 (6 * (i : Int) + ((j : Int) + 1))] w fun e w' => e = .returned (.int .i64 (bitN x ((6 * i + j : Nat) + 1) : Nat)) ∧ w = w' := by
  have e : (6 * (i : Int) + ((j : Int) + 1)) = (((6 * i + j : Nat) : Int) + 1) := by omega
  rw [e]
  exact rbit_any A 6 c _ x w h (by omega) (by omega) (by omega)
set_option maxHeartbeats 400000 in
theorem rf_bad (A A' : Option Addr) (n m c c' : Nat) (w : World) (h : ¬ (n = 4 ∧ m = 6)) :
    Calls Tryd.prog 16 #[.slice A n c, .slice A' m c'] w fun e w' => e = .returned (.tuple #[.slice none 0 0, .bool false]) ∧ Ext w w' := by
  by_cases h4 : n = 4
  · subst h4
    have h5 : ((m : Int) != 6) = true := by simp; omega
    go_enter Tryd.func16, Tryd.ntmps16
    go_wp2
    go_ret2
    exact ⟨rfl, Ext.refl _⟩
  · have h5 : ((n : Int) != 4) = true := by simp; omega
    go_enter Tryd.func16, Tryd.ntmps16
    go_wp2
    go_ret2
    exact ⟨rfl, Ext.refl _⟩
set_option maxHeartbeats 4000000 in
theorem rf_any (A A' : Option Addr) (c c' : Nat) (r k : List UInt8) (w : World) (hr : Rd w w.heap.size A 4 r) (hk : Rd w w.heap.size A' 6 k) :
    Calls Tryd.prog 16 #[.slice A 4 c, .slice A' 6 c'] w (FRet w r k) := by
  have HR := hid hr
  have HK := hid hk
  clear hr hk
  go_enter Tryd.func16, Tryd.ntmps16
  go_wp2_with fail
  refine (wider_any _).mono ?_
  rintro e w1 ⟨A1, c1, rfl, ht1, hx1⟩
  have HX1 := hid hx1
  have HT1 := hid ht1
  have HR1 := hid (HR.out.later hx1)
  clear hx1 ht1
  go_wp2_with fail
  refine (by_rd _ _ 4 48 _ _ _ _ 6 _ HR1.out (by omega) HT1.out e_ok (by omega)).mono ?_
  rintro e w2 ⟨A2, c2, rfl, hc2, hr2, hx2⟩
  have HX2 := hid (Ext.trans HX1.out hx2)
  have HR2 := hid hr2
  have HK2 := hid (HK.out.later HX2.out)
  clear hx2 hr2 HR1 HT1
  go_wp2_with fail
  refine (both_rd _ _ 6 _ _ _ _ _ HR2.out HK2.out (by omega)).mono ?_
  rintro e w3 ⟨A3, c3, rfl, hc3, hr3, hx3⟩
  have HX3 := hid (Ext.trans HX2.out hx3)
  have HR3 := hid (show Rd w3 w3.heap.size A3 6 (fx r k) from hr3)
  clear hx3 hr3 HR2 HK2 HX1 HX2
  obtain ⟨x, hx⟩ : ∃ x, fx r k = x := ⟨_, rfl⟩
  rw [hx] at HR3
  have HXX := hid hx
  clear hx
  go_wp2_with (at_make; refine wpL_make rfl (.const (.int .i64 4)) (.const (.int .i64 4)) 22 rfl Tryd.underlying22 Tryd.info5 .i64 _ 4 rfl rfl rfl (by omega) w3.heap.size (Nat.le_refl _) ?_; intro w4 hown4 hb4 _)
  obtain ⟨G, hG⟩ : ∃ G, w3.heap.size = G := ⟨_, rfl⟩
  rw [hG] at hown4 ⊢
  have HO4 := hid (show Own w4 G (.slice (some ⟨G, 0, none⟩) 4 4) (nibL x 0) by rw [nibL_zero]; exact hown4)
  have HB4 := hid (show Below w3.heap.size w3 w4 from hb4)
  have hG3 := hid hG
  clear hown4 hb4 hG
  go_wp2_with fail
  go_loopw [8] (fun i wr => ∃ n : Nat, n ≤ 8 ∧ i = .int .i64 n ∧ Own wr G (.slice (some ⟨G, 0, none⟩) 4 4) (nibL x n) ∧ Below w3.heap.size w3 wr) (fun i _ => 8 - (intOf i).toNat)
  case atStart => exact ⟨0, by omega, rfl, HO4.out, HB4.out⟩
  case round =>
    clear HO4 HB4
    obtain ⟨n, hn, rfl, hown, hb⟩ := hrel
    by_cases hlt : n < 8
    · have HO := hid hown
      have HB := hid hb
      have HRn := hid (HR3.out.later (show Ext w3 wr from hb))
      clear hown hb
      obtain ⟨W, rfl⟩ : ∃ W, W = wr := ⟨_, rfl⟩
      go_wp2_with fail
      try rw [show decide ((n : Int) < 8) = true by simp; omega]
      go_loopw [9, 10] (fun s j wi => ∃ m : Nat, m ≤ 6 ∧ j = .int .i64 ((m : Int) + 1) ∧ s = .int .i64 (sixG x n m : Nat) ∧ W = wi) (fun _ j _ => 7 - (intOf j).toNat)
      case atStart => exact ⟨0, by omega, rfl, rfl, rfl⟩
      case round =>
        obtain ⟨m, hm, rfl, rfl, rfl⟩ := hrel
        by_cases hmt : m < 6
        · have hs := sixG_lt x n m
          have hs2 : 2 ^ m ≤ 2 ^ 6 := Nat.pow_le_pow_right (by omega) (by omega)
          have hbl := bitN_le x ((6 * n + m : Nat) + 1)
          have hst : sixG x n (m + 1) = 2 * sixG x n m + bitN x ((6 * n + m : Nat) + 1) := rfl
          obtain ⟨S, hS⟩ : ∃ S, sixG x n m = S := ⟨_, rfl⟩
          have hbit := fun w h => rbit_six A3 c3 n m x w h hlt hmt
          obtain ⟨b, hbe⟩ : ∃ b, bitN x ((6 * n + m : Nat) + 1) = b := ⟨_, rfl⟩
          rw [hbe] at hbl hst hbit
          rw [hS] at hs hst ⊢
          have HST := hid hst
          have HBIT := hid hbit
          have hS64 : S < 64 := by omega
          clear hst hbit hS hbe hs hs2
          go_wp2_with (go_at_call 38; refine (HBIT.out _ HRn.out).mono ?_; rintro e w' ⟨rfl, rfl⟩)
          go_roundw
          case rel => exact ⟨m + 1, by omega, by go_num, by rw [HST.out]; go_num, trivial⟩
          case measure => simp [intOf]; omega
        · obtain rfl : m = 6 := by omega
          have h6 := six_lt x n
          have hsix : sixG x n 6 = six x n := rfl
          rw [hsix]
          obtain ⟨S, hS⟩ : ∃ S, six x n = S := ⟨_, rfl⟩
          rw [hS] at h6 ⊢
          have HS := hid hS
          clear hS hsix
          go_wp2_with fail
          refine (rows_any n _ hlt).mono ?_
          rintro e w5 ⟨b5, rfl, hrows, hx5⟩
          have hR4 : 2 * (S / 32) + S % 2 < 4 := by omega
          obtain ⟨d, hcell, hgood⟩ := hrows _ hR4
          have hsn : sN n S = boxW n (2 * (S / 32) + S % 2) / 2 ^ (60 - 4 * (S / 2 % 16)) % 16 := rfl
          have q1 : (S : Int) / 32 * 2 + (S : Int) % 2 = ((2 * (S / 32) + S % 2 : Nat) : Int) := by omega
          have q2 : (S : Int) / 2 % 16 = ((S / 2 % 16 : Nat) : Int) := by omega
          obtain ⟨R, hR⟩ : ∃ R, 2 * (S / 32) + S % 2 = R := ⟨_, rfl⟩
          obtain ⟨B, hB⟩ : ∃ B, S / 2 % 16 = B := ⟨_, rfl⟩
          have hB16 : B < 16 := by omega
          rw [hR] at hR4 hcell hgood hsn q1
          rw [hB] at hsn q2
          have hat := fun w => at_any d n R B w hB16 hgood
          rw [← hsn] at hat
          have HAT := hid hat
          have HX5 := hid hx5
          clear hrows hR hB hsn hat hx5
          obtain ⟨p, hp⟩ : ∃ p, n / 2 = p := ⟨_, rfl⟩
          rcases (show n % 2 = 0 ∨ n % 2 = 1 by omega) with hpar | hpar
          · obtain rfl : n = 2 * p := by omega
            have hown5 := HO.out.kept HX5.out
            have hget := nibL_get x (2 * p) p (by omega)
            have hset0 := nibL_set x (2 * p)
            rw [show (2 * p) / 2 = p by omega] at hset0
            have hown6 : Own w5 G (.slice (some ⟨G, 0, none⟩) (nibL x (2 * p)).length 4) (nibL x (2 * p)) := by rw [nibL_len]; exact hown5
            have hcell6 := hown6.cell p (by rw [nibL_len]; omega)
            have hfree6 := hown6.free p
            have hset := hown6.set_ p (UInt8.ofNat (nibF x ((2 * p) + 1) p))
            rw [← hset0, nibL_len, u8_nat _ (nibF_lt x ((2 * p) + 1) p)] at hset
            rw [hget] at hcell6
            have hsl := sN_lt (2 * p) S
            rw [(nib_even x p).1] at hcell6
            rw [(nib_even x p).2, HS.out] at hset
            obtain ⟨v, hv⟩ : ∃ v, sN (2 * p) S = v := ⟨_, rfl⟩
            rw [hv] at hset hsl HAT
            have hor := or_none (16 * v) (by omega)
            have hor2 : bits .or .u8 0 ((v : Int) * 16) = ((16 * v : Nat) : Int) := by rw [← hor]; congr 1; omega
            have p0 : ((2 * p : Nat) : Int) / 2 = p := by omega
            have p1 : ((2 * p : Nat) : Int) % 2 = 0 := by omega
            have HSET := hid hset
            clear hor hset hset0 hown5 hown6 hget hv
            go_wp2_with (go_at_call 39; refine (HAT.out _).mono ?_; rintro e w' ⟨rfl, rfl⟩)
            have HBW := hid (HB.out.trans (Below.mono (show Below W.heap.size W w5 from HX5.out) HB.out.size))
            go_roundw
            case rel => exact ⟨2 * p + 1, by omega, by go_num, by have := HSET.out; rw [show ((16 * v : Nat) : Int) = 16 * (v : Int) by omega] at this; exact this, HBW.out.setCell (by have := hG3.out; simp; omega) _⟩
            case measure => simp [intOf]; omega
          · obtain rfl : n = 2 * p + 1 := by omega
            have hown5 := HO.out.kept HX5.out
            have hget := nibL_get x (2 * p + 1) p (by omega)
            have hset0 := nibL_set x (2 * p + 1)
            rw [show (2 * p + 1) / 2 = p by omega] at hset0
            have hown6 : Own w5 G (.slice (some ⟨G, 0, none⟩) (nibL x (2 * p + 1)).length 4) (nibL x (2 * p + 1)) := by rw [nibL_len]; exact hown5
            have hcell6 := hown6.cell p (by rw [nibL_len]; omega)
            have hfree6 := hown6.free p
            have hset := hown6.set_ p (UInt8.ofNat (nibF x (2 * p + 1 + 1) p))
            rw [← hset0, nibL_len, u8_nat _ (nibF_lt x (2 * p + 1 + 1) p)] at hset
            rw [hget] at hcell6
            have hsl := sN_lt (2 * p + 1) S
            have hsa := sN_lt (2 * p) (six x (2 * p))
            rw [(nib_odd x p).1] at hcell6
            rw [(nib_odd x p).2, HS.out] at hset
            obtain ⟨v, hv⟩ : ∃ v, sN (2 * p + 1) S = v := ⟨_, rfl⟩
            rw [hv] at hset hsl HAT
            obtain ⟨a, ha⟩ : ∃ a, sN (2 * p) (six x (2 * p)) = a := ⟨_, rfl⟩
            rw [ha] at hset hsa hcell6
            have hor := or_nib a v hsa hsl
            have hor2 : bits .or .u8 (16 * (a : Int)) (v : Int) = ((16 * a + v : Nat) : Int) := by rw [← hor]; congr 1
            have hcell7 : w5.cell? ⟨G, p, none⟩ = some (.int .u8 (16 * (a : Int))) := by rw [hcell6]; congr 2
            have p0 : ((2 * p + 1 : Nat) : Int) / 2 = p := by omega
            have p1 : ((2 * p + 1 : Nat) : Int) % 2 = 1 := by omega
            have HSET := hid hset
            clear hor hset hset0 hown5 hown6 hget hv ha hcell6
            go_wp2_with (go_at_call 39; refine (HAT.out _).mono ?_; rintro e w' ⟨rfl, rfl⟩)
            have HBW := hid (HB.out.trans (Below.mono (show Below W.heap.size W w5 from HX5.out) HB.out.size))
            go_roundw
            case rel => exact ⟨2 * p + 1 + 1, by omega, by go_num, by have := HSET.out; rw [show ((16 * a + v : Nat) : Int) = 16 * (a : Int) + (v : Int) by omega] at this; exact this, HBW.out.setCell (by have := hG3.out; simp; omega) _⟩
            case measure => simp [intOf]; omega
    · obtain rfl : n = 8 := by omega
      obtain ⟨A6, c6, e6, _, hr6, _⟩ := hown.rdc (nibL_len x 8)
      rw [nibL_full] at hr6
      have HXx := hid (Ext.trans HX3.out (show Ext w3 wr from hb))
      have HR6 := hid hr6
      cases e6
      clear hown hb hr6
      go_wp2_with fail
      refine (mixed_any _).mono ?_
      rintro e w7 ⟨A7, c7, rfl, ht7, hx7⟩
      have HX7 := hid (Ext.trans HXx.out hx7)
      have HT7 := hid ht7
      have HR7 := hid (HR6.out.later hx7)
      clear hx7 ht7 HR6 HXx
      go_wp2_with fail
      refine (by_rd _ _ 4 32 _ _ _ _ 4 _ HR7.out (by omega) HT7.out mx_ok (by omega)).mono ?_
      rintro e w8 ⟨A8, c8, rfl, hc8, hr8, hx8⟩
      have HH := hid (And.intro hr8 (Ext.trans HX7.out hx8))
      clear hr8 hx8
      go_wp2_with fail
      go_ret2
      refine ⟨A8, c8, rfl, hc8, ?_, HH.out.2⟩
      have := HH.out.1
      unfold fL
      rw [HXX.out]
      exact this
end Go.Proofs.YthfcndaccfpnmaaDoor
