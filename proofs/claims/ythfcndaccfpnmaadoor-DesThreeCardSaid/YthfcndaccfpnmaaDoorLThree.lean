/- The law on three keys, walked; own text of the verifier. -/
import Derived.Test.YthfcndaccfpnmaaDoorX17
namespace Go.Proofs.YthfcndaccfpnmaaDoor
open Go.RowKit
theorem manyOf_three {key : List UInt8} (h : key.length = 16 ∨ key.length = 24) : manyOf key.length = 3 := by unfold manyOf; rw [if_neg (by omega)]
theorem block_three (kf : Nat → Nat → List UInt8) (b : List UInt8) : blockL 3 kf false b = turnL (dirF (kf 2) false) (turnL (dirF (kf 1) true) (turnL (dirF (kf 0) false) b)) := rfl
theorem chunks {x y z : List UInt8} (hx : x.length = 8) (hy : y.length = 8) (hz : z.length = 8) (rest : List UInt8) :
    ((x ++ (y ++ (z ++ rest))).drop (8 * 0)).take 8 = x ∧ ((x ++ (y ++ (z ++ rest))).drop (8 * 1)).take 8 = y ∧ ((x ++ (y ++ (z ++ rest))).drop (8 * 2)).take 8 = z := by
  refine ⟨?_, ?_, ?_⟩
  · rw [Nat.mul_zero, List.drop_zero, List.take_left' hx]
  · rw [Nat.mul_one, List.drop_left' hx, List.take_left' hy]
  · rw [show 8 * 2 = 8 + 8 from rfl, ← List.drop_drop, List.drop_left' hx, List.drop_left' hy, List.take_left' hz]
theorem all_three {x y z : List UInt8} (hx : x.length = 8) (hy : y.length = 8) (hz : z.length = 8) (b : List UInt8) :
    blockL (manyOf (x ++ y ++ z).length) (kfOf (x ++ y ++ z)) false b = turnL (dirF (keyF z) false) (turnL (dirF (keyF y) true) (turnL (dirF (keyF x) false) b)) := by
  have hl : (x ++ y ++ z).length = 24 := by simp [hx, hy, hz]
  have hk : key3 (x ++ y ++ z) = x ++ (y ++ (z ++ [])) := by unfold key3; rw [if_neg (by omega)]; simp
  rw [manyOf_three (.inr hl), block_three]
  unfold kfOf
  rw [hk, (chunks hx hy hz []).1, (chunks hx hy hz []).2.1, (chunks hx hy hz []).2.2]
theorem all_two {x y : List UInt8} (hx : x.length = 8) (hy : y.length = 8) (b : List UInt8) :
    blockL (manyOf (x ++ y).length) (kfOf (x ++ y)) false b = turnL (dirF (keyF x) false) (turnL (dirF (keyF y) true) (turnL (dirF (keyF x) false) b)) := by
  have hl : (x ++ y).length = 16 := by simp [hx, hy]
  have ht : (x ++ y).take 8 = x := List.take_left' hx
  have hk : key3 (x ++ y) = x ++ (y ++ (x ++ [])) := by unfold key3; rw [if_pos hl, ht]; simp
  rw [manyOf_three (.inl hl), block_three]
  unfold kfOf
  rw [hk, (chunks hx hy hx []).1, (chunks hx hy hx []).2.1, (chunks hx hy hx []).2.2]
theorem all_one {x : List UInt8} (hx : x.length = 8) (b : List UInt8) (hb : b.length = 8) :
    blockL (manyOf (x ++ x ++ x).length) (kfOf (x ++ x ++ x)) false b = turnL (dirF (keyF x) false) b := by
  rw [all_three hx hx hx, turnL_back (kf := dirF (keyF x) false) (kg := dirF (keyF x) true) b hb (fun i _ => rfl)]
/-- Bytes behind bytes, in a new row. -/
theorem lit_nil (w : World) : Own (w.alloc (.cells #[] 5)) w.heap.size (.slice (some ⟨w.heap.size, 0, none⟩) 0 0) [] := Own.lit w [] #[] 0 w.heap.size rfl rfl (by unfold maxLen; omega) (Nat.le_refl _)
theorem new_rd (A : Option Addr) (n c : Nat) (key : List UInt8) (w : World) (hn : n = 8 ∨ n = 16 ∨ n = 24) (h : Rd w w.heap.size A n key) (hc : n ≤ c) :
    Calls Tryd.prog 18 #[.slice A n c] w fun e w' => ∃ p, e = .returned (.tuple #[.pointer (some ⟨p, 0, none⟩), .int .i64 0]) ∧ IsDes w' p (manyOf key.length) (kfOf key) ∧ Ext w w' :=
  new_any A n c key w hn h hc
theorem manyOf_le (n : Nat) : manyOf n ≤ 1000 := by unfold manyOf; split <;> omega
set_option maxRecDepth 100000 in
set_option maxHeartbeats 4000000 in
theorem three_walk (a0 : Option Addr) (len0 cap0 : Nat) (z0 : List Int) (a1 : Option Addr) (len1 cap1 : Nat) (z1 : List Int) (a2 : Option Addr) (len2 cap2 : Nat) (z2 : List Int) (a3 : Option Addr) (len3 cap3 : Nat) (z3 : List Int) (w : World) (w0 : IsRow .u8 w a0 len0 cap0 z0) (w1 : IsRow .u8 w a1 len1 cap1 z1) (w2 : IsRow .u8 w a2 len2 cap2 z2) (w3 : IsRow .u8 w a3 len3 cap3 z3) (ho : Boxes w) :
    Calls Tryd.prog 5 #[.slice a0 len0 cap0, .slice a1 len1 cap1, .slice a2 len2 cap2, .slice a3 len3 cap3] w fun e w' => e = .returned (.bool true) ∧ Below w.heap.size w w' := by
  obtain ⟨l0, hr0, hmax0, _⟩ := w0.rdc
  obtain ⟨l1, hr1, hmax1, _⟩ := w1.rdc
  obtain ⟨l2, hr2, hmax2, _⟩ := w2.rdc
  obtain ⟨l3, hr3, hmax3, _⟩ := w3.rdc
  unfold maxLen at hmax0 hmax1 hmax2 hmax3
  clear w0 w1 w2 w3
  have HO := hid ho
  have H0 := hid hr0
  have H1 := hid hr1
  have H2 := hid hr2
  have H3 := hid hr3
  clear ho hr0 hr1 hr2 hr3
  go_enter Tryd.func5, Tryd.ntmps5
  go_wp2_with fail
  refine (known_any _ HO.out).mono ?_
  rintro e wk ⟨rfl, hxk⟩
  have HXK := hid hxk
  clear hxk
  go_wp2_with fail
  refine (bytes_rd _ 8 _ _ _ _ (H0.out.later HXK.out) (by omega) (by omega)).mono ?_
  rintro e w1 ⟨Ax, cx, rfl, hcx, hx, hx1⟩
  have HX1 := hid (Ext.trans HXK.out hx1)
  have HA1 := hid hx
  clear hx hx1 HXK
  go_wp2_with fail
  refine (bytes_rd _ 8 _ _ _ _ (H1.out.later HX1.out) (by omega) (by omega)).mono ?_
  rintro e w2 ⟨Ay, cy, rfl, hcy, hy, hx2⟩
  have HX2 := hid (Ext.trans HX1.out hx2)
  have HA2 := hid (HA1.out.later hx2)
  have HB2 := hid hy
  clear hy hx2 HX1 HA1
  go_wp2_with fail
  refine (bytes_rd _ 8 _ _ _ _ (H2.out.later HX2.out) (by omega) (by omega)).mono ?_
  rintro e w3 ⟨Az, cz, rfl, hcz, hz, hx3⟩
  have HX3 := hid (Ext.trans HX2.out hx3)
  have HA3 := hid (HA2.out.later hx3)
  have HB3 := hid (HB2.out.later hx3)
  have HC3 := hid hz
  clear hz hx3 HX2 HA2 HB2
  go_wp2_with fail
  refine (bytes_rd _ 8 _ _ _ _ (H3.out.later HX3.out) (by omega) (by omega)).mono ?_
  rintro e w4 ⟨Ap, cp, rfl, hcp, hp, hx4⟩
  have HX4 := hid (Ext.trans HX3.out hx4)
  have HA4 := hid (HA3.out.later hx4)
  have HB4 := hid (HB3.out.later hx4)
  have HC4 := hid (HC3.out.later hx4)
  have HP4 := hid hp
  clear hp hx4 HX3 HA3 HB3 HC3
  obtain ⟨x, hxe⟩ : ∃ x, byL 8 l0 = x := ⟨_, rfl⟩
  obtain ⟨y, hye⟩ : ∃ y, byL 8 l1 = y := ⟨_, rfl⟩
  obtain ⟨z, hze⟩ : ∃ z, byL 8 l2 = z := ⟨_, rfl⟩
  obtain ⟨b, hbe⟩ : ∃ b, byL 8 l3 = b := ⟨_, rfl⟩
  rw [hxe] at HA4
  rw [hye] at HB4
  rw [hze] at HC4
  rw [hbe] at HP4
  have hxl := hid HA4.out.len
  have hyl := hid HB4.out.len
  have hzl := hid HC4.out.len
  have hbl := hid HP4.out.len
  have HO4 := hid (HO.out.later HX4.out)
  clear hxe hye hze hbe H0 H1 H2 H3 HO
  -- the three keys by themselves
  go_wp2_with fail
  refine (new_rd Ax 8 cx x _ (.inl rfl) HA4.out hcx).mono ?_
  rintro e w5 ⟨pu, rfl, hu, hx5⟩
  have HX5 := hid (Ext.trans HX4.out hx5)
  have HR5 := hid (And.intro (HA4.out.later hx5) (And.intro (HB4.out.later hx5) (And.intro (HC4.out.later hx5) (And.intro (HP4.out.later hx5) (HO4.out.later hx5)))))
  have HU5 := hid hu
  clear hu hx5 HX4 HA4 HB4 HC4 HP4 HO4
  go_wp2_with fail
  refine (new_rd Ay 8 cy y _ (.inl rfl) HR5.out.2.1 hcy).mono ?_
  rintro e w6 ⟨pv, rfl, hv, hx6⟩
  have HX6 := hid (Ext.trans HX5.out hx6)
  have HR6 := hid (And.intro (HR5.out.1.later hx6) (And.intro (HR5.out.2.1.later hx6) (And.intro (HR5.out.2.2.1.later hx6) (And.intro (HR5.out.2.2.2.1.later hx6) (HR5.out.2.2.2.2.later hx6)))))
  have HD6 := hid (And.intro (HU5.out.later hx6) hv)
  clear hv hx6 HX5 HR5 HU5
  go_wp2_with fail
  refine (new_rd Az 8 cz z _ (.inl rfl) HR6.out.2.2.1 hcz).mono ?_
  rintro e w7 ⟨pw, rfl, hw, hx7⟩
  have HX7 := hid (Ext.trans HX6.out hx7)
  have HR7 := hid (And.intro (HR6.out.1.later hx7) (And.intro (HR6.out.2.1.later hx7) (And.intro (HR6.out.2.2.1.later hx7) (And.intro (HR6.out.2.2.2.1.later hx7) (HR6.out.2.2.2.2.later hx7)))))
  have HD7 := hid (And.intro (HD6.out.1.later hx7) (And.intro (HD6.out.2.later hx7) hw))
  clear hw hx7 HX6 HR6 HD6
  have HA := hid HR7.out.1
  have HB := hid HR7.out.2.1
  have HC := hid HR7.out.2.2.1
  have HP := hid HR7.out.2.2.2.1
  have HBX := hid HR7.out.2.2.2.2
  have HU := hid HD7.out.1
  have HV := hid HD7.out.2.1
  have HW := hid HD7.out.2.2
  have HX := hid HX7.out
  clear HR7 HD7 HX7
  have hown := lit_nil w7
  have hxa : Ext w7 (w7.alloc (.cells #[] 5)) := Ext.alloc _ _
  have hza : (w7.alloc (.cells #[] 5)).heap.size = w7.heap.size + 1 := by simp
  go_wp2_with (first
    | (at_builtin; refine wpL_append _ rfl (.tmp 65) (.tmp 66) 22 rfl Tryd.underlying22 Tryd.info5 w7.heap.size _ [] rfl hown _ Ax 8 cx x rfl (HA.out.later hxa) (by simp) (by omega) ?_; intro v1 u1 hown1 hb1; have HB1 := hid ((show Below w7.heap.size w7 _ from hxa).trans hb1); clear hb1; have hzb1 := Below.size HB1.out; have hown1 : Own u1 w7.heap.size v1 x := hown1)
    | (at_builtin; refine wpL_append _ rfl (.tmp 67) (.tmp 68) 22 rfl Tryd.underlying22 Tryd.info5 w7.heap.size _ (x) rfl hown1 _ Ay 8 cy y rfl (HB.out.later (show Ext w7 u1 from HB1.out)) (by rw [hxl.out]; omega) hzb1 ?_; intro v2 u2 hown2 hb2; have HB2 := hid (HB1.out.trans hb2); clear hb2; have hzb2 := Below.size HB2.out)
    | (at_builtin; refine wpL_append _ rfl (.tmp 69) (.tmp 70) 22 rfl Tryd.underlying22 Tryd.info5 w7.heap.size _ (x ++ y) rfl hown2 _ Az 8 cz z rfl (HC.out.later (show Ext w7 u2 from HB2.out)) (by rw [List.length_append, hxl.out, hyl.out]; omega) hzb2 ?_; intro v3 u3 hown3 hb3; have HB3 := hid (HB2.out.trans hb3); clear hb3; have hzb3 := Below.size HB3.out))
  obtain ⟨Ak, ck, rfl, hck, hrk, _⟩ := hown3.rdc (n := 24) (by simp only [List.length_append]; have := hxl.out; have := hyl.out; have := hzl.out; omega)
  have HK := hid hrk
  have hxe := (show Ext w7 u3 from HB3.out)
  have HA := hid (HA.out.later hxe)
  have HB := hid (HB.out.later hxe)
  have HC := hid (HC.out.later hxe)
  have HP := hid (HP.out.later hxe)
  have HBX := hid (HBX.out.later hxe)
  have HU := hid (HU.out.later hxe)
  have HV := hid (HV.out.later hxe)
  have HW := hid (HW.out.later hxe)
  have HX := hid (Ext.trans HX.out hxe)
  clear hown hown1 hown2 hown3 hrk hxa hza hxe HB1 hzb1 HB2 hzb2 HB3 hzb3
  refine (new_rd Ak 24 ck _ _ (.inr (.inr rfl)) HK.out hck).mono ?_
  rintro e wall ⟨pall, rfl, hd, hx⟩
  have HA := hid (HA.out.later hx)
  have HB := hid (HB.out.later hx)
  have HC := hid (HC.out.later hx)
  have HP := hid (HP.out.later hx)
  have HBX := hid (HBX.out.later hx)
  have HU := hid (HU.out.later hx)
  have HV := hid (HV.out.later hx)
  have HW := hid (HW.out.later hx)
  have HX := hid (Ext.trans HX.out hx)
  have HDall := hid hd
  clear hd hx HK
  have hown := lit_nil wall
  have hxa : Ext wall (wall.alloc (.cells #[] 5)) := Ext.alloc _ _
  have hza : (wall.alloc (.cells #[] 5)).heap.size = wall.heap.size + 1 := by simp
  go_wp2_with (first
    | (at_builtin; refine wpL_append _ rfl (.tmp 76) (.tmp 77) 22 rfl Tryd.underlying22 Tryd.info5 wall.heap.size _ [] rfl hown _ Ax 8 cx x rfl (HA.out.later hxa) (by simp) (by omega) ?_; intro v1 u1 hown1 hb1; have HB1 := hid ((show Below wall.heap.size wall _ from hxa).trans hb1); clear hb1; have hzb1 := Below.size HB1.out; have hown1 : Own u1 wall.heap.size v1 x := hown1)
    | (at_builtin; refine wpL_append _ rfl (.tmp 78) (.tmp 79) 22 rfl Tryd.underlying22 Tryd.info5 wall.heap.size _ (x) rfl hown1 _ Ay 8 cy y rfl (HB.out.later (show Ext wall u1 from HB1.out)) (by rw [hxl.out]; omega) hzb1 ?_; intro v2 u2 hown2 hb2; have HB2 := hid (HB1.out.trans hb2); clear hb2; have hzb2 := Below.size HB2.out))
  obtain ⟨Ak, ck, rfl, hck, hrk, _⟩ := hown2.rdc (n := 16) (by simp only [List.length_append]; have := hxl.out; have := hyl.out; have := hzl.out; omega)
  have HK := hid hrk
  have hxe := (show Ext wall u2 from HB2.out)
  have HA := hid (HA.out.later hxe)
  have HB := hid (HB.out.later hxe)
  have HC := hid (HC.out.later hxe)
  have HP := hid (HP.out.later hxe)
  have HBX := hid (HBX.out.later hxe)
  have HU := hid (HU.out.later hxe)
  have HV := hid (HV.out.later hxe)
  have HW := hid (HW.out.later hxe)
  have HDall := hid (HDall.out.later hxe)
  have HX := hid (Ext.trans HX.out hxe)
  clear hown hown1 hown2 hrk hxa hza hxe HB1 hzb1 HB2 hzb2
  refine (new_rd Ak 16 ck _ _ (.inr (.inl rfl)) HK.out hck).mono ?_
  rintro e wtwo ⟨ptwo, rfl, hd, hx⟩
  have HA := hid (HA.out.later hx)
  have HB := hid (HB.out.later hx)
  have HC := hid (HC.out.later hx)
  have HP := hid (HP.out.later hx)
  have HBX := hid (HBX.out.later hx)
  have HU := hid (HU.out.later hx)
  have HV := hid (HV.out.later hx)
  have HW := hid (HW.out.later hx)
  have HDall := hid (HDall.out.later hx)
  have HX := hid (Ext.trans HX.out hx)
  have HDtwo := hid hd
  clear hd hx HK
  have hown := lit_nil wtwo
  have hxa : Ext wtwo (wtwo.alloc (.cells #[] 5)) := Ext.alloc _ _
  have hza : (wtwo.alloc (.cells #[] 5)).heap.size = wtwo.heap.size + 1 := by simp
  go_wp2_with (first
    | (at_builtin; refine wpL_append _ rfl (.tmp 85) (.tmp 86) 22 rfl Tryd.underlying22 Tryd.info5 wtwo.heap.size _ [] rfl hown _ Ax 8 cx x rfl (HA.out.later hxa) (by simp) (by omega) ?_; intro v1 u1 hown1 hb1; have HB1 := hid ((show Below wtwo.heap.size wtwo _ from hxa).trans hb1); clear hb1; have hzb1 := Below.size HB1.out; have hown1 : Own u1 wtwo.heap.size v1 x := hown1)
    | (at_builtin; refine wpL_append _ rfl (.tmp 87) (.tmp 88) 22 rfl Tryd.underlying22 Tryd.info5 wtwo.heap.size _ (x) rfl hown1 _ Ax 8 cx x rfl (HA.out.later (show Ext wtwo u1 from HB1.out)) (by rw [hxl.out]; omega) hzb1 ?_; intro v2 u2 hown2 hb2; have HB2 := hid (HB1.out.trans hb2); clear hb2; have hzb2 := Below.size HB2.out)
    | (at_builtin; refine wpL_append _ rfl (.tmp 89) (.tmp 90) 22 rfl Tryd.underlying22 Tryd.info5 wtwo.heap.size _ (x ++ x) rfl hown2 _ Ax 8 cx x rfl (HA.out.later (show Ext wtwo u2 from HB2.out)) (by rw [List.length_append, hxl.out]; omega) hzb2 ?_; intro v3 u3 hown3 hb3; have HB3 := hid (HB2.out.trans hb3); clear hb3; have hzb3 := Below.size HB3.out))
  obtain ⟨Ak, ck, rfl, hck, hrk, _⟩ := hown3.rdc (n := 24) (by simp only [List.length_append]; have := hxl.out; have := hyl.out; have := hzl.out; omega)
  have HK := hid hrk
  have hxe := (show Ext wtwo u3 from HB3.out)
  have HA := hid (HA.out.later hxe)
  have HB := hid (HB.out.later hxe)
  have HC := hid (HC.out.later hxe)
  have HP := hid (HP.out.later hxe)
  have HBX := hid (HBX.out.later hxe)
  have HU := hid (HU.out.later hxe)
  have HV := hid (HV.out.later hxe)
  have HW := hid (HW.out.later hxe)
  have HDall := hid (HDall.out.later hxe)
  have HDtwo := hid (HDtwo.out.later hxe)
  have HX := hid (Ext.trans HX.out hxe)
  clear hown hown1 hown2 hown3 hrk hxa hza hxe HB1 hzb1 HB2 hzb2 HB3 hzb3
  refine (new_rd Ak 24 ck _ _ (.inr (.inr rfl)) HK.out hck).mono ?_
  rintro e wone ⟨pone, rfl, hd, hx⟩
  have HA := hid (HA.out.later hx)
  have HB := hid (HB.out.later hx)
  have HC := hid (HC.out.later hx)
  have HP := hid (HP.out.later hx)
  have HBX := hid (HBX.out.later hx)
  have HU := hid (HU.out.later hx)
  have HV := hid (HV.out.later hx)
  have HW := hid (HW.out.later hx)
  have HDall := hid (HDall.out.later hx)
  have HDtwo := hid (HDtwo.out.later hx)
  have HX := hid (Ext.trans HX.out hx)
  have HDone := hid hd
  clear hd hx HK
  go_wp2_with fail
  refine (block_any Ap pu _ cp _ _ false _ HU.out (manyOf_le _) HP.out HBX.out).mono ?_
  rintro e wa ⟨Aa, ca, rfl, hca, hra, hx⟩
  have HA := hid (HA.out.later hx)
  have HB := hid (HB.out.later hx)
  have HC := hid (HC.out.later hx)
  have HP := hid (HP.out.later hx)
  have HBX := hid (HBX.out.later hx)
  have HU := hid (HU.out.later hx)
  have HV := hid (HV.out.later hx)
  have HW := hid (HW.out.later hx)
  have HDall := hid (HDall.out.later hx)
  have HDtwo := hid (HDtwo.out.later hx)
  have HDone := hid (HDone.out.later hx)
  have HX := hid (Ext.trans HX.out hx)
  have HBa := hid hra
  clear hra hx
  go_wp2_with fail
  refine (block_any Aa pv _ ca _ _ true _ HV.out (manyOf_le _) HBa.out HBX.out).mono ?_
  rintro e wc ⟨Ac, cc, rfl, hcc, hrc, hx⟩
  have HA := hid (HA.out.later hx)
  have HB := hid (HB.out.later hx)
  have HC := hid (HC.out.later hx)
  have HP := hid (HP.out.later hx)
  have HBX := hid (HBX.out.later hx)
  have HU := hid (HU.out.later hx)
  have HV := hid (HV.out.later hx)
  have HW := hid (HW.out.later hx)
  have HDall := hid (HDall.out.later hx)
  have HDtwo := hid (HDtwo.out.later hx)
  have HDone := hid (HDone.out.later hx)
  have HBa := hid (HBa.out.later hx)
  have HX := hid (Ext.trans HX.out hx)
  have HBc := hid hrc
  clear hrc hx
  go_wp2_with fail
  refine (block_any Ac pw _ cc _ _ false _ HW.out (manyOf_le _) HBc.out HBX.out).mono ?_
  rintro e wd ⟨Ad, cd, rfl, hcd, hrd, hx⟩
  have HA := hid (HA.out.later hx)
  have HB := hid (HB.out.later hx)
  have HC := hid (HC.out.later hx)
  have HP := hid (HP.out.later hx)
  have HBX := hid (HBX.out.later hx)
  have HU := hid (HU.out.later hx)
  have HV := hid (HV.out.later hx)
  have HW := hid (HW.out.later hx)
  have HDall := hid (HDall.out.later hx)
  have HDtwo := hid (HDtwo.out.later hx)
  have HDone := hid (HDone.out.later hx)
  have HBa := hid (HBa.out.later hx)
  have HBc := hid (HBc.out.later hx)
  have HX := hid (Ext.trans HX.out hx)
  have HBd := hid hrd
  clear hrd hx
  go_wp2_with fail
  refine (block_any Ac pu _ cc _ _ false _ HU.out (manyOf_le _) HBc.out HBX.out).mono ?_
  rintro e we ⟨Ae, ce, rfl, hce, hre, hx⟩
  have HA := hid (HA.out.later hx)
  have HB := hid (HB.out.later hx)
  have HC := hid (HC.out.later hx)
  have HP := hid (HP.out.later hx)
  have HBX := hid (HBX.out.later hx)
  have HU := hid (HU.out.later hx)
  have HV := hid (HV.out.later hx)
  have HW := hid (HW.out.later hx)
  have HDall := hid (HDall.out.later hx)
  have HDtwo := hid (HDtwo.out.later hx)
  have HDone := hid (HDone.out.later hx)
  have HBa := hid (HBa.out.later hx)
  have HBc := hid (HBc.out.later hx)
  have HBd := hid (HBd.out.later hx)
  have HX := hid (Ext.trans HX.out hx)
  have HBe := hid hre
  clear hre hx
  go_wp2_with fail
  refine (block_any Ap pall _ cp _ _ false _ HDall.out (manyOf_le _) HP.out HBX.out).mono ?_
  rintro e wf ⟨Af, cf, rfl, hcf, hrf, hx⟩
  have HA := hid (HA.out.later hx)
  have HB := hid (HB.out.later hx)
  have HC := hid (HC.out.later hx)
  have HP := hid (HP.out.later hx)
  have HBX := hid (HBX.out.later hx)
  have HU := hid (HU.out.later hx)
  have HV := hid (HV.out.later hx)
  have HW := hid (HW.out.later hx)
  have HDall := hid (HDall.out.later hx)
  have HDtwo := hid (HDtwo.out.later hx)
  have HDone := hid (HDone.out.later hx)
  have HBa := hid (HBa.out.later hx)
  have HBc := hid (HBc.out.later hx)
  have HBd := hid (HBd.out.later hx)
  have HBe := hid (HBe.out.later hx)
  have HX := hid (Ext.trans HX.out hx)
  have HBf := hid hrf
  clear hrf hx
  go_wp2_with fail
  refine (block_any Ap ptwo _ cp _ _ false _ HDtwo.out (manyOf_le _) HP.out HBX.out).mono ?_
  rintro e wg ⟨Ag, cg, rfl, hcg, hrg, hx⟩
  have HA := hid (HA.out.later hx)
  have HB := hid (HB.out.later hx)
  have HC := hid (HC.out.later hx)
  have HP := hid (HP.out.later hx)
  have HBX := hid (HBX.out.later hx)
  have HU := hid (HU.out.later hx)
  have HV := hid (HV.out.later hx)
  have HW := hid (HW.out.later hx)
  have HDall := hid (HDall.out.later hx)
  have HDtwo := hid (HDtwo.out.later hx)
  have HDone := hid (HDone.out.later hx)
  have HBa := hid (HBa.out.later hx)
  have HBc := hid (HBc.out.later hx)
  have HBd := hid (HBd.out.later hx)
  have HBe := hid (HBe.out.later hx)
  have HBf := hid (HBf.out.later hx)
  have HX := hid (Ext.trans HX.out hx)
  have HBg := hid hrg
  clear hrg hx
  go_wp2_with fail
  refine (block_any Ap pone _ cp _ _ false _ HDone.out (manyOf_le _) HP.out HBX.out).mono ?_
  rintro e wh ⟨Ah, ch, rfl, hch, hrh, hx⟩
  have HA := hid (HA.out.later hx)
  have HB := hid (HB.out.later hx)
  have HC := hid (HC.out.later hx)
  have HP := hid (HP.out.later hx)
  have HBX := hid (HBX.out.later hx)
  have HU := hid (HU.out.later hx)
  have HV := hid (HV.out.later hx)
  have HW := hid (HW.out.later hx)
  have HDall := hid (HDall.out.later hx)
  have HDtwo := hid (HDtwo.out.later hx)
  have HDone := hid (HDone.out.later hx)
  have HBa := hid (HBa.out.later hx)
  have HBc := hid (HBc.out.later hx)
  have HBd := hid (HBd.out.later hx)
  have HBe := hid (HBe.out.later hx)
  have HBf := hid (HBf.out.later hx)
  have HBg := hid (HBg.out.later hx)
  have HX := hid (Ext.trans HX.out hx)
  have HBh := hid hrh
  clear hrh hx
  have ef : blockL (manyOf (x ++ y ++ z).length) (kfOf (x ++ y ++ z)) false b = blockL (manyOf z.length) (kfOf z) false (blockL (manyOf y.length) (kfOf y) true (blockL (manyOf x.length) (kfOf x) false b)) := by
    rw [all_three hxl.out hyl.out hzl.out, block_one x _ _ hxl.out, block_one y _ _ hyl.out, block_one z _ _ hzl.out]
  have eg : blockL (manyOf (x ++ y).length) (kfOf (x ++ y)) false b = blockL (manyOf x.length) (kfOf x) false (blockL (manyOf y.length) (kfOf y) true (blockL (manyOf x.length) (kfOf x) false b)) := by
    rw [all_two hxl.out hyl.out, block_one x b _ hxl.out, block_one y _ _ hyl.out, block_one x _ _ hxl.out]
  have eh : blockL (manyOf (x ++ x ++ x).length) (kfOf (x ++ x ++ x)) false b = blockL (manyOf x.length) (kfOf x) false b := by
    rw [all_one hxl.out b hbl.out, block_one x _ _ hxl.out]
  have hf := HBf.out
  have hg := HBg.out
  have hh := HBh.out
  rw [ef] at hf
  rw [eg] at hg
  rw [eh] at hh
  have hs1 := strq (c := cf) hf
  have hs2 := strq (c := cd) HBd.out
  have hs3 := strq (c := cg) hg
  have hs4 := strq (c := ce) HBe.out
  have hs5 := strq (c := ch) hh
  have hs6 := strq (c := ca) HBa.out
  clear ef eg eh hf hg hh HBf HBg HBh HBd HBe HBa HBc HA HB HC HP HBX HU HV HW HDall HDtwo HDone
  go_wp2_with fail
  go_ret
  exact ⟨rfl, HX.out⟩
end Go.Proofs.YthfcndaccfpnmaaDoor
