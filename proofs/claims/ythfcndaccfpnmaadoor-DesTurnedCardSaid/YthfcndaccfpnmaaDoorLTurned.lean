/- The law on keys and blocks with all bits others, walked; own text of the verifier. -/
import Derived.Test.YthfcndaccfpnmaaDoorX17
import Derived.BigRegion
namespace Go.Proofs.YthfcndaccfpnmaaDoor
open Go.RowKit
theorem key3_not (key : List UInt8) : key3 (notL key) = notL (key3 key) := by
  unfold key3
  rw [notL_len]
  split
  · rw [notL_append, notL_take]
  · rfl
theorem key3_len {key : List UInt8} (h : key.length = 8 ∨ key.length = 16 ∨ key.length = 24) : (key3 key).length = 8 * manyOf key.length := by
  unfold key3 manyOf
  rcases h with h | h | h <;> simp [h]
theorem kfOf_not {key : List UInt8} (h : key.length = 8 ∨ key.length = 16 ∨ key.length = 24) (j : Nat) (hj : j < manyOf key.length) (i : Nat) : kfOf (notL key) j i = notL (kfOf key j i) := by
  unfold kfOf
  rw [key3_not, notL_drop, notL_take]
  have hl := key3_len h
  exact keyF_not _ i (by simp; omega)
theorem kfOf_len (key : List UInt8) (j i : Nat) : (kfOf key j i).length = 6 := keyF_len _ _
theorem place_in (i m : Nat) (back : Bool) (h : i < m) : place i m back < m := place_lt i m back h
theorem blkG_not {key : List UInt8} (h : key.length = 8 ∨ key.length = 16 ∨ key.length = 24) (back : Bool) (b : List UInt8) (hb : b.length = 8) :
    ∀ i, i ≤ manyOf key.length → blkG (manyOf key.length) (kfOf (notL key)) back (notL b) i = notL (blkG (manyOf key.length) (kfOf key) back b i)
  | 0, _ => rfl
  | i + 1, hi => by
    have hP := place_lt i (manyOf key.length) back (by omega)
    rw [blkG, blkG_not h back b hb i (by omega), blkG]
    obtain ⟨P, hPe⟩ : ∃ P, place i (manyOf key.length) back = P := ⟨_, rfl⟩
    rw [hPe] at hP ⊢
    have hc : turnL (dirF (kfOf (notL key) P) (back != decide (P = 1))) (notL (blkG (manyOf key.length) (kfOf key) back b i)) =
        turnL (fun t => notL (dirF (kfOf key P) (back != decide (P = 1)) t)) (notL (blkG (manyOf key.length) (kfOf key) back b i)) :=
      turnL_congr _ fun t _ => by unfold dirF; exact kfOf_not h P hP _
    rw [hc]
    exact turnL_not _ _ (blkG_len _ _ _ _ hb i) fun t _ => by unfold dirF; exact kfOf_len _ _ _
theorem block_not {key : List UInt8} (h : key.length = 8 ∨ key.length = 16 ∨ key.length = 24) (back : Bool) (b : List UInt8) (hb : b.length = 8) :
    blockL (manyOf (notL key).length) (kfOf (notL key)) back (notL b) = notL (blockL (manyOf key.length) (kfOf key) back b) := by
  rw [notL_len]
  exact blkG_not h back b hb _ (Nat.le_refl _)
def noF (xs : List UInt8) (i : Nat) : UInt8 := xs.getD i 0 ^^^ 255
theorem no_full (xs : List UInt8) (n : Nat) (h : xs.length = n) : fillTo (noF xs) n n = notL xs := by
  rw [fillTo_full]
  refine bytes_ext (n := n) (by simp) (by rw [notL_len]; exact h) fun i hi => ?_
  rw [notL_get _ _ (by omega)]
  simp [List.getD, hi, noF]
theorem no_val (xs : List UInt8) (i : Nat) : (((noF xs i).toNat : Nat) : Int) = bits .xor .u8 (((xs.getD i 0).toNat : Nat) : Int) 255 := by
  unfold noF
  rw [UInt8.toNat_xor, show (255 : Int) = ((255 : Nat) : Int) from rfl, u8_xor_nat _ _ (UInt8.toNat_lt _) (by omega)]
  rfl
theorem Own.ne {w w' : World} {base g G n c : Nat} {bs : List UInt8} (h : Own w base (.slice (some ⟨G, 0, none⟩) n c) bs) (hg : w.grownBy w' (some g)) (hne : G ≠ g) : Own w' base (.slice (some ⟨G, 0, none⟩) n c) bs :=
  h.at_block (hg.block G h.base_le.2 (fun e => by cases e; exact hne rfl))
/-- Two rows of noughts, made in either order. -/
def TwoMade (w : World) (n : Nat) (v q : Value) (wx : World) : Prop :=
  ∃ Gy Gq, v = .slice (some ⟨Gy, 0, none⟩) n n ∧ q = .slice (some ⟨Gq, 0, none⟩) 8 8 ∧ Gy ≠ Gq ∧ Own wx w.heap.size (.slice (some ⟨Gy, 0, none⟩) n n) (List.replicate n 0) ∧ Own wx w.heap.size (.slice (some ⟨Gq, 0, none⟩) 8 8) (List.replicate 8 0) ∧ Ext w wx
theorem made_run_n (n : Nat) (hn : n ≤ 1000) (w : World) : (Instr.makeSlice 22 (.int .i64 (n : Int)) (.int .i64 (n : Int))).run Tryd.prog w = .ok (.slice (some ⟨w.heap.size, 0, none⟩) n n) (w.alloc (.cells (madeCells #[Value.int .u8 0] n) 5)) := by
  obtain ⟨i0, hi0, hz0, hz1, hz2⟩ := info_parts Tryd.info5
  exact run_make_row 22 5 i0 (.int .u8 0) Tryd.underlying22 hi0 hz0 hz1 rfl .i64 .i64 n (by rw [hz2]; omega) (by omega) w
theorem made_own (w : World) (n base : Nat) (hb : base ≤ w.heap.size) (hn : n ≤ 1000) : Own (w.alloc (.cells (madeCells #[Value.int .u8 0] n) 5)) base (.slice (some ⟨w.heap.size, 0, none⟩) n n) (List.replicate n 0) :=
  Own.lit w (List.replicate n 0) _ n base (cells_zero n) (by simp) (by unfold maxLen; omega) hb
theorem two_a (w : World) (n : Nat) (hn : n ≤ 1000) : TwoMade w n (.slice (some ⟨w.heap.size, 0, none⟩) n n) (.slice (some ⟨w.heap.size + 1, 0, none⟩) 8 8) ((w.alloc (.cells (madeCells #[Value.int .u8 0] n) 5)).alloc (.cells (madeCells #[Value.int .u8 0] 8) 5)).drew := by
  have hz : (w.alloc (.cells (madeCells #[Value.int .u8 0] n) 5)).heap.size = w.heap.size + 1 := by simp
  have h1 := (made_own w n w.heap.size (Nat.le_refl _) hn).kept (Ext.alloc _ (.cells (madeCells #[Value.int .u8 0] 8) 5))
  have h2 := made_own (w.alloc (.cells (madeCells #[Value.int .u8 0] n) 5)) 8 w.heap.size (by omega) (by omega)
  rw [hz] at h2
  exact ⟨w.heap.size, w.heap.size + 1, rfl, rfl, by omega, h1.drew, h2.drew, Ext.trans (Ext.trans (Ext.alloc _ _) (Ext.alloc _ _)) (Ext.drew1 _)⟩
theorem two_b (w : World) (n : Nat) (hn : n ≤ 1000) : TwoMade w n (.slice (some ⟨w.heap.size + 1, 0, none⟩) n n) (.slice (some ⟨w.heap.size, 0, none⟩) 8 8) ((w.alloc (.cells (madeCells #[Value.int .u8 0] 8) 5)).alloc (.cells (madeCells #[Value.int .u8 0] n) 5)).drew := by
  have hz : (w.alloc (.cells (madeCells #[Value.int .u8 0] 8) 5)).heap.size = w.heap.size + 1 := by simp
  have h1 := (made_own w 8 w.heap.size (Nat.le_refl _) (by omega)).kept (Ext.alloc _ (.cells (madeCells #[Value.int .u8 0] n) 5))
  have h2 := made_own (w.alloc (.cells (madeCells #[Value.int .u8 0] 8) 5)) n w.heap.size (by omega) hn
  rw [hz] at h2
  exact ⟨w.heap.size + 1, w.heap.size, rfl, rfl, by omega, h2.drew, h1.drew, Ext.trans (Ext.trans (Ext.alloc _ _) (Ext.alloc _ _)) (Ext.drew1 _)⟩
theorem manyT (n : Nat) : manyOf n ≤ 1000 := by unfold manyOf; split <;> omega
set_option maxRecDepth 100000 in
set_option maxHeartbeats 4000000 in
theorem turned_walk (a0 : Option Addr) (len0 cap0 : Nat) (z0 : List Int) (a1 : Int) (a2 : Option Addr) (len2 cap2 : Nat) (z2 : List Int) (w : World) (w0 : IsRow .u8 w a0 len0 cap0 z0) (_w1 : (Lit.int .i64 a1).wf = true) (w2 : IsRow .u8 w a2 len2 cap2 z2) (ho : Boxes w) :
    Calls Tryd.prog 6 #[.slice a0 len0 cap0, .int .i64 a1, .slice a2 len2 cap2] w fun e w' => e = .returned (.bool true) ∧ Below w.heap.size w w' := by
  obtain ⟨l0, hr0, hmax0, _⟩ := w0.rdc
  obtain ⟨l2, hr2, hmax2, _⟩ := w2.rdc
  unfold maxLen at hmax0 hmax2
  clear w0 w2
  have HO := hid ho
  have H0 := hid hr0
  have H2 := hid hr2
  clear ho hr0 hr2
  go_enter Tryd.func6, Tryd.ntmps6
  go_wp2_with fail
  refine (known_any _ HO.out).mono ?_
  rintro e wk ⟨rfl, hxk⟩
  have HXK := hid hxk
  clear hxk
  go_wp2_with fail
  refine (key_any _ _ _ a1 _ _ (H0.out.later HXK.out) (by omega)).mono ?_
  rintro e w1 ⟨Ax, cx, rfl, hcx, hx, hx1⟩
  have HX1 := hid (Ext.trans HXK.out hx1)
  have HA1 := hid hx
  clear hx hx1 HXK
  have hkl := kLen_ok a1
  obtain ⟨n, hn⟩ : ∃ n, kLen a1 = n := ⟨_, rfl⟩
  rw [hn] at hkl hcx HA1 ⊢
  obtain ⟨x, hxe⟩ : ∃ x, byL n l0 = x := ⟨_, rfl⟩
  rw [hxe] at HA1
  have hxl := hid HA1.out.len
  clear hn hxe H0
  go_wp2_with fail
  refine (bytes_rd _ 8 _ _ _ _ (H2.out.later HX1.out) (by omega) (by omega)).mono ?_
  rintro e w2 ⟨Ap, cp, rfl, hcp, hp, hx2⟩
  have HX2 := hid (Ext.trans HX1.out hx2)
  have HA2 := hid (HA1.out.later hx2)
  have HP2 := hid hp
  clear hp hx2 HX1 HA1 H2
  obtain ⟨b, hbe⟩ : ∃ b, byL 8 l2 = b := ⟨_, rfl⟩
  rw [hbe] at HP2
  have hbl := hid HP2.out.len
  clear hbe
  have hn1000 : n ≤ 1000 := by omega
  have HN := hid hkl
  have hm1 := made_run_n n hn1000
  have hm2 := made_run
  have HTA := hid (two_a w2 n hn1000)
  have HTB := hid (two_b w2 n hn1000)
  go_upto_region 4 with fail
  go_cut [9, 10] (fun v q wx => TwoMade w2 n v q wx)
  case first =>
    go_region
    all_goals
      go_wp2_with fail
      go_meet
      first
        | exact HTA.out
        | exact HTB.out
  case rest =>
    obtain ⟨Gy, Gq, rfl, rfl, hne, hoy, hoq, hxm⟩ := hcut
    have HY := hid (show Own wc w2.heap.size (.slice (some ⟨Gy, 0, none⟩) n n) (fillTo (noF x) n 0) by rw [fillTo_zero]; exact hoy)
    have HQ := hid (show Own wc w2.heap.size (.slice (some ⟨Gq, 0, none⟩) 8 8) (fillTo (noF b) 8 0) by rw [fillTo_zero]; exact hoq)
    have HXM := hid (show Below w2.heap.size w2 wc from hxm)
    clear hoy hoq hxm HTA HTB hm1 hm2
    go_wp2_with fail
    go_loopw [11] (fun i wr => ∃ k : Nat, k ≤ n ∧ i = .int .i64 k ∧ Own wr w2.heap.size (.slice (some ⟨Gy, 0, none⟩) n n) (fillTo (noF x) n k) ∧ Own wr w2.heap.size (.slice (some ⟨Gq, 0, none⟩) 8 8) (fillTo (noF b) 8 0) ∧ Below w2.heap.size w2 wr) (fun i _ => n - (intOf i).toNat)
    case atStart => exact ⟨0, by omega, rfl, HY.out, HQ.out, HXM.out⟩
    case round =>
      clear HY HQ HXM
      obtain ⟨k, hk, rfl, hown, hq, hb⟩ := hrel
      by_cases hlt : k < n
      · obtain ⟨b1, o1, rfl, hb1', hc1⟩ := (HA2.out.below hb (Nat.le_refl _)).at_ (by omega)
        have hck := hc1 k hlt
        have hfl := fillTo_length (noF x) n k
        have hown0 : Own wr w2.heap.size (.slice (some ⟨Gy, 0, none⟩) (fillTo (noF x) n k).length n) (fillTo (noF x) n k) := by rw [hfl]; exact hown
        have hcell := hown0.cell k (by omega)
        have hfree := hown0.free k
        have hset := hown0.set_ k (noF x k)
        rw [fillTo_set _ _ _ _ rfl, hfl, no_val] at hset
        have hq2 := hq.ne (grown_set wr Gy k (.int .u8 (bits .xor .u8 (((x.getD k 0).toNat : Nat) : Int) 255))) (fun e => hne e.symm)
        have hby : byteAt x k = (((x.getD k 0).toNat : Nat) : Int) := rfl
        rw [hby] at hck
        have hX := (x.getD k 0).toNat_lt
        obtain ⟨X, hXe⟩ : ∃ X, (x.getD k 0).toNat = X := ⟨_, rfl⟩
        rw [hXe] at hck hset hX hq2
        have HH := hid (And.intro hset hq2)
        have HB := hid hb
        have hbz := hown.base_le.1
        clear hset hown0 hown hq hq2 hb hby hXe hc1 hfl
        go_wp2_with fail
        go_roundw
        case rel => exact ⟨k + 1, by omega, by go_num, HH.out.1, HH.out.2, HB.out.setCell (by simp; omega) _⟩
        case measure => simp [intOf]; omega
      · obtain rfl : k = n := by omega
        rw [no_full x k hxl.out] at hown
        have HY := hid hown
        have HQ := hid hq
        have HB := hid hb
        clear hown hq hb
        go_wp2_with fail
        go_loopw [12] (fun i wr => ∃ j : Nat, j ≤ 8 ∧ i = .int .i64 j ∧ Own wr w2.heap.size (.slice (some ⟨Gy, 0, none⟩) k k) (notL x) ∧ Own wr w2.heap.size (.slice (some ⟨Gq, 0, none⟩) 8 8) (fillTo (noF b) 8 j) ∧ Below w2.heap.size w2 wr) (fun i _ => 8 - (intOf i).toNat)
        case atStart => exact ⟨0, by omega, rfl, HY.out, HQ.out, HB.out⟩
        case round =>
          clear HY HQ HB
          obtain ⟨j, hj, rfl, hy, hown, hb⟩ := hrel
          by_cases hjt : j < 8
          · obtain ⟨b1, o1, rfl, hb1', hc1⟩ := (HP2.out.below hb (Nat.le_refl _)).at_ (by omega)
            have hck := hc1 j hjt
            have hfl := fillTo_length (noF b) 8 j
            have hown0 : Own wr w2.heap.size (.slice (some ⟨Gq, 0, none⟩) (fillTo (noF b) 8 j).length 8) (fillTo (noF b) 8 j) := by rw [hfl]; exact hown
            have hcell := hown0.cell j (by omega)
            have hfree := hown0.free j
            have hset := hown0.set_ j (noF b j)
            rw [fillTo_set _ _ _ _ rfl, hfl, no_val] at hset
            have hy2 := hy.ne (grown_set wr Gq j (.int .u8 (bits .xor .u8 (((b.getD j 0).toNat : Nat) : Int) 255))) hne
            have hby : byteAt b j = (((b.getD j 0).toNat : Nat) : Int) := rfl
            rw [hby] at hck
            have hX := (b.getD j 0).toNat_lt
            obtain ⟨X, hXe⟩ : ∃ X, (b.getD j 0).toNat = X := ⟨_, rfl⟩
            rw [hXe] at hck hset hX hy2
            have HH := hid (And.intro hy2 hset)
            have HB := hid hb
            have hbz := hown.base_le.1
            clear hset hown0 hown hy hy2 hb hby hXe hc1 hfl
            go_wp2_with fail
            go_roundw
            case rel => exact ⟨j + 1, by omega, by go_num, HH.out.1, HH.out.2, HB.out.setCell (by simp; omega) _⟩
            case measure => simp [intOf]; omega
          · obtain rfl : j = 8 := by omega
            rw [no_full b 8 hbl.out] at hown
            obtain ⟨Ay, cy, ey, hcy, hry, _⟩ := hy.rdc (n := k) (by rw [notL_len]; exact hxl.out)
            obtain ⟨Aq, cq, eq_, hcq, hrq, _⟩ := hown.rdc (n := 8) (by rw [notL_len]; exact hbl.out)
            cases ey
            cases eq_
            have HX3 := hid (Ext.trans HX2.out (show Ext w2 wr from hb))
            have HA3 := hid (HA2.out.later (show Ext w2 wr from hb))
            have HP3 := hid (HP2.out.later (show Ext w2 wr from hb))
            have HY3 := hid hry
            have HQ3 := hid hrq
            clear hy hown hry hrq hb HX2 HA2 HP2
            go_wp2_with fail
            refine (new_any _ k cx x _ HN.out HA3.out hcx).mono ?_
            rintro e w4 ⟨pu, rfl, hu, hx4⟩
            have HX4 := hid (Ext.trans HX3.out hx4)
            have HY4 := hid (HY3.out.later hx4)
            have HQ4 := hid (HQ3.out.later hx4)
            have HP4 := hid (HP3.out.later hx4)
            have HU4 := hid hu
            clear hu hx4 HX3 HA3 HY3 HQ3 HP3
            go_wp2_with fail
            refine (new_any _ k k (notL x) _ HN.out HY4.out (Nat.le_refl _)).mono ?_
            rintro e w5 ⟨pv, rfl, hv, hx5⟩
            have HX5 := hid (Ext.trans HX4.out hx5)
            have HQ5 := hid (HQ4.out.later hx5)
            have HP5 := hid (HP4.out.later hx5)
            have HU5 := hid (HU4.out.later hx5)
            have HV5 := hid hv
            clear hv hx5 HX4 HY4 HQ4 HP4 HU4
            go_wp2_with fail
            refine (block_any _ pu _ _ _ _ false _ HU5.out (manyT _) HP5.out (HO.out.later HX5.out)).mono ?_
            rintro e w6 ⟨A6, c6, rfl, hc6, hr6, hx6⟩
            have HX6 := hid (Ext.trans HX5.out hx6)
            have HQ6 := hid (HQ5.out.later hx6)
            have HV6 := hid (HV5.out.later hx6)
            have HR6 := hid hr6
            clear hr6 hx6 HX5 HQ5 HP5 HU5 HV5
            go_wp2_with fail
            refine (block_any _ pv _ _ _ _ false _ HV6.out (manyT _) HQ6.out (HO.out.later HX6.out)).mono ?_
            rintro e w7 ⟨A7, c7, rfl, hc7, hr7, hx7⟩
            rw [block_not (by rw [hxl.out]; exact HN.out) false b hbl.out] at hr7
            obtain ⟨z, hz⟩ : ∃ z, blockL (manyOf x.length) (kfOf x) false b = z := ⟨_, rfl⟩
            rw [hz] at hr7 HR6
            have HX7 := hid (Ext.trans HX6.out hx7)
            have HR7 := hid (HR6.out.later hx7)
            have HS7 := hid hr7
            have hzl := hid HR7.out.len
            clear hr7 hx7 HX6 HQ6 HV6 HR6 hz
            go_wp2_with fail
            go_loopw [21] (fun i wr => ∃ t : Nat, t ≤ 8 ∧ i = .int .i64 t ∧ Ext w7 wr) (fun i _ => 8 - (intOf i).toNat)
            case atStart => exact ⟨0, by omega, rfl, Ext.refl _⟩
            case round =>
              obtain ⟨t, ht, rfl, hx⟩ := hrel
              by_cases htt : t < 8
              · obtain ⟨b8, o8, rfl, _, hc8⟩ := (HR7.out.later hx).at_ (by omega)
                obtain ⟨b9, o9, rfl, _, hc9⟩ := (HS7.out.later hx).at_ (by omega)
                have hd8 := hc8 t htt
                have hd9 := hc9 t htt
                have hby : byteAt z t = (((z.getD t 0).toNat : Nat) : Int) := rfl
                have hbn : byteAt (notL z) t = (((z.getD t 0 ^^^ 255).toNat : Nat) : Int) := by
                  unfold byteAt
                  rw [notL_get _ _ (by have := hzl.out; omega)]
                have hxor : bits .xor .u8 (((z.getD t 0).toNat : Nat) : Int) (((z.getD t 0 ^^^ 255).toNat : Nat) : Int) = 255 := by
                  rw [u8_xor_nat _ _ (UInt8.toNat_lt _) (UInt8.toNat_lt _), ← UInt8.toNat_xor, ← UInt8.xor_assoc, UInt8.xor_self, UInt8.zero_xor]
                  rfl
                rw [hby] at hd8
                rw [hbn] at hd9
                obtain ⟨X, hX⟩ : ∃ X : Int, (((z.getD t 0).toNat : Nat) : Int) = X := ⟨_, rfl⟩
                obtain ⟨Y, hY⟩ : ∃ Y : Int, (((z.getD t 0 ^^^ 255).toNat : Nat) : Int) = Y := ⟨_, rfl⟩
                rw [hX] at hd8 hxor
                rw [hY] at hd9 hxor
                have HXX := hid hx
                clear hby hbn hX hY hc8 hc9 hx
                go_wp2_with fail
                go_quiet (fail)
                go_wp2_with fail
                go_roundw
                case rel => exact ⟨t + 1, by omega, by go_num, below_drewN' HXX.out nq⟩
                case measure => simp [intOf]; omega
              · obtain rfl : t = 8 := by omega
                have HXX := hid (Ext.trans HX7.out hx)
                clear hx
                go_wp2_with fail
                go_ret
                exact ⟨rfl, HXX.out⟩
end Go.Proofs.YthfcndaccfpnmaaDoor
