/- The law on the sixteen rounds, walked; own text of the verifier. -/
import Derived.Test.YthfcndaccfpnmaaDoorX17
import Derived.Test.YthfcndaccfpnmaaDoorX11
namespace Go.Proofs.YthfcndaccfpnmaaDoor
open Go.RowKit
theorem heads_cell (w : World) (k : Nat) (hk : k < 8) : (w.alloc (.cells #[.int .i64 58, .int .i64 60, .int .i64 62, .int .i64 64, .int .i64 57, .int .i64 59, .int .i64 61, .int .i64 63] 3)).cell? ⟨w.heap.size, k, none⟩ = some (.int .i64 (ipH.getD k 0)) := by
  rw [cell_of_heap (heap_alloc_new w _)]
  match k, hk with
  | 0, _ => rfl
  | 1, _ => rfl
  | 2, _ => rfl
  | 3, _ => rfl
  | 4, _ => rfl
  | 5, _ => rfl
  | 6, _ => rfl
  | 7, _ => rfl
theorem many8 (key : List UInt8) : manyOf key.length ≤ 1000 := by unfold manyOf; split <;> omega
set_option maxRecDepth 100000 in
set_option maxHeartbeats 4000000 in
theorem rounds_walk (a0 : Option Addr) (len0 cap0 : Nat) (z0 : List Int) (a1 : Option Addr) (len1 cap1 : Nat) (z1 : List Int) (a2 : Bool) (w : World) (w0 : IsRow .u8 w a0 len0 cap0 z0) (w1 : IsRow .u8 w a1 len1 cap1 z1) (ho : Boxes w) :
    Calls Tryd.prog 8 #[.slice a0 len0 cap0, .slice a1 len1 cap1, .bool a2] w fun e w' => e = .returned (.bool true) ∧ Below w.heap.size w w' := by
  obtain ⟨l0, hr0, hmax0, _⟩ := w0.rdc
  obtain ⟨l1, hr1, hmax1, _⟩ := w1.rdc
  unfold maxLen at hmax0 hmax1
  clear w0 w1
  have HO := hid ho
  have H0 := hid hr0
  have H1 := hid hr1
  clear ho hr0 hr1
  go_enter Tryd.func8, Tryd.ntmps8
  go_wp2_with fail
  refine (known_any _ HO.out).mono ?_
  rintro e wk ⟨rfl, hxk⟩
  have HXK := hid hxk
  clear hxk
  go_wp2_with fail
  refine (bytes_rd _ 8 _ _ _ _ (H0.out.later HXK.out) (by omega) (by omega)).mono ?_
  rintro e w1 ⟨Ax, cx, rfl, hcx, hx, hx1⟩
  have HX1 := hid (Ext.trans HXK.out hx1)
  have HA1 := hid hx
  clear hx hx1 HXK
  obtain ⟨x, hxe⟩ : ∃ x, byL 8 l0 = x := ⟨_, rfl⟩
  rw [hxe] at HA1
  have hxl := hid HA1.out.len
  clear hxe H0
  go_wp2_with fail
  refine (new_any _ 8 cx x _ (.inl rfl) HA1.out hcx).mono ?_
  rintro e w2 ⟨p, rfl, hd2, hx2⟩
  have HX2 := hid (Ext.trans HX1.out hx2)
  have HA2 := hid (HA1.out.later hx2)
  have HD2 := hid hd2
  clear hd2 hx2 HX1 HA1
  go_wp2_with fail
  refine (keys_any _ _ _ _ HA2.out).mono ?_
  rintro e w3 ⟨bk, ck, rfl, hck, hko, hx3⟩
  have HX3 := hid (Ext.trans HX2.out hx3)
  have HD3 := hid (HD2.out.later hx3)
  have HK3 := hid hko.kr
  clear hko hx3 HX2 HA2 HD2
  go_wp2_with fail
  go_loopw [12, 13] (fun v i wr => ∃ k : Nat, k ≤ 8 ∧ i = .int .i64 k ∧ OwnN .i64 3 wr w3.heap.size v (ipN (8 * k)) ∧ Below w3.heap.size w3 wr) (fun _ i _ => 8 - (intOf i).toNat)
  case atStart => exact ⟨0, Nat.zero_le _, rfl, World.ownsRow_nil _ _ _ _, Below.refl _ _⟩
  case round =>
    obtain ⟨k, hk, rfl, hown, hb⟩ := hrel
    by_cases hlt : k < 8
    · have hh := ipH_in k hlt
      obtain ⟨H, hH⟩ : ∃ H, ipH.getD k 0 = H := ⟨_, rfl⟩
      have hat := fun j hj => ipF_at k j hj
      rw [hH] at hh hat
      have hcellH : ∀ w : World, (w.alloc (.cells #[.int .i64 58, .int .i64 60, .int .i64 62, .int .i64 64, .int .i64 57, .int .i64 59, .int .i64 61, .int .i64 63] 3)).cell? ⟨w.heap.size, k, none⟩ = some (.int .i64 H) := fun w => by rw [heads_cell w k hlt, hH]
      have HO1 := hid hown
      have HB := hid hb
      have HAT := hid hat
      clear hown hb hat hH
      go_wp2_with fail
      try rw [show decide ((k : Int) < 8) = true by simp; omega]
      go_loopw [12, 14] (fun v i wr => ∃ j : Nat, j ≤ 8 ∧ i = .int .i64 j ∧ OwnN .i64 3 wr w3.heap.size v (ipN (8 * k + j)) ∧ Below w3.heap.size w3 wr) (fun _ i _ => 8 - (intOf i).toNat)
      case atStart => exact ⟨0, Nat.zero_le _, rfl, HO1.out, HB.out⟩
      case round =>
        clear HO1 HB
        obtain ⟨j, hj, rfl, hown, hb⟩ := hrel
        by_cases hjt : j < 8
        · have hxa : Ext wr (wr.alloc (.cells #[.int .i64 58, .int .i64 60, .int .i64 62, .int .i64 64, .int .i64 57, .int .i64 59, .int .i64 61, .int .i64 63] 3)) := Ext.alloc _ _
          have hcH := hcellH wr
          have hz := hb.size
          have hza : (wr.alloc (.cells #[.int .i64 58, .int .i64 60, .int .i64 62, .int .i64 64, .int .i64 57, .int .i64 59, .int .i64 61, .int .i64 63] 3)).heap.size = wr.heap.size + 1 := by simp
          have hown2 := OwnN.kept (OwnN.kept hown hxa) (Ext.alloc1 (wr.alloc (.cells #[.int .i64 58, .int .i64 60, .int .i64 62, .int .i64 64, .int .i64 57, .int .i64 59, .int .i64 61, .int .i64 63] 3)) (H - 8 * (j : Int)))
          have hone := one_rd (wr.alloc (.cells #[.int .i64 58, .int .i64 60, .int .i64 62, .int .i64 64, .int .i64 57, .int .i64 59, .int .i64 61, .int .i64 63] 3)) (H - 8 * (j : Int))
          rw [hza] at hone
          have HB := hid (hb.trans (Below.mono (Ext.trans hxa (Ext.alloc1 (wr.alloc (.cells #[.int .i64 58, .int .i64 60, .int .i64 62, .int .i64 64, .int .i64 57, .int .i64 59, .int .i64 61, .int .i64 63] 3)) (H - 8 * (j : Int)))) hz))
          have HS := hid (show ipN (8 * k + (j + 1)) = ipN (8 * k + j) ++ [H - 8 * (j : Int)] by rw [← HAT.out j hjt]; exact ipN_succ _)
          have hl := ipN_len (8 * k + j)
          clear hb hown HAT hxa hcellH hza
          go_wp2_with (at_builtin; refine wpL_appendN _ rfl (.tmp 64) (.tmp 72) 46 rfl Tryd.underlying46 8 Tryd.info3 w3.heap.size _ (ipN (8 * k + j)) rfl hown2 _ _ 1 1 [H - 8 * (j : Int)] rfl hone (by omega) (by unfold maxLen; omega) (by simp; omega) ?_; intro v2 w2 hown3 hb2)
          rw [← HS.out] at hown3
          have HB2 := hid (HB.out.trans hb2)
          clear hb2
          go_roundw
          case rel => exact ⟨j + 1, by omega, by go_num, hown3, HB2.out⟩
          case measure => simp [intOf]; omega
        · obtain rfl : j = 8 := by omega
          have HO1 := hid hown
          have HB := hid hb
          clear hown hb
          go_wp2_with fail
          go_roundw
          case rel => exact ⟨k + 1, by omega, by go_num, HO1.out, HB.out⟩
          case measure => simp [intOf]; omega
    · obtain rfl : k = 8 := by omega
      obtain ⟨At, ct, rfl, ht⟩ := tab_of hown (ipN_len 64) (by omega) (fun t ht => by have := ip_in t ht; omega)
      have HT := hid (show Tab wr At 64 ct ipL from ht)
      have HX4 := hid (Ext.trans HX3.out (show Ext w3 wr from hb))
      have HD4 := hid (HD3.out.later (show Ext w3 wr from hb))
      have HK4 := hid (HK3.out.later (show Ext w3 wr from hb))
      clear hown hb ht HX3 HD3 HK3
      go_wp2_with fail
      refine (bytes_rd _ 8 _ _ _ _ (H1.out.later HX4.out) (by omega) (by omega)).mono ?_
      rintro e w5 ⟨A5, c5, rfl, hc5, hr5, hx5⟩
      have HX5 := hid (Ext.trans HX4.out hx5)
      have HD5 := hid (HD4.out.later hx5)
      have HK5 := hid (HK4.out.later hx5)
      have HT5 := hid (HT.out.later hx5)
      have HR5 := hid hr5
      clear hr5 hx5 HX4 HD4 HK4 HT
      obtain ⟨b, hbe⟩ : ∃ b, byL 8 l1 = b := ⟨_, rfl⟩
      have hble := hid hbe
      rw [hbe] at HR5
      clear hbe
      go_wp2_with fail
      refine (by_rd _ _ 8 64 _ _ _ _ 8 _ HR5.out (by omega) HT5.out ip_ok (by omega)).mono ?_
      rintro e w6 ⟨A6, c6, rfl, hc6, hr6, hx6⟩
      obtain ⟨b6, o6, rfl, hb6, _⟩ := hr6.at_ (by omega)
      obtain ⟨y, hye⟩ : ∃ y, permL b ipL = y := ⟨_, rfl⟩
      rw [hye] at hr6
      have hyl := hid hr6.len
      have HYE := hid hye
      have HX6 := hid (Ext.trans HX5.out hx6)
      have HD6 := hid (HD5.out.later hx6)
      have HK6 := hid (HK5.out.later hx6)
      have HT6 := hid (HT5.out.later hx6)
      have HL6 := hid (hr6.part 0 4 (by omega))
      have HR6 := hid (hr6.part 4 4 (by omega))
      clear hr6 hx6 HX5 HD5 HK5 HT5 HR5 hye hb6
      go_wp2_with fail
      go_quiet (fail)
      go_wp2_with fail
      have hq : Ext w6 (w6.drewN nq) := below_drewN' (Ext.refl _) nq
      have HL7 := hid (show Rd (w6.drewN nq) (w6.drewN nq).heap.size (some ⟨b6, o6, none⟩) 4 (feL (dirF (keyF x) a2) (y.take 4) (y.drop 4) 0).1 by
        have h1 := HL6.out.later hq
        simp only [feL]
        simpa using h1)
      have HR7 := hid (show Rd (w6.drewN nq) (w6.drewN nq).heap.size (some ⟨b6, o6 + 4, none⟩) 4 (feL (dirF (keyF x) a2) (y.take 4) (y.drop 4) 0).2 by
        have h1 := HR6.out.later hq
        simp only [feL]
        rw [List.take_of_length_le (by have := hyl.out; simp; omega)] at h1
        exact h1)
      have HX7 := hid (Ext.trans HX6.out hq)
      have HD7 := hid (HD6.out.later hq)
      have HK7 := hid (HK6.out.later hq)
      have HT7 := hid (HT6.out.later hq)
      clear hq HL6 HR6 HX6 HD6 HK6 HT6
      go_loopw [16, 17, 18] (fun l r i wr => ∃ (n : Nat) (Al Ar : Option Addr) (cl cr : Nat), n ≤ 16 ∧ i = .int .i64 n ∧ l = .slice Al 4 cl ∧ r = .slice Ar 4 cr ∧ Ext (w6.drewN nq) wr ∧
          Rd wr wr.heap.size Al 4 (feL (dirF (keyF x) a2) (y.take 4) (y.drop 4) n).1 ∧ Rd wr wr.heap.size Ar 4 (feL (dirF (keyF x) a2) (y.take 4) (y.drop 4) n).2) (fun _ _ i _ => 16 - (intOf i).toNat)
      case atStart => exact ⟨0, _, _, _, _, by omega, rfl, rfl, rfl, Ext.refl _, HL7.out, HR7.out⟩
      case round =>
        clear HL7 HR7
        obtain ⟨n, Al, Ar, cl, cr, hn, rfl, rfl, rfl, hx, hl, hr⟩ := hrel
        by_cases hlt : n < 16
        · obtain ⟨L, R, hfe⟩ : ∃ L R, feL (dirF (keyF x) a2) (y.take 4) (y.drop 4) n = (L, R) := ⟨_, _, rfl⟩
          obtain ⟨P, hP⟩ : ∃ P, (if a2 then 15 - n else n) = P := ⟨_, rfl⟩
          have hPl : place n 16 a2 = P := by rw [← hP]; cases a2 <;> rfl
          have hnext : feL (dirF (keyF x) a2) (y.take 4) (y.drop 4) (n + 1) = (R, xorL L (fL R (keyF x P)) 4) := by
            rw [feL, hfe]
            unfold dirF
            rw [hPl]
          rw [hfe] at hl hr
          have hP16 : P < 16 := by rw [← hP]; split <;> omega
          obtain ⟨Ak, dk, hcell, hrk⟩ := (HK7.out.later hx).2 P hP16
          rw [Nat.zero_add] at hcell
          have HN := hid hnext
          have HX8 := hid (Ext.trans HX7.out hx)
          have HXI := hid hx
          have HL8 := hid hl
          have HR8 := hid hr
          have HRK := hid hrk
          clear hnext hfe hx hl hr hrk hPl
          cases a2 with
          | true =>
            have hP : 15 - n = P := hP
            have hPi : 15 - (n : Int) = P := by omega
            go_wp2_with fail
            refine (f_any _ _ _ _ _ _ _ HR8.out HRK.out (HO.out.later HX8.out)).mono ?_
            rintro e w9 ⟨A9, c9, rfl, hc9, hr9, hx9⟩
            have HX9 := hid (Ext.trans HXI.out hx9)
            have HL9 := hid (HL8.out.later hx9)
            have HR9 := hid (HR8.out.later hx9)
            have HF9 := hid hr9
            clear hr9 hx9 HX8 HXI HL8 HR8 HRK
            go_wp2_with fail
            refine (both_rd _ _ 4 _ _ _ _ _ HL9.out HF9.out (by omega)).mono ?_
            rintro e w10 ⟨A10, c10, rfl, hc10, hr10, hx10⟩
            have HX10 := hid (Ext.trans HX9.out hx10)
            have HR10 := hid (HR9.out.later hx10)
            have HM10 := hid hr10
            clear hr10 hx10 HX9 HL9 HR9 HF9
            go_wp2_with fail
            go_roundw
            case rel => exact ⟨n + 1, Ar, A10, cr, c10, by omega, by go_num, rfl, rfl, HX10.out, by rw [HN.out]; exact HR10.out, by rw [HN.out]; exact HM10.out⟩
            case measure => simp [intOf]; omega
          | false =>
            have hP : n = P := hP
            subst hP
            go_wp2_with fail
            refine (f_any _ _ _ _ _ _ _ HR8.out HRK.out (HO.out.later HX8.out)).mono ?_
            rintro e w9 ⟨A9, c9, rfl, hc9, hr9, hx9⟩
            have HX9 := hid (Ext.trans HXI.out hx9)
            have HL9 := hid (HL8.out.later hx9)
            have HR9 := hid (HR8.out.later hx9)
            have HF9 := hid hr9
            clear hr9 hx9 HX8 HXI HL8 HR8 HRK
            go_wp2_with fail
            refine (both_rd _ _ 4 _ _ _ _ _ HL9.out HF9.out (by omega)).mono ?_
            rintro e w10 ⟨A10, c10, rfl, hc10, hr10, hx10⟩
            have HX10 := hid (Ext.trans HX9.out hx10)
            have HR10 := hid (HR9.out.later hx10)
            have HM10 := hid hr10
            clear hr10 hx10 HX9 HL9 HR9 HF9
            go_wp2_with fail
            go_roundw
            case rel => exact ⟨n + 1, Ar, A10, cr, c10, by omega, by go_num, rfl, rfl, HX10.out, by rw [HN.out]; exact HR10.out, by rw [HN.out]; exact HM10.out⟩
            case measure => simp [intOf]; omega
        · obtain rfl : n = 16 := by omega
          have HX8 := hid (Ext.trans HX7.out hx)
          have HD8 := hid (HD7.out.later hx)
          have HT8 := hid (HT7.out.later hx)
          have HL8 := hid hl
          have HR8 := hid hr
          clear hx hl hr HX7 HD7 HT7 HK7
          go_wp2_with fail
          refine (rinv_ip _ _ _ HT8.out).mono ?_
          rintro e w9 ⟨A9, c9, rfl, ht9, hx9⟩
          have HX9 := hid (Ext.trans HX8.out hx9)
          have HD9 := hid (HD8.out.later hx9)
          have HL9 := hid (HL8.out.later hx9)
          have HR9 := hid (HR8.out.later hx9)
          have HT9 := hid ht9
          clear ht9 hx9 HX8 HD8 HT8 HL8 HR8
          have hlen := feL_len (dirF (keyF x) a2) (l := y.take 4) (r := y.drop 4) (by have := hyl.out; simp; omega) (by have := hyl.out; simp; omega) 16
          obtain ⟨L, hLe⟩ : ∃ L, (feL (dirF (keyF x) a2) (y.take 4) (y.drop 4) 16).1 = L := ⟨_, rfl⟩
          obtain ⟨R, hRe⟩ : ∃ R, (feL (dirF (keyF x) a2) (y.take 4) (y.drop 4) 16).2 = R := ⟨_, rfl⟩
          have hfin : turnL (dirF (keyF x) a2) b = permL (R ++ L) ipU := by
            rw [turnL_def, HYE.out, hLe, hRe]
          rw [hLe] at HL9 hlen
          rw [hRe] at HR9 hlen
          have HF := hid hfin
          have hown := Own.lit w9 [] #[] 0 w9.heap.size rfl rfl (by unfold maxLen; omega) (Nat.le_refl _)
          have hxa : Ext w9 (w9.alloc (.cells #[] 5)) := Ext.alloc _ _
          have hza : (w9.alloc (.cells #[] 5)).heap.size = w9.heap.size + 1 := by simp
          obtain ⟨hL4, hR4⟩ := hlen
          clear hLe hRe hfin
          go_wp2_with (first
            | (at_builtin; refine wpL_append _ rfl (.tmp 115) (.tmp 116) 22 rfl Tryd.underlying22 Tryd.info5 w9.heap.size _ [] rfl hown _ Ar 4 cr R rfl (HR9.out.later hxa) (by simp) (by omega) ?_; intro v1 u1 hown1 hb1; have HB1 := hid ((show Below w9.heap.size w9 _ from hxa).trans hb1); clear hb1; have hzb1 := Below.size HB1.out; have hown1 : Own u1 w9.heap.size v1 R := hown1)
            | (at_builtin; refine wpL_append _ rfl (.tmp 117) (.tmp 118) 22 rfl Tryd.underlying22 Tryd.info5 w9.heap.size _ R rfl hown1 _ Al 4 cl L rfl (HL9.out.later (show Ext w9 u1 from HB1.out)) (by rw [hR4]; omega) hzb1 ?_; intro v2 u2 hown2 hb2; have HB2 := hid (HB1.out.trans hb2); clear hb2))
          obtain ⟨A10, c10, rfl, _, hr10, _⟩ := hown2.rdc (n := 8) (by rw [List.length_append, hL4, hR4])
          have HX10 := hid (Ext.trans HX9.out (show Ext w9 u2 from HB2.out))
          have HD10 := hid (HD9.out.later (show Ext w9 u2 from HB2.out))
          have HT10 := hid (HT9.out.later (show Ext w9 u2 from HB2.out))
          have HR10 := hid hr10
          clear hown hown1 hown2 hr10 hxa hza HB1 HB2 hzb1 HX9 HD9 HT9 HL9 HR9
          refine (by_rd _ _ 8 64 _ _ _ _ 8 _ HR10.out (by omega) HT10.out ipU_ok (by omega)).mono ?_
          rintro e w11 ⟨A11, c11, rfl, hc11, hr11, hx11⟩
          have HX11 := hid (Ext.trans HX10.out hx11)
          have HD11 := hid (HD10.out.later hx11)
          have HR11 := hid hr11
          clear hr11 hx11 HX10 HD10 HT10 HR10
          go_wp2_with fail
          refine (bytes_rd _ 8 _ _ _ _ (H1.out.later HX11.out) (by omega) (by omega)).mono ?_
          rintro e w12 ⟨A12, c12, rfl, hc12, hr12, hx12⟩
          rw [hble.out] at hr12
          have HX12 := hid (Ext.trans HX11.out hx12)
          have HD12 := hid (HD11.out.later hx12)
          have HW12 := hid (HR11.out.later hx12)
          have HR12 := hid hr12
          clear hr12 hx12 HX11 HD11 HR11
          go_wp2_with fail
          refine (block_any _ p _ _ _ _ a2 _ HD12.out (many8 x) HR12.out (HO.out.later HX12.out)).mono ?_
          rintro e w13 ⟨A13, c13, rfl, hc13, hr13, hx13⟩
          rw [block_one x b a2 hxl.out, HF.out] at hr13
          have HX13 := hid (Ext.trans HX12.out hx13)
          have hs1 := strq (c := c13) hr13
          have hs2 := strq (c := c11) (HW12.out.later hx13)
          clear hr13 hx13 HX12 HD12 HW12 HR12
          go_wp2_with fail
          go_ret
          exact ⟨rfl, HX13.out⟩
end Go.Proofs.YthfcndaccfpnmaaDoor
