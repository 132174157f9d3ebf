/- The law on sums, walked; own text of the verifier. -/
import Derived.Test.YtpfkcplldhdipaaDoorZ1
namespace Go.Proofs.YtpfkcplldhdipaaDoor
open Go.RowKit
theorem xor4 (a b c d : UInt8) : (a ^^^ b) ^^^ (c ^^^ d) = (a ^^^ c) ^^^ (b ^^^ d) := by
  rw [UInt8.xor_assoc, UInt8.xor_assoc, ← UInt8.xor_assoc b c d, UInt8.xor_comm b c, UInt8.xor_assoc c b d]
theorem xorL_get (p q : List UInt8) (m : Nat) (hm : m < 16) : (xorL p q 16).getD m 0 = p.getD m 0 ^^^ q.getD m 0 := by
  simp [xorL, xorF, List.getD_eq_getElem?_getD, hm]
theorem sum_mixK (p q : List UInt8) (i : Nat) (hi : i < 16) : ∀ j, j ≤ 7 → mixK (xorL p q 16) i j = mixK p i j ^^^ mixK q i j
  | 0, _ => by simp [mixK]
  | j + 1, hj => by
    rw [mixK, mixK, mixK, sum_mixK p q i hi j (by omega), xorL_get p q _ (sevN_lt i hi j (by omega)), xor4]
theorem mix_get (p : List UInt8) (i : Nat) (hi : i < 16) : (mixL p).getD i 0 = mixK p i 7 := by simp [mixL, mixF, List.getD_eq_getElem?_getD, hi]
theorem sum_mix (p q : List UInt8) (i : Nat) (hi : i < 16) : (mixL (xorL p q 16)).getD i 0 = (mixL p).getD i 0 ^^^ (mixL q).getD i 0 := by
  rw [mix_get _ i hi, mix_get _ i hi, mix_get _ i hi, sum_mixK p q i hi 7 (by omega)]
theorem drewN_add (w : World) (m n : Nat) : (w.drewN m).drewN n = w.drewN (m + n) := by
  simp [World.drewN, Nat.add_assoc]
theorem u8_xor_val' (x y : UInt8) : bits .xor .u8 (x.toNat : Int) (y.toNat : Int) = ((x ^^^ y).toNat : Int) := by
  rw [UInt8.toNat_xor, u8_xor_nat _ _ (UInt8.toNat_lt _) (UInt8.toNat_lt _)]
set_option maxRecDepth 100000 in
set_option maxHeartbeats 4000000 in
theorem sum_walk (a0 : Option Addr) (len0 cap0 : Nat) (z0 : List Int) (a1 : Option Addr) (len1 cap1 : Nat) (z1 : List Int) (w : World) (w0 : IsRow .u8 w a0 len0 cap0 z0) (w1 : IsRow .u8 w a1 len1 cap1 z1) (hG : GK w) :
    Calls Tryd.prog 5 #[.slice a0 len0 cap0, .slice a1 len1 cap1] w fun e w' => e = .returned (.bool true) ∧ Below w.heap.size w w' := by
  obtain ⟨bs0, h0, hm0⟩ := w0.rd
  obtain ⟨bs1, h1, hm1⟩ := w1.rd
  unfold maxLen at hm0 hm1
  clear w0 w1
  have H0 := hid h0
  have H1 := hid h1
  have HL := hid (show len0 ≤ 9223372036854775807 ∧ len1 ≤ 9223372036854775807 by omega)
  have HG := hid hG
  clear h0 h1 hG hm0 hm1
  go_enter Tryd.func5, Tryd.ntmps5
  go_wp2_with fail
  refine (known_any _ HG.out).mono ?_
  rintro e w1 ⟨rfl, hx1⟩
  have HX1 := hid hx1
  clear hx1
  go_wp2_with fail
  refine (by_rd a0 16 len0 cap0 bs0 _ (H0.out.later HX1.out) (by omega) HL.out.1).mono ?_
  rintro e w2 ⟨A2, c2, rfl, hc2, hr2, hx2⟩
  have HX2 := hid (Ext.trans HX1.out hx2)
  have HP2 := hid hr2
  clear hx2 hr2 HX1
  go_wp2_with fail
  refine (by_rd a1 16 len1 cap1 bs1 _ (H1.out.later HX2.out) (by omega) HL.out.2).mono ?_
  rintro e w3 ⟨A3, c3, rfl, hc3, hr3, hx3⟩
  have HX3 := hid (Ext.trans HX2.out hx3)
  obtain ⟨p, hp⟩ : ∃ p, byL 16 bs0 = p := ⟨_, rfl⟩
  obtain ⟨q, hq⟩ : ∃ q, byL 16 bs1 = q := ⟨_, rfl⟩
  rw [hp] at HP2
  rw [hq] at hr3
  have HP3 := hid (HP2.out.later hx3)
  have HQ3 := hid hr3
  clear hx3 hr3 HX2 HP2 hc2 hc3 hp hq
  go_wp2_with (at_make; refine wpL_make rfl (.const (.int .i64 16)) (.const (.int .i64 16)) 22 rfl Tryd.underlying22 Tryd.info5 .i64 _ 16 rfl rfl rfl (by omega) w3.heap.size (Nat.le_refl _) ?_; intro w4 hown4 hb4 _)
  obtain ⟨G, hG⟩ : ∃ G, w3.heap.size = G := ⟨_, rfl⟩
  rw [hG] at hown4 ⊢
  have HO4 := hid hown4
  have HB4 := hid hb4
  have HG4 := hid hG
  clear hown4 hb4 hG
  go_loopw [8] (fun v wr => ∃ k : Nat, k ≤ 16 ∧ v = .int .i64 k ∧ Own wr G (.slice (some ⟨G, 0, none⟩) 16 16) (fillTo (xorF p q) 16 k) ∧ Ext w3 wr) (fun v _ => 16 - (intOf v).toNat)
  case atStart => exact ⟨0, by omega, rfl, by rw [fillTo_zero]; exact HO4.out, HB4.out⟩
  case round =>
    clear HO4 HB4
    obtain ⟨k, hk, rfl, hown, hb⟩ := hrel
    by_cases hlt : k < 16
    · obtain ⟨b1, o1, rfl, _, hc1⟩ := (HP3.out.later hb).at_ (by omega)
      obtain ⟨b2, o2, rfl, _, hc2⟩ := (HQ3.out.later hb).at_ (by omega)
      have hck1 := hc1 k hlt
      have hck2 := hc2 k hlt
      have r1 := byteAt_lo p k; have r2 := byteAt_hi p k; have r3 := byteAt_lo q k; have r4 := byteAt_hi q k
      have hcell := Own.celln hown (fillTo_length _ _ _) k hlt
      have hfree := Own.freen hown k
      have hset := Own.setn hown k (xorF p q k)
      rw [fillTo_set _ _ _ _ rfl, xorF_val] at hset
      have HH := hid hset
      have HB := hid hb
      have HGb := hid (show w3.heap.size ≤ G by have := HG4.out; omega)
      clear hset hown hb hc1 hc2
      go_wp2_with fail
      go_region
      go_wp2_with fail
      go_roundw
      case rel => exact ⟨k + 1, by omega, by go_num, HH.out, (HB.out.setCell (by simp; exact HGb.out) _).drew⟩
      case measure => simp [intOf]; omega
    · obtain rfl : k = 16 := by omega
      rw [fillTo_full] at hown
      obtain ⟨A5, c5, e5, hc5, hm5, hr5⟩ := hown.rdm (n := 16) (by simp)
      have HE5 := hid e5
      have HS := hid (show Rd wr wr.heap.size A5 16 (xorL p q 16) from hr5)
      have HX5 := hid (Ext.trans HX3.out hb)
      have HP5 := hid (HP3.out.later hb)
      have HQ5 := hid (HQ3.out.later hb)
      clear hown hb e5 hr5 HX3 HP3 HQ3
      go_wp2_with fail
      refine (pmix_any A2 c2 p _ HP5.out (HG.out.later HX5.out).sev).mono ?_
      rintro e w6 ⟨A6, c6, rfl, _, hr6, hx6⟩
      have HX6 := hid (Ext.trans HX5.out hx6)
      have HQ6 := hid (HQ5.out.later hx6)
      have HS6 := hid (HS.out.later hx6)
      have HM6 := hid hr6
      clear hx6 hr6 HX5 HQ5 HS HP5
      go_wp2_with fail
      refine (pmix_any A3 c3 q _ HQ6.out (HG.out.later HX6.out).sev).mono ?_
      rintro e w7 ⟨A7, c7, rfl, _, hr7, hx7⟩
      have HX7 := hid (Ext.trans HX6.out hx7)
      have HS7 := hid (HS6.out.later hx7)
      have HM7 := hid (HM6.out.later hx7)
      have HN7 := hid hr7
      clear hx7 hr7 HX6 HS6 HM6 HQ6
      rw [HE5.out]
      go_wp2_with fail
      refine (pmix_any A5 c5 (xorL p q 16) _ HS7.out (HG.out.later HX7.out).sev).mono ?_
      rintro e w8 ⟨A8, c8, rfl, _, hr8, hx8⟩
      have HX8 := hid (Ext.trans HX7.out hx8)
      obtain ⟨g6, o6, rfl, _, k6⟩ := (HM7.out.later hx8).at_ (by omega)
      obtain ⟨g7, o7, rfl, _, k7⟩ := (HN7.out.later hx8).at_ (by omega)
      obtain ⟨g8, o8, rfl, _, k8⟩ := hr8.at_ (by omega)
      have K6 := hid k6
      have K7 := hid k7
      have K8 := hid k8
      clear hx8 hr8 HX7 HS7 HM7 HN7 k6 k7 k8 hc5 hm5
      go_wp2_with fail
      go_loopw [15] (fun v wr => ∃ k : Nat, k ≤ 16 ∧ v = .int .i64 k ∧ ∃ nd, wr = w8.drewN nd) (fun v _ => 16 - (intOf v).toNat)
      case atStart => exact ⟨0, by omega, rfl, 0, rfl⟩
      case round =>
        obtain ⟨k, hk, rfl, nd, hnd⟩ := hrel
        by_cases hkt : k < 16
        · have e6 := K6.out k hkt
          have e7 := K7.out k hkt
          have e8 := K8.out k hkt
          have hx := u8_xor_val' ((mixL p).getD k 0) ((mixL q).getD k 0)
          rw [← sum_mix p q k hkt] at hx
          unfold byteAt at e6 e7 e8
          have n6 := ((mixL p).getD k 0).toNat_lt
          have n7 := ((mixL q).getD k 0).toNat_lt
          have n8 := ((mixL (xorL p q 16)).getD k 0).toNat_lt
          obtain ⟨x, hxe⟩ : ∃ x : Nat, ((mixL p).getD k 0).toNat = x := ⟨_, rfl⟩
          obtain ⟨y, hye⟩ : ∃ y : Nat, ((mixL q).getD k 0).toNat = y := ⟨_, rfl⟩
          obtain ⟨z, hze⟩ : ∃ z : Nat, ((mixL (xorL p q 16)).getD k 0).toNat = z := ⟨_, rfl⟩
          rw [hxe] at e6 n6 hx
          rw [hye] at e7 n7 hx
          rw [hze] at e8 n8 hx
          have c6 : wr.cell? ⟨g6, o6 + k, none⟩ = some (.int .u8 (x : Int)) := by rw [hnd]; exact e6
          have c7 : wr.cell? ⟨g7, o7 + k, none⟩ = some (.int .u8 (y : Int)) := by rw [hnd]; exact e7
          have c8 : wr.cell? ⟨g8, o8 + k, none⟩ = some (.int .u8 (z : Int)) := by rw [hnd]; exact e8
          have HN := hid hnd
          clear hxe hye hze e6 e7 e8 hnd
          go_wp2_with fail
          go_quiet (fail)
          go_wp2_with fail
          go_roundw
          case rel => exact ⟨k + 1, by omega, by go_num, nd + nq, by rw [HN.out]; exact drewN_add _ nd nq⟩
          case measure => simp [intOf]; omega
        · have HX := hid (show Ext w wr by rw [hnd]; exact Ext.trans HX8.out (below_drewN' (Ext.refl w8) nd))
          clear hnd
          go_wp2_with fail
          go_ret
          exact ⟨rfl, HX.out⟩
end Go.Proofs.YtpfkcplldhdipaaDoor
