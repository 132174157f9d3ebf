/- The law on rounds, walked; own text of the verifier. -/
import Derived.Test.YtpfkcplldhdipaaDoorX18
import Derived.Test.YtpfkcplldhdipaaDoorZ1
namespace Go.Proofs.YtpfkcplldhdipaaDoor
open Go.RowKit
theorem cf20 (vs : Array Value) (w : World) : (callFunc 20 vs).run Tryd.prog w = .ok (.enter 20 vs) w := by go_simp
theorem player_w (which : Nat) (A : Option Addr) (c : Nat) (bs : List UInt8) (w : World) (hw : which = 1 ∨ which = 2) (h : Rd w w.heap.size A 16 bs) (hG : GK w) : Calls Tryd.prog 16 #[.int .i64 which, .slice A 16 c] w (PRet w (layL which bs)) := by
  rcases hw with rfl | rfl
  · exact player_1 A c bs w h hG
  · exact player_2 A c bs w h hG
theorem keysL_get (key : List UInt8) (i : Nat) (hi : i < keyN key) : (keysL key).getD i [] = keyF key i := by
  simp [keysL, List.getD_eq_getElem?_getD, hi]
theorem rows_at {w : World} {b : Nat} {key : List UInt8} (h : RowsB w b 0 (keysL key)) (i : Nat) (hi : i < keyN key) : ∃ A c, w.cell? ⟨b, i, none⟩ = some (.slice A 16 c) ∧ Rd w w.heap.size A 16 (keyF key i) := by
  obtain ⟨A, c, h1, h2⟩ := h i (by simpa [keysL] using hi)
  rw [keysL_get key i hi, keyF_length] at h1 h2
  rw [Nat.zero_add] at h1
  exact ⟨A, c, h1, h2⟩
/-- What the law holds between two rounds. -/
def prS (ks : Nat → List UInt8) (r : Nat) (p : List UInt8) (i : Nat) : List UInt8 := if i < r then passB ks p i else stepL (r - 1) (passB ks p (r - 1)) (ks (r - 1))
theorem prS_length (ks : Nat → List UInt8) (r : Nat) {p : List UInt8} (h : p.length = 16) (i : Nat) : (prS ks r p i).length = 16 := by
  unfold prS
  split
  · exact passB_length ks h i
  · exact stepL_length _ _ _
def lrKs (b N cb r : Nat) (X SB KR : List UInt8) : List Go.Proofs.YtpfkcplldhdipaaDoor.K := [.eq (.slice (some ⟨b, 0, none⟩) N cb), .eq (.slice (some ⟨b, 0, none⟩) N cb), .eq (.int .i64 N), .eq (.int .i64 r), .eq (.pointer (some ⟨b, r, none⟩)), .byt 16 (KR), .eq (.int .i64 16), .eq (.bool true), .eq (.bool true), .byt 16 (X), .eq (.string (str (X))), .byt 16 (SB), .eq (.slice (some ⟨b, 0, none⟩) N cb), .eq (.slice (some ⟨b, 0, none⟩) N cb), .eq (.int .i64 N), .eq (.int .i64 r), .eq (.pointer (some ⟨b, r, none⟩)), .byt 16 (KR), .byt 16 (X), .eq (.string (str (X))), .eq (.bool true), .eq (.bool true), .eq (.bool true)]
set_option maxRecDepth 100000 in
set_option maxHeartbeats 8000000 in
theorem rounds_walk (a0 : Option Addr) (len0 cap0 : Nat) (z0 : List Int) (a1 : Int) (a2 : Option Addr) (len2 cap2 : Nat) (z2 : List Int) (w : World) (w0 : IsRow .u8 w a0 len0 cap0 z0) (_w1 : (Lit.int .i64 a1).wf = true) (w2 : IsRow .u8 w a2 len2 cap2 z2) (hG : GK w) :
    Calls Tryd.prog 7 #[.slice a0 len0 cap0, .int .i64 a1, .slice a2 len2 cap2] w fun e w' => e = .returned (.bool true) ∧ Below w.heap.size w w' := by
  obtain ⟨bs0, h0, hm0⟩ := w0.rd
  obtain ⟨bs2, h2, hm2⟩ := w2.rd
  unfold maxLen at hm0 hm2
  clear w0 w2
  have H0 := hid h0
  have H2 := hid h2
  have HL := hid (show len0 ≤ 9223372036854775807 ∧ len2 ≤ 9223372036854775807 by omega)
  have HG := hid hG
  obtain ⟨key, hkey⟩ : ∃ key, byL (kLen a1) bs0 = key := ⟨_, rfl⟩
  obtain ⟨n, hn⟩ : ∃ n, kLen a1 = n := ⟨_, rfl⟩
  have hnk : okLen n := by rw [← hn]; exact kLen_ok a1
  have hkl : key.length = n := by rw [← hkey, byL_len, hn]
  have HKEY := hid (fun w h => key_any a0 len0 cap0 a1 bs0 w h HL.out.1)
  rw [hn] at hkey HKEY
  rw [hkey] at HKEY
  obtain ⟨p, hp⟩ : ∃ p, byL 16 bs2 = p := ⟨_, rfl⟩
  have HP := hid hp
  have HPL := hid (show p.length = 16 by rw [← hp]; exact byL_len _ _)
  have HNK := hid hnk
  have HKL := hid (show okLen key.length by rw [hkl]; exact hnk)
  obtain ⟨N, hN⟩ : ∃ N, keyN key = N := ⟨_, rfl⟩
  obtain ⟨r, hr⟩ : ∃ r, N - 1 = r := ⟨_, rfl⟩
  have hN13 : 13 ≤ N ∧ N ≤ 17 := by unfold okLen at hnk; unfold keyN at hN; omega
  have HN := hid (And.intro hN (And.intro hr hN13))
  have hni : (N : Int) ≤ 17 := by omega
  have hn13 : ¬ ((N : Int) < 13) := by omega
  have hr1 : (N : Int) - 1 = (r : Int) := by omega
  clear h0 h2 hG hm0 hm2 hkey hn hkl hnk hp hN hr hN13
  go_enter Tryd.func7, Tryd.ntmps7
  go_wp2_with fail
  refine (known_any _ HG.out).mono ?_
  rintro e w1 ⟨rfl, hx1⟩
  have HX1 := hid hx1
  clear hx1
  go_wp2_with fail
  refine (HKEY.out _ (H0.out.later HX1.out)).mono ?_
  rintro e w2 ⟨A2, c2, rfl, hc2, hr2, hx2⟩
  have HX2 := hid (Ext.trans HX1.out hx2)
  have HR2 := hid hr2
  clear hx2 hr2 HX1
  go_wp2_with fail
  refine (new_any A2 n c2 key _ HR2.out HNK.out hc2 (HG.out.later HX2.out)).mono ?_
  rintro e w3 ⟨d, rfl, _, hd, hx3⟩
  have HX3 := hid (Ext.trans HX2.out hx3)
  have HD3 := hid hd
  clear hx3 hd HX2 HR2 hc2
  go_wp2_with fail
  refine (HKEY.out _ (H0.out.later HX3.out)).mono ?_
  rintro e w4 ⟨A4, c4, rfl, hc4, hr4, hx4⟩
  have HX4 := hid (Ext.trans HX3.out hx4)
  have HR4 := hid hr4
  have HD4 := hid (HD3.out.later hx4)
  clear hx4 hr4 HX3 HD3
  go_wp2_with fail
  refine (pkeys_any A4 n c4 key _ HR4.out HNK.out hc4 (HG.out.later HX4.out)).mono ?_
  rintro e w5 ⟨b, cb, rfl, hrows, hx5⟩
  have HX5 := hid (Ext.trans HX4.out hx5)
  have HD5 := hid (HD4.out.later hx5)
  have HW5 := hid hrows
  rw [HN.out.1]
  clear hx5 hrows HX4 HD4 HR4 hc4
  go_wp2_with fail
  refine (by_rd a2 16 len2 cap2 bs2 _ (H2.out.later HX5.out) (by omega) HL.out.2).mono ?_
  rintro e w6 ⟨A6, c6, rfl, _, hr6, hx6⟩
  rw [HP.out] at hr6
  have HX6 := hid (Ext.trans HX5.out hx6)
  have HD6 := hid (HD5.out.later hx6)
  have HW6 := hid (HW5.out.later hx6)
  have HS6 := hid (show Rd w6 w6.heap.size A6 16 (prS (keyF key) r p 0) by
    have : prS (keyF key) r p 0 = p := by unfold prS; rw [if_pos (by have := HN.out.2; omega)]; rfl
    rw [this]; exact hr6)
  clear hx6 hr6 HX5 HD5 HW5 hn13
  go_wp2_with fail
  go_loopw [11, 12] (fun pv v wr => ∃ i : Nat, i ≤ r ∧ v = .int .i64 i ∧ (∃ A c, pv = .slice A 16 c ∧ Rd wr wr.heap.size A 16 (prS (keyF key) r p i)) ∧ Ext w6 wr) (fun _ v _ => r - (intOf v).toNat)
  case atStart => exact ⟨0, by omega, rfl, ⟨A6, c6, rfl, HS6.out⟩, Ext.refl _⟩
  case round =>
    clear HS6
    obtain ⟨i, hi, rfl, ⟨A7, c7, rfl, hr7⟩, hx7⟩ := hrel
    by_cases hlt : i < r
    · obtain ⟨A8, c8, hcell, hk8⟩ := rows_at (HW6.out.later hx7) i (by have := HN.out; omega)
      have hps : prS (keyF key) r p i = passB (keyF key) p i := by unfold prS; rw [if_pos hlt]
      rw [hps] at hr7
      obtain ⟨BI, hBI⟩ : ∃ BI, passB (keyF key) p i = BI := ⟨_, rfl⟩
      obtain ⟨KI, hKI⟩ : ∃ KI, keyF key i = KI := ⟨_, rfl⟩
      rw [hBI] at hr7
      rw [hKI] at hk8
      have HBK := hid (And.intro hBI hKI)
      have HB := hid (both_any A7 A8 16 c7 c8 BI KI wr hr7 hk8 (by omega))
      have HX7 := hid (Ext.trans HX6.out hx7)
      have HXW := hid hx7
      obtain ⟨r2, hr2⟩ : ∃ r2, i % 2 = r2 := ⟨_, rfl⟩
      have hr22 : r2 < 2 := by omega
      have htm : (i : Int).tmod 2 = (r2 : Int) := by rw [Int.tmod_eq_emod_of_nonneg (by omega)]; omega
      have HR2 := hid (show (1 + r2 = 1 ∨ 1 + r2 = 2) by omega)
      have HST := hid (show layL (1 + r2) (xorL BI KI 16) = stepL i BI KI by rw [stepL, hr2])
      have hlti : (i : Int) < (r : Int) := by omega
      have hin : (i : Int) < (N : Int) := by omega
      clear hr7 hk8 hx7 hps hBI hKI hr2
      go_wp2_with fail
      refine HB.out.mono ?_
      rintro e w8 ⟨v8, rfl, ho8, hx8⟩
      obtain ⟨A9, c9, rfl, hr9, _⟩ := ho8.rdn (n := 16) (xorL_length BI KI 16)
      have HX8 := hid (Ext.trans HX7.out (show Ext wr w8 from hx8))
      have HXW8 := hid (Ext.trans HXW.out (show Ext wr w8 from hx8))
      have HR9 := hid hr9
      clear ho8 hx8 hr9 HB HX7 HXW hcell
      go_wp2_with fail
      refine (player_w (1 + r2) A9 c9 (xorL BI KI 16) _ HR2.out HR9.out (HG.out.later HX8.out)).mono ?_
      rintro e w10 ⟨A10, c10, rfl, _, hr10, hx10⟩
      rw [HST.out] at hr10
      have HX10 := hid (Ext.trans HX8.out hx10)
      have HXW10 := hid (Ext.trans HXW8.out hx10)
      have HR10 := hid hr10
      clear hx10 hr10 HX8 HXW8 HR9 htm
      have hN2 : (N : Int) - 2 = (r : Int) - 1 := by omega
      obtain ⟨q, hq⟩ : ∃ q, r - 1 = q := ⟨_, rfl⟩
      have hq1 : (N : Int) - 2 = (q : Int) := by have := HN.out.2; omega
      clear hN2
      by_cases hl2 : i < q
      · have hl2i : (i : Int) < (q : Int) := by omega
        go_wp2_with fail
        refine (pmix_any A10 c10 (stepL i BI KI) _ HR10.out (HG.out.later HX10.out).sev).mono ?_
        rintro e w11 ⟨A11, c11, rfl, _, hr11, hx11⟩
        have hst : mixL (stepL i BI KI) = prS (keyF key) r p (i + 1) := by
          unfold prS
          rw [if_pos (by omega), passB, HBK.out.1, HBK.out.2]
        rw [hst] at hr11
        have HR11 := hid hr11
        have HXW11 := hid (Ext.trans HXW10.out hx11)
        clear hr11 hx11 hst
        go_wp2_with fail
        go_roundw
        case rel => exact ⟨i + 1, by omega, by go_num, ⟨A11, c11, rfl, HR11.out⟩, HXW11.out⟩
        case measure => simp [intOf]; omega
      · have hl2i : ¬ ((i : Int) < (q : Int)) := by omega
        have hst : stepL i BI KI = prS (keyF key) r p (i + 1) := by
          unfold prS
          rw [if_neg (by omega), show r - 1 = i by omega, HBK.out.1, HBK.out.2]
        rw [hst] at HR10
        go_wp2_with fail
        go_roundw
        case rel => exact ⟨i + 1, by omega, by go_num, ⟨A10, c10, rfl, HR10.out⟩, HXW10.out⟩
        case measure => simp [intOf]; omega
    · obtain rfl : i = r := by omega
      have hps : prS (keyF key) i p i = stepL (i - 1) (passB (keyF key) p (i - 1)) (keyF key (i - 1)) := by unfold prS; rw [if_neg (by omega)]
      obtain ⟨SB, hSB⟩ : ∃ SB, prS (keyF key) i p i = SB := ⟨_, rfl⟩
      rw [hSB] at hr7 hps
      have HX7 := hid (Ext.trans HX6.out hx7)
      have HD7 := hid (HD6.out.later hx7)
      have HW7 := hid (HW6.out.later hx7)
      have HS7 := hid hr7
      have HPS := hid hps
      have hnlt : ¬ ((i : Int) < (i : Int)) := by omega
      clear hr7 hx7 hps hSB
      go_wp2_with fail
      refine (by_rd a2 16 len2 cap2 bs2 _ (H2.out.later HX7.out) (by omega) HL.out.2).mono ?_
      rintro e w8 ⟨A8, c8, rfl, _, hr8, hx8⟩
      rw [HP.out] at hr8
      have HX8 := hid (Ext.trans HX7.out hx8)
      have HD8 := hid (HD7.out.later hx8)
      have HW8 := hid (HW7.out.later hx8)
      have HS8 := hid (HS7.out.later hx8)
      have HR8 := hid hr8
      clear hx8 hr8 HX7 HD7 HW7 HS7
      go_wp2_with fail
      refine (block_false d A8 c8 key p _ HD8.out HR8.out HKL.out (HG.out.later HX8.out).sev).mono ?_
      rintro e w9 ⟨A17, c17, rfl, _, hr9, hx9⟩
      have HX9 := hid (Ext.trans HX8.out hx9)
      have HSB := hid (HS8.out.later hx9)
      obtain ⟨X, hX⟩ : ∃ X, passL (keyF key) (keyN key - 1) p = X := ⟨_, rfl⟩
      rw [hX] at hr9
      obtain ⟨KR, hKR⟩ : ∃ KR, keyF key i = KR := ⟨_, rfl⟩
      have HXL := hid (show X.length = 16 by rw [← hX]; exact passL_length _ _ _)
      have HEQ := hid (show xorL SB KR 16 = X by rw [← hX, passL, HN.out.1, HN.out.2.1, HPS.out, hKR])
      have HX17 := hid hr9
      have HW9 := hid (HW8.out.later hx9)
      have HKR := hid (show ∀ w, Ext w9 w → ∃ A c, w.cell? ⟨b, i, none⟩ = some (.slice A 16 c) ∧ Rd w w.heap.size A 16 KR from fun w hx => by
        obtain ⟨A, c, h1, h2⟩ := rows_at (HW9.out.later hx) i (by have := HN.out; omega)
        rw [hKR] at h2
        exact ⟨A, c, h1, h2⟩)
      have HNR := hid (And.intro hr1 (show (N : Int) ≤ 17 ∧ (i : Int) < (N : Int) by omega))
      clear hx9 hr9 HX8 HD8 HW8 HS8 HR8 hX hKR
      obtain ⟨A11, hA11⟩ : ∃ A11, A7 = A11 := ⟨_, rfl⟩
      obtain ⟨c11, hc11⟩ : ∃ c11, c7 = c11 := ⟨_, rfl⟩
      rw [hA11] at HSB ⊢
      rw [hc11]
      clear hA11 hc11
      go_wp2_with fail
      refine region_inv mixed rfl (by kernel_rfl) (kV (lrKs b N cb i X SB KR)) (kV_keep _) (forall_ops ⟨?_, ?_, ?_, ?_, ?_, ?_, ?_, ?_, ?_, ?_, ?_, ?_, ?_, ?_, ?_, ?_, ?_, ?_, ?_, ?_, ?_, ?_, ?_, trivial⟩) ?_
      · intro a w hk
        have s9 : a.tmps.getD 9 undef = .slice (some ⟨b, 0, none⟩) N cb := hk.was 9 (by kernel_rfl) rfl
        exact step_move rfl rfl s9 rfl
      · intro a w hk
        have s9 : a.tmps.getD 9 undef = .slice (some ⟨b, 0, none⟩) N cb := hk.was 9 (by kernel_rfl) rfl
        exact step_move rfl rfl s9 rfl
      · intro a w hk
        have s112 := hk.eq_ 1 112 (by kernel_rfl) rfl
        refine step_val (v := .int .i64 N) (w' := w) rfl ?_ (Ext.refl w) rfl
        go_simp
      · intro a w hk
        have s113 := hk.eq_ 2 113 (by kernel_rfl) rfl
        refine step_val (v := .int .i64 i) (w' := w) rfl ?_ (Ext.refl w) rfl
        have e := HNR.out.1
        go_simp
        try exact IntWalk.i64_in _ (by have := HNR.out.2; omega)
      · intro a w hk
        have s111 := hk.eq_ 0 111 (by kernel_rfl) rfl
        have s114 := hk.eq_ 3 114 (by kernel_rfl) rfl
        refine step_val (v := .pointer (some ⟨b, i, none⟩)) (w' := w) rfl ?_ (Ext.refl w) rfl
        have e := HNR.out.2
        have e2 : (i : Int) < (N : Int) := by omega
        go_simp
      · intro a w hk
        have s115 := hk.eq_ 4 115 (by kernel_rfl) rfl
        obtain ⟨AK, cK, hcK, hrK⟩ := HKR.out w hk.ext
        refine step_val (v := .slice AK 16 cK) (w' := w) rfl ?_ (Ext.refl w) ⟨_, _, rfl, hrK⟩
        go_simp
      · intro a w hk
        obtain ⟨A116, c116, s116, r116⟩ := hk.byt_ 5 116 (by kernel_rfl) rfl
        refine step_val (v := .int .i64 16) (w' := w) rfl ?_ (Ext.refl w) rfl
        go_simp
      · intro a w hk
        have s117 := hk.eq_ 6 117 (by kernel_rfl) rfl
        refine step_val (v := .bool true) (w' := w) rfl ?_ (Ext.refl w) rfl
        go_simp
      · intro a w hk
        have s118 := hk.eq_ 7 118 (by kernel_rfl) rfl
        exact step_move rfl rfl s118 rfl
      · intro a w hk
        refine hk.run 8 119 true true rfl (by kernel_rfl) rfl fun hw => ?_
        have s17 : a.tmps.getD 17 undef = .slice A17 16 c17 := hk.was 17 (by kernel_rfl) rfl
        have r17 := (HX17.out).later hk.ext
        exact step_move hw rfl s17 ⟨_, _, rfl, r17⟩
      · intro a w hk
        refine hk.run 8 119 true true rfl (by kernel_rfl) rfl fun hw => ?_
        obtain ⟨A120, c120, s120, r120⟩ := hk.byt_ 9 120 (by kernel_rfl) rfl
        exact step_conv hw rfl s120 (strq r120) rfl
      · intro a w hk
        refine hk.run 8 119 true true rfl (by kernel_rfl) rfl fun hw => ?_
        have s11 : a.tmps.getD 11 undef = .slice A11 16 c11 := hk.was 11 (by kernel_rfl) rfl
        have r11 := (HSB.out).later hk.ext
        exact step_move hw rfl s11 ⟨_, _, rfl, r11⟩
      · intro a w hk
        refine hk.run 8 119 true true rfl (by kernel_rfl) rfl fun hw => ?_
        have s9 : a.tmps.getD 9 undef = .slice (some ⟨b, 0, none⟩) N cb := hk.was 9 (by kernel_rfl) rfl
        exact step_move hw rfl s9 rfl
      · intro a w hk
        refine hk.run 8 119 true true rfl (by kernel_rfl) rfl fun hw => ?_
        have s9 : a.tmps.getD 9 undef = .slice (some ⟨b, 0, none⟩) N cb := hk.was 9 (by kernel_rfl) rfl
        exact step_move hw rfl s9 rfl
      · intro a w hk
        refine hk.run 8 119 true true rfl (by kernel_rfl) rfl fun hw => ?_
        have s124 := hk.eq_ 13 124 (by kernel_rfl) rfl
        refine step_val (v := .int .i64 N) (w' := w) hw ?_ (Ext.refl w) rfl
        go_simp
      · intro a w hk
        refine hk.run 8 119 true true rfl (by kernel_rfl) rfl fun hw => ?_
        have s125 := hk.eq_ 14 125 (by kernel_rfl) rfl
        refine step_val (v := .int .i64 i) (w' := w) hw ?_ (Ext.refl w) rfl
        have e := HNR.out.1
        go_simp
        try exact IntWalk.i64_in _ (by have := HNR.out.2; omega)
      · intro a w hk
        refine hk.run 8 119 true true rfl (by kernel_rfl) rfl fun hw => ?_
        have s123 := hk.eq_ 12 123 (by kernel_rfl) rfl
        have s126 := hk.eq_ 15 126 (by kernel_rfl) rfl
        refine step_val (v := .pointer (some ⟨b, i, none⟩)) (w' := w) hw ?_ (Ext.refl w) rfl
        have e := HNR.out.2
        have e2 : (i : Int) < (N : Int) := by omega
        go_simp
      · intro a w hk
        refine hk.run 8 119 true true rfl (by kernel_rfl) rfl fun hw => ?_
        have s127 := hk.eq_ 16 127 (by kernel_rfl) rfl
        obtain ⟨AK, cK, hcK, hrK⟩ := HKR.out w hk.ext
        refine step_val (v := .slice AK 16 cK) (w' := w) hw ?_ (Ext.refl w) ⟨_, _, rfl, hrK⟩
        go_simp
      · intro a w hk
        refine hk.run 8 119 true true rfl (by kernel_rfl) rfl fun hw => ?_
        obtain ⟨A122, c122, s122, r122⟩ := hk.byt_ 11 122 (by kernel_rfl) rfl
        obtain ⟨A128, c128, s128, r128⟩ := hk.byt_ 17 128 (by kernel_rfl) rfl
        exact step_call hw rfl (by simp only [List.map_toArray, List.map_cons, List.map_nil, Act.eval, s122, s128] <;> rfl) cf20 (both_any A122 A128 16 c122 c128 SB KR w r122 r128 (by omega)) (fun e w1 h => RetB.k HXL.out e w1 (by rw [HEQ.out] at h; exact h))
      · intro a w hk
        refine hk.run 8 119 true true rfl (by kernel_rfl) rfl fun hw => ?_
        obtain ⟨A129, c129, s129, r129⟩ := hk.byt_ 18 129 (by kernel_rfl) rfl
        exact step_conv hw rfl s129 (strq r129) rfl
      · intro a w hk
        refine hk.run 8 119 true true rfl (by kernel_rfl) rfl fun hw => ?_
        have s121 := hk.eq_ 10 121 (by kernel_rfl) rfl
        have s130 := hk.eq_ 19 130 (by kernel_rfl) rfl
        refine step_val (v := .bool true) (w' := w) hw ?_ (Ext.refl w) rfl
        go_simp
      · intro a w hk
        have s119 := hk.eq_ 8 119 (by kernel_rfl) rfl
        have s131 := hk.eq_ 20 131 (by kernel_rfl) rfl
        exact step_pick (b := true) rfl rfl s119 s131 rfl
      · intro a w hk
        have s132 := hk.eq_ 21 132 (by kernel_rfl) rfl
        exact step_assign rfl rfl s132 rfl
      · intro a w6 hf
        have s111 := hf.eq_ 0 111 (by kernel_rfl) rfl
        have s112 := hf.eq_ 1 112 (by kernel_rfl) rfl
        have s113 := hf.eq_ 2 113 (by kernel_rfl) rfl
        have s114 := hf.eq_ 3 114 (by kernel_rfl) rfl
        have s115 := hf.eq_ 4 115 (by kernel_rfl) rfl
        obtain ⟨A116, c116, s116, r116⟩ := hf.val 5 116 (by kernel_rfl) rfl
        have s117 := hf.eq_ 6 117 (by kernel_rfl) rfl
        have s118 := hf.eq_ 7 118 (by kernel_rfl) rfl
        have s119 := hf.eq_ 8 119 (by kernel_rfl) rfl
        obtain ⟨A120, c120, s120, r120⟩ := hf.val 9 120 (by kernel_rfl) rfl
        have s121 := hf.eq_ 10 121 (by kernel_rfl) rfl
        obtain ⟨A122, c122, s122, r122⟩ := hf.val 11 122 (by kernel_rfl) rfl
        have s123 := hf.eq_ 12 123 (by kernel_rfl) rfl
        have s124 := hf.eq_ 13 124 (by kernel_rfl) rfl
        have s125 := hf.eq_ 14 125 (by kernel_rfl) rfl
        have s126 := hf.eq_ 15 126 (by kernel_rfl) rfl
        have s127 := hf.eq_ 16 127 (by kernel_rfl) rfl
        obtain ⟨A128, c128, s128, r128⟩ := hf.val 17 128 (by kernel_rfl) rfl
        obtain ⟨A129, c129, s129, r129⟩ := hf.val 18 129 (by kernel_rfl) rfl
        have s130 := hf.eq_ 19 130 (by kernel_rfl) rfl
        have s131 := hf.eq_ 20 131 (by kernel_rfl) rfl
        have s132 := hf.eq_ 21 132 (by kernel_rfl) rfl
        have s6 := hf.eq_ 22 6 (by kernel_rfl) rfl
        have hx := hf.ext
        have e := hf.frame
        clear hf
        simp only [regFrame, Act.put, List.setIfInBounds_toArray, List.set_cons_zero, List.set_cons_succ, s111, s112, s113, s114, s115, s116, s117, s118, s119, s120, s121, s122, s123, s124, s125, s126, s127, s128, s129, s130, s131, s132, s6] at e
        clear s111 s112 s113 s114 s115 s116 s117 s118 s119 s120 s121 s122 s123 s124 s125 s126 s127 s128 s129 s130 s131 s132 s6
        subst e
        have HXE := hid (Ext.trans HX9.out hx)
        clear hx
        go_wp2_with fail
        go_ret
        exact ⟨rfl, HXE.out⟩
end Go.Proofs.YtpfkcplldhdipaaDoor
