/- The law on tags and keys, walked; own lemmas of the verifier, no statement is proved here. -/
import Derived.Test.YtbgkmicelmenfaaGreatDoorRC
namespace Go.Proofs.YtbgkmicelmenfaaGreatDoor.C
open Go.RowKit
open A (byL byL_len)
set_option maxRecDepth 100000
def tgK (b1 o1 b2 o2 C c1 c2 q : Nat) (x : Int) : List Go.Proofs.YtbgkmicelmenfaaGreatDoor.K := [.eq (.slice (some ⟨b1, o1, none⟩) C c1), .eq (.int .i64 q), .ptr (.int .i64 x), .eq (.int .i64 x), .eq (.slice (some ⟨b2, o2, none⟩) C c2), .eq (.int .i64 q), .ptr (.int .i64 x), .eq (.int .i64 x), .eq (.bool false)]
set_option maxHeartbeats 8000000 in
theorem tags_walk [Inhabited D.BT] [Inhabited S.RT] (a0 : Int) (a1 : Option Addr) (len1 cap1 : Nat) (z1 : List Int) (a2 : Int) (w : World) (_w0 : (Lit.int .i64 a0).wf = true) (w1 : IsRow .u8 w a1 len1 cap1 z1) (_w2 : (Lit.int .i64 a2).wf = true) (hG : GC w) :
    Calls Tryz.prog 4 #[.int .i64 a0, .slice a1 len1 cap1, .int .i64 a2] w fun e w' => e = .returned (.bool true) ∧ Below w.heap.size w w' := by
  have HG := hid hG
  obtain ⟨ks, hrk, hlk, hck⟩ := w1.rdb
  have HRK := hid hrk
  have HLK := hid hlk
  have HCK := hid hck
  have h1 : 0 ≤ a2 % 40 := by omega
  have h2 : a2 % 40 < 40 := by omega
  obtain ⟨Q, hQ⟩ : ∃ Q : Nat, a2 % 40 = Q := ⟨(a2 % 40).toNat, by omega⟩
  have HWI := hid (fun w => within_any a2 40 w (by omega) (by omega))
  rw [hQ] at HWI h2
  have HQ40 := hid (show Q < 40 by omega)
  have HK := hid (known4 w hG.sh hG.rw_)
  clear hG w1 hrk hlk hck h1 h2 hQ
  by_cases h100 : len1 ≤ 100
  · have h100' : ¬ ((len1 : Int) > 100) := by omega
    go_enter Tryz.func4, Tryz.ntmps4
    go_wp2_with fail
    refine HK.out.mono ?_
    rintro e wk ⟨rfl, hx1⟩
    have HX1 := hid hx1
    clear hx1 HK h100
    go_wp2_with fail
    go_loopw [7] (fun t wr => ∃ j : Nat, j ≤ 12 ∧ t = .int .i64 ((j : Int) - 1) ∧ Ext w wr) (fun t _ => 12 - (intOf t + 1).toNat)
    case atStart => exact ⟨0, by omega, rfl, HX1.out⟩
    case round =>
      clear HX1
      obtain ⟨j, hj, rfl, hx⟩ := hrel
      have HX := hid hx
      clear hx
      by_cases h12 : j < 12
      · by_cases h11 : j = 11
        · subst h11
          have HLP := hid (fun w' (hx : Ext w w') => lens_any a0 w' (HG.out.later hx).sh)
          have HLR := hid (fun w' => rlens_any a0 w')
          have HSP := hid (fun w' (hx : Ext w w') => size_any a0 w' (HG.out.later hx).sh)
          have HSR := hid (fun w' => rsize_any a0 w')
          have hc3 := cnt_le (tN a0) (tN_le a0)
          have HNP := hid (fun w' (hx : Ext w w') Ad m c key h hc => newA_any a0 Ad m c key w' h hc (HG.out.later hx))
          have HNR := hid (fun w' Ad m c key h hc => rnewA_any a0 Ad m c key w' h hc)
          obtain ⟨C, hC⟩ : ∃ C, cntN (tN a0) = C := ⟨_, rfl⟩
          obtain ⟨Z, hZ⟩ : ∃ Z, szN (tN a0) = Z := ⟨_, rfl⟩
          obtain ⟨t, ht⟩ : ∃ t, tN a0 = t := ⟨_, rfl⟩
          rw [ht] at HLP HLR HSP HSR hC hZ hc3
          rw [hC] at HLP HLR hc3
          rw [hZ] at HSP HSR
          have HC3 := hid hc3
          clear hC hZ ht hc3
          go_wp2_with fail
          refine (HLP.out _ HX.out).mono ?_
          rintro e w2 ⟨v1, rfl, ho1, hx2⟩
          obtain ⟨A1, c1, rfl, _, hr1, _⟩ := OwnN.rdc (n := C) ho1 (lensI_length _ _)
          have HX2 := hid (Ext.trans HX.out hx2)
          have HXR2 := hid hx2
          have HR1 := hid hr1
          clear ho1 hr1 hx2
          go_wp2_with fail
          refine (HLR.out _).mono ?_
          rintro e w3 ⟨v2, rfl, ho2, hx3⟩
          obtain ⟨A2, c2, rfl, _, hr2, _⟩ := OwnN.rdc (n := C) ho2 (lensI_length _ _)
          have HX3 := hid (Ext.trans HX2.out hx3)
          have HR1 := hid (HR1.out.later (show Ext w2 w3 from hx3))
          have HR2 := hid hr2
          clear ho2 hr2 hx3 HX2 HXR2 HX
          go_wp2_with fail
          refine (HSP.out _ HX3.out).mono ?_
          rintro e w4 ⟨rfl, hx4⟩
          have HX4 := hid (Ext.trans HX3.out hx4)
          have HR1 := hid (HR1.out.later hx4)
          have HR2 := hid (HR2.out.later hx4)
          clear hx4 HX3
          go_wp2_with (go_at_call 26; refine (HSR.out _).mono ?_; rintro e w5 ⟨rfl, rfl⟩)
          go_loopw [11] (fun i wr => ∃ q : Nat, q ≤ C ∧ i = .int .i64 q ∧ Ext w4 wr) (fun i _ => C - (intOf i).toNat)
          case atStart => exact ⟨0, Nat.zero_le _, rfl, Ext.refl _⟩
          case round =>
            obtain ⟨q, hq, rfl, hxq⟩ := hrel
            by_cases hlt : q < C
            · obtain ⟨b1, o1, rfl, _, hcs1⟩ := HR1.out.at_ (by omega)
              obtain ⟨b2, o2, rfl, _, hcs2⟩ := HR2.out.at_ (by omega)
              have h1 := cell_at hxq (hcs1 q hlt)
              have h2 := cell_at hxq (hcs2 q hlt)
              obtain ⟨x, hx⟩ : ∃ x, (lensI t C).getD q 0 = x := ⟨_, rfl⟩
              rw [hx] at h1 h2
              have HC1 := hid h1
              have HC2 := hid h2
              have HQ := hid hlt
              have HXQ := hid hxq
              have hqb : q < 10 := by have := HC3.out; omega
              clear hx h1 h2 hcs1 hcs2 hxq
              go_wp2_with fail
              refine region_inv mixed rfl (by kernel_rfl) (kV (tgK b1 o1 b2 o2 C c1 c2 q x)) (kV_keep _) (forall_ops ⟨?_, ?_, ?_, ?_, ?_, ?_, ?_, ?_, ?_, trivial⟩) ?_
              · intro a w hk
                have s9 : a.tmps.getD 9 undef = .slice (some ⟨b1, o1, none⟩) C c1 := hk.was 9 (by kernel_rfl) rfl
                exact step_move rfl rfl s9 rfl
              · intro a w hk
                have s11 : a.tmps.getD 11 undef = .int .i64 q := hk.was 11 (by kernel_rfl) rfl
                exact step_move rfl rfl s11 rfl
              · intro a w hk
                have s55 := hk.eq_ 0 55 (by kernel_rfl) rfl
                have s56 := hk.eq_ 1 56 (by kernel_rfl) rfl
                refine step_val (v := .pointer (some ⟨b1, o1 + q, none⟩)) (w' := w) rfl ?_ (Ext.refl w) ⟨_, rfl, World.block_lt_of_cell? w _ (cell_at hk.ext HC1.out), cell_at hk.ext HC1.out⟩
                have hqC : (q : Int) < (C : Int) := by have := HQ.out; omega
                go_simp
              · intro a w hk
                obtain ⟨p57, s57, h57, g57⟩ := hk.val 2 57 (by kernel_rfl) rfl
                refine step_val (v := .int .i64 x) (w' := w) rfl ?_ (Ext.refl w) rfl
                go_simp
              · intro a w hk
                have s10 : a.tmps.getD 10 undef = .slice (some ⟨b2, o2, none⟩) C c2 := hk.was 10 (by kernel_rfl) rfl
                exact step_move rfl rfl s10 rfl
              · intro a w hk
                have s11 : a.tmps.getD 11 undef = .int .i64 q := hk.was 11 (by kernel_rfl) rfl
                exact step_move rfl rfl s11 rfl
              · intro a w hk
                have s59 := hk.eq_ 4 59 (by kernel_rfl) rfl
                have s60 := hk.eq_ 5 60 (by kernel_rfl) rfl
                refine step_val (v := .pointer (some ⟨b2, o2 + q, none⟩)) (w' := w) rfl ?_ (Ext.refl w) ⟨_, rfl, World.block_lt_of_cell? w _ (cell_at hk.ext HC2.out), cell_at hk.ext HC2.out⟩
                have hqC : (q : Int) < (C : Int) := by have := HQ.out; omega
                go_simp
              · intro a w hk
                obtain ⟨p61, s61, h61, g61⟩ := hk.val 6 61 (by kernel_rfl) rfl
                refine step_val (v := .int .i64 x) (w' := w) rfl ?_ (Ext.refl w) rfl
                go_simp
              · intro a w hk
                have s58 := hk.eq_ 3 58 (by kernel_rfl) rfl
                have s62 := hk.eq_ 7 62 (by kernel_rfl) rfl
                refine step_val (v := .bool false) (w' := w) rfl ?_ (Ext.refl w) rfl
                go_simp
              · intro a w9 hf
                have s55 := hf.eq_ 0 55 (by kernel_rfl) rfl
                have s56 := hf.eq_ 1 56 (by kernel_rfl) rfl
                have s58 := hf.eq_ 3 58 (by kernel_rfl) rfl
                have s59 := hf.eq_ 4 59 (by kernel_rfl) rfl
                have s60 := hf.eq_ 5 60 (by kernel_rfl) rfl
                have s62 := hf.eq_ 7 62 (by kernel_rfl) rfl
                have s63 := hf.eq_ 8 63 (by kernel_rfl) rfl
                have hx := hf.ext
                have e := hf.frame
                clear hf
                simp only [regFrame, Act.put, List.setIfInBounds_toArray, List.set_cons_zero, List.set_cons_succ, s55, s56, s58, s59, s60, s62, s63] at e
                generalize a.tmps.getD 57 undef = u57 at e
                generalize a.tmps.getD 61 undef = u61 at e
                clear s55 s56 s58 s59 s60 s62 s63
                subst e
                have HXE := hid (Ext.trans HXQ.out hx)
                clear hx
                go_wp2_with fail
                go_roundw
                case rel => exact ⟨q + 1, by omega, by go_num, HXE.out⟩
                case measure => simp [intOf]; omega
            · obtain rfl : q = C := by omega
              have HX5 := hid (Ext.trans HX4.out hxq)
              obtain ⟨w5, hw5⟩ : ∃ w5, w5 = wr := ⟨_, rfl⟩
              subst hw5
              clear hxq HX4 HR1 HR2 hlt hq
              go_wp2_with (go_at_call 27; refine (HWI.out _).mono ?_; rintro e w6 ⟨rfl, rfl⟩)
              refine (by_any _ Q _ _ ks _ (HRK.out.later HX5.out) (by have := HQ40.out; omega) HLK.out).mono ?_
              rintro e w6 ⟨v6, rfl, ho6, hx6⟩
              obtain ⟨A6, c6, rfl, hc6, hr6, _⟩ := ho6.rdcb (n := Q) (byL_len _ _)
              have HX6 := hid (Ext.trans HX5.out hx6)
              have HR6 := hid hr6
              clear ho6 hr6 hx6 HX5
              go_wp2_with fail
              refine (HNP.out _ HX6.out _ _ _ _ HR6.out hc6).mono ?_
              rintro e w7 ⟨u1, rfl, hn1, hx7⟩
              have HX7 := hid (Ext.trans HX6.out hx7)
              have HU1 := hid hn1
              clear hx7 hn1 HX6 HR6 hc6
              go_wp2_with (go_at_call 27; refine (HWI.out _).mono ?_; rintro e w8 ⟨rfl, rfl⟩)
              refine (by_any _ Q _ _ ks _ (HRK.out.later HX7.out) (by have := HQ40.out; omega) HLK.out).mono ?_
              rintro e w8 ⟨v8, rfl, ho8, hx8⟩
              obtain ⟨A8, c8, rfl, hc8, hr8, _⟩ := ho8.rdcb (n := Q) (byL_len _ _)
              have HX8 := hid (Ext.trans HX7.out hx8)
              have HR8 := hid hr8
              clear ho8 hr8 hx8 HX7
              go_wp2_with fail
              refine (HNR.out _ _ _ _ _ HR8.out hc8).mono ?_
              rintro e w9 ⟨u2, rfl, _, hx9⟩
              have HX9 := hid (Ext.trans HX8.out hx9)
              clear hx9 HX8 HR8 hc8
              go_wp2_with fail
              refine (HNP.out _ HX9.out _ _ _ _ (HRK.out.later HX9.out) HCK.out).mono ?_
              rintro e w10 ⟨u3, rfl, hn3, hx10⟩
              have HX10 := hid (Ext.trans HX9.out hx10)
              have HU3 := hid hn3
              clear hx10 hn3 HX9
              go_wp2_with fail
              refine (HNR.out _ _ _ _ _ (HRK.out.later HX10.out) HCK.out).mono ?_
              rintro e w11 ⟨u4, rfl, _, hx11⟩
              have HX11 := hid (Ext.trans HX10.out hx11)
              clear hx11 HX10
              have n1 := HU1.out
              have n3 := HU3.out
              obtain ⟨E1, hE1⟩ : ∃ E1, errN a0 Q = E1 := ⟨_, rfl⟩
              obtain ⟨E3, hE3⟩ : ∃ E3, errN a0 len1 = E3 := ⟨_, rfl⟩
              rw [hE1] at n1 ⊢
              rw [hE3] at n3 ⊢
              clear HU1 HU3 hE1 hE3 HNP HNR HLP HLR HSP HSR
              rcases n1 with ⟨rfl, p1, rfl⟩ | ⟨hne1, rfl⟩ <;> rcases n3 with ⟨rfl, p3, rfl⟩ | ⟨hne3, rfl⟩
              · go_wp2_with fail
                go_roundw
                case rel => exact ⟨12, by omega, by go_num, HX11.out⟩
                case measure => simp [intOf]; try omega
              · have hb3 : (E3 != 0) = true := by simp [hne3]
                clear hne3
                go_wp2_with fail
                go_roundw
                case rel => exact ⟨12, by omega, by go_num, HX11.out⟩
                case measure => simp [intOf]; try omega
              · have hb1 : (E1 != 0) = true := by simp [hne1]
                clear hne1
                go_wp2_with fail
                go_roundw
                case rel => exact ⟨12, by omega, by go_num, HX11.out⟩
                case measure => simp [intOf]; try omega
              · have hb1 : (E1 != 0) = true := by simp [hne1]
                have hb3 : (E3 != 0) = true := by simp [hne3]
                clear hne1 hne3
                go_wp2_with fail
                go_roundw
                case rel => exact ⟨12, by omega, by go_num, HX11.out⟩
                case measure => simp [intOf]; try omega
        · have hne : ((j : Int) - 1 == 10) = false := by simp; omega
          obtain ⟨g, hg⟩ : ∃ g, (j : Int) - 1 = g := ⟨_, rfl⟩
          have hgb : g ≤ 10 ∧ (-1 : Int) ≤ g := by omega
          have HGJ := hid hg
          rw [hg] at hne ⊢
          clear hg
          have HLP := hid (fun w' (hx : Ext w w') => lens_any g w' (HG.out.later hx).sh)
          have HLR := hid (fun w' => rlens_any g w')
          have HSP := hid (fun w' (hx : Ext w w') => size_any g w' (HG.out.later hx).sh)
          have HSR := hid (fun w' => rsize_any g w')
          have hc3 := cnt_le (tN g) (tN_le g)
          have HNP := hid (fun w' (hx : Ext w w') Ad m c key h hc => newA_any g Ad m c key w' h hc (HG.out.later hx))
          have HNR := hid (fun w' Ad m c key h hc => rnewA_any g Ad m c key w' h hc)
          obtain ⟨C, hC⟩ : ∃ C, cntN (tN g) = C := ⟨_, rfl⟩
          obtain ⟨Z, hZ⟩ : ∃ Z, szN (tN g) = Z := ⟨_, rfl⟩
          obtain ⟨t, ht⟩ : ∃ t, tN g = t := ⟨_, rfl⟩
          rw [ht] at HLP HLR HSP HSR hC hZ hc3
          rw [hC] at HLP HLR hc3
          rw [hZ] at HSP HSR
          have HC3 := hid hc3
          clear hC hZ ht hc3
          go_wp2_with fail
          refine (HLP.out _ HX.out).mono ?_
          rintro e w2 ⟨v1, rfl, ho1, hx2⟩
          obtain ⟨A1, c1, rfl, _, hr1, _⟩ := OwnN.rdc (n := C) ho1 (lensI_length _ _)
          have HX2 := hid (Ext.trans HX.out hx2)
          have HXR2 := hid hx2
          have HR1 := hid hr1
          clear ho1 hr1 hx2
          go_wp2_with fail
          refine (HLR.out _).mono ?_
          rintro e w3 ⟨v2, rfl, ho2, hx3⟩
          obtain ⟨A2, c2, rfl, _, hr2, _⟩ := OwnN.rdc (n := C) ho2 (lensI_length _ _)
          have HX3 := hid (Ext.trans HX2.out hx3)
          have HR1 := hid (HR1.out.later (show Ext w2 w3 from hx3))
          have HR2 := hid hr2
          clear ho2 hr2 hx3 HX2 HXR2 HX
          go_wp2_with fail
          refine (HSP.out _ HX3.out).mono ?_
          rintro e w4 ⟨rfl, hx4⟩
          have HX4 := hid (Ext.trans HX3.out hx4)
          have HR1 := hid (HR1.out.later hx4)
          have HR2 := hid (HR2.out.later hx4)
          clear hx4 HX3
          go_wp2_with (go_at_call 26; refine (HSR.out _).mono ?_; rintro e w5 ⟨rfl, rfl⟩)
          go_loopw [11] (fun i wr => ∃ q : Nat, q ≤ C ∧ i = .int .i64 q ∧ Ext w4 wr) (fun i _ => C - (intOf i).toNat)
          case atStart => exact ⟨0, Nat.zero_le _, rfl, Ext.refl _⟩
          case round =>
            obtain ⟨q, hq, rfl, hxq⟩ := hrel
            by_cases hlt : q < C
            · obtain ⟨b1, o1, rfl, _, hcs1⟩ := HR1.out.at_ (by omega)
              obtain ⟨b2, o2, rfl, _, hcs2⟩ := HR2.out.at_ (by omega)
              have h1 := cell_at hxq (hcs1 q hlt)
              have h2 := cell_at hxq (hcs2 q hlt)
              obtain ⟨x, hx⟩ : ∃ x, (lensI t C).getD q 0 = x := ⟨_, rfl⟩
              rw [hx] at h1 h2
              have HC1 := hid h1
              have HC2 := hid h2
              have HQ := hid hlt
              have HXQ := hid hxq
              have hqb : q < 10 := by have := HC3.out; omega
              clear hx h1 h2 hcs1 hcs2 hxq
              go_wp2_with fail
              refine region_inv mixed rfl (by kernel_rfl) (kV (tgK b1 o1 b2 o2 C c1 c2 q x)) (kV_keep _) (forall_ops ⟨?_, ?_, ?_, ?_, ?_, ?_, ?_, ?_, ?_, trivial⟩) ?_
              · intro a w hk
                have s9 : a.tmps.getD 9 undef = .slice (some ⟨b1, o1, none⟩) C c1 := hk.was 9 (by kernel_rfl) rfl
                exact step_move rfl rfl s9 rfl
              · intro a w hk
                have s11 : a.tmps.getD 11 undef = .int .i64 q := hk.was 11 (by kernel_rfl) rfl
                exact step_move rfl rfl s11 rfl
              · intro a w hk
                have s55 := hk.eq_ 0 55 (by kernel_rfl) rfl
                have s56 := hk.eq_ 1 56 (by kernel_rfl) rfl
                refine step_val (v := .pointer (some ⟨b1, o1 + q, none⟩)) (w' := w) rfl ?_ (Ext.refl w) ⟨_, rfl, World.block_lt_of_cell? w _ (cell_at hk.ext HC1.out), cell_at hk.ext HC1.out⟩
                have hqC : (q : Int) < (C : Int) := by have := HQ.out; omega
                go_simp
              · intro a w hk
                obtain ⟨p57, s57, h57, g57⟩ := hk.val 2 57 (by kernel_rfl) rfl
                refine step_val (v := .int .i64 x) (w' := w) rfl ?_ (Ext.refl w) rfl
                go_simp
              · intro a w hk
                have s10 : a.tmps.getD 10 undef = .slice (some ⟨b2, o2, none⟩) C c2 := hk.was 10 (by kernel_rfl) rfl
                exact step_move rfl rfl s10 rfl
              · intro a w hk
                have s11 : a.tmps.getD 11 undef = .int .i64 q := hk.was 11 (by kernel_rfl) rfl
                exact step_move rfl rfl s11 rfl
              · intro a w hk
                have s59 := hk.eq_ 4 59 (by kernel_rfl) rfl
                have s60 := hk.eq_ 5 60 (by kernel_rfl) rfl
                refine step_val (v := .pointer (some ⟨b2, o2 + q, none⟩)) (w' := w) rfl ?_ (Ext.refl w) ⟨_, rfl, World.block_lt_of_cell? w _ (cell_at hk.ext HC2.out), cell_at hk.ext HC2.out⟩
                have hqC : (q : Int) < (C : Int) := by have := HQ.out; omega
                go_simp
              · intro a w hk
                obtain ⟨p61, s61, h61, g61⟩ := hk.val 6 61 (by kernel_rfl) rfl
                refine step_val (v := .int .i64 x) (w' := w) rfl ?_ (Ext.refl w) rfl
                go_simp
              · intro a w hk
                have s58 := hk.eq_ 3 58 (by kernel_rfl) rfl
                have s62 := hk.eq_ 7 62 (by kernel_rfl) rfl
                refine step_val (v := .bool false) (w' := w) rfl ?_ (Ext.refl w) rfl
                go_simp
              · intro a w9 hf
                have s55 := hf.eq_ 0 55 (by kernel_rfl) rfl
                have s56 := hf.eq_ 1 56 (by kernel_rfl) rfl
                have s58 := hf.eq_ 3 58 (by kernel_rfl) rfl
                have s59 := hf.eq_ 4 59 (by kernel_rfl) rfl
                have s60 := hf.eq_ 5 60 (by kernel_rfl) rfl
                have s62 := hf.eq_ 7 62 (by kernel_rfl) rfl
                have s63 := hf.eq_ 8 63 (by kernel_rfl) rfl
                have hx := hf.ext
                have e := hf.frame
                clear hf
                simp only [regFrame, Act.put, List.setIfInBounds_toArray, List.set_cons_zero, List.set_cons_succ, s55, s56, s58, s59, s60, s62, s63] at e
                generalize a.tmps.getD 57 undef = u57 at e
                generalize a.tmps.getD 61 undef = u61 at e
                clear s55 s56 s58 s59 s60 s62 s63
                subst e
                have HXE := hid (Ext.trans HXQ.out hx)
                clear hx
                go_wp2_with fail
                go_roundw
                case rel => exact ⟨q + 1, by omega, by go_num, HXE.out⟩
                case measure => simp [intOf]; omega
            · obtain rfl : q = C := by omega
              have HX5 := hid (Ext.trans HX4.out hxq)
              obtain ⟨w5, hw5⟩ : ∃ w5, w5 = wr := ⟨_, rfl⟩
              subst hw5
              clear hxq HX4 HR1 HR2 hlt hq
              go_wp2_with (go_at_call 27; refine (HWI.out _).mono ?_; rintro e w6 ⟨rfl, rfl⟩)
              refine (by_any _ Q _ _ ks _ (HRK.out.later HX5.out) (by have := HQ40.out; omega) HLK.out).mono ?_
              rintro e w6 ⟨v6, rfl, ho6, hx6⟩
              obtain ⟨A6, c6, rfl, hc6, hr6, _⟩ := ho6.rdcb (n := Q) (byL_len _ _)
              have HX6 := hid (Ext.trans HX5.out hx6)
              have HR6 := hid hr6
              clear ho6 hr6 hx6 HX5
              go_wp2_with fail
              refine (HNP.out _ HX6.out _ _ _ _ HR6.out hc6).mono ?_
              rintro e w7 ⟨u1, rfl, hn1, hx7⟩
              have HX7 := hid (Ext.trans HX6.out hx7)
              have HU1 := hid hn1
              clear hx7 hn1 HX6 HR6 hc6
              go_wp2_with (go_at_call 27; refine (HWI.out _).mono ?_; rintro e w8 ⟨rfl, rfl⟩)
              refine (by_any _ Q _ _ ks _ (HRK.out.later HX7.out) (by have := HQ40.out; omega) HLK.out).mono ?_
              rintro e w8 ⟨v8, rfl, ho8, hx8⟩
              obtain ⟨A8, c8, rfl, hc8, hr8, _⟩ := ho8.rdcb (n := Q) (byL_len _ _)
              have HX8 := hid (Ext.trans HX7.out hx8)
              have HR8 := hid hr8
              clear ho8 hr8 hx8 HX7
              go_wp2_with fail
              refine (HNR.out _ _ _ _ _ HR8.out hc8).mono ?_
              rintro e w9 ⟨u2, rfl, _, hx9⟩
              have HX9 := hid (Ext.trans HX8.out hx9)
              clear hx9 HX8 HR8 hc8
              go_wp2_with fail
              refine (HNP.out _ HX9.out _ _ _ _ (HRK.out.later HX9.out) HCK.out).mono ?_
              rintro e w10 ⟨u3, rfl, hn3, hx10⟩
              have HX10 := hid (Ext.trans HX9.out hx10)
              have HU3 := hid hn3
              clear hx10 hn3 HX9
              go_wp2_with fail
              refine (HNR.out _ _ _ _ _ (HRK.out.later HX10.out) HCK.out).mono ?_
              rintro e w11 ⟨u4, rfl, _, hx11⟩
              have HX11 := hid (Ext.trans HX10.out hx11)
              clear hx11 HX10
              have n1 := HU1.out
              have n3 := HU3.out
              obtain ⟨E1, hE1⟩ : ∃ E1, errN g Q = E1 := ⟨_, rfl⟩
              obtain ⟨E3, hE3⟩ : ∃ E3, errN g len1 = E3 := ⟨_, rfl⟩
              rw [hE1] at n1 ⊢
              rw [hE3] at n3 ⊢
              clear HU1 HU3 hE1 hE3 HNP HNR HLP HLR HSP HSR
              rcases n1 with ⟨rfl, p1, rfl⟩ | ⟨hne1, rfl⟩ <;> rcases n3 with ⟨rfl, p3, rfl⟩ | ⟨hne3, rfl⟩
              · go_wp2_with fail
                go_roundw
                case rel => exact ⟨j + 1, by omega, by have := HGJ.out; congr 1; rw [← this]; go_num, HX11.out⟩
                case measure => have := HGJ.out; simp [intOf]; try omega
              · have hb3 : (E3 != 0) = true := by simp [hne3]
                clear hne3
                go_wp2_with fail
                go_roundw
                case rel => exact ⟨j + 1, by omega, by have := HGJ.out; congr 1; rw [← this]; go_num, HX11.out⟩
                case measure => have := HGJ.out; simp [intOf]; try omega
              · have hb1 : (E1 != 0) = true := by simp [hne1]
                clear hne1
                go_wp2_with fail
                go_roundw
                case rel => exact ⟨j + 1, by omega, by have := HGJ.out; congr 1; rw [← this]; go_num, HX11.out⟩
                case measure => have := HGJ.out; simp [intOf]; try omega
              · have hb1 : (E1 != 0) = true := by simp [hne1]
                have hb3 : (E3 != 0) = true := by simp [hne3]
                clear hne1 hne3
                go_wp2_with fail
                go_roundw
                case rel => exact ⟨j + 1, by omega, by have := HGJ.out; congr 1; rw [← this]; go_num, HX11.out⟩
                case measure => have := HGJ.out; simp [intOf]; try omega
      · obtain rfl : j = 12 := by omega
        go_wp2_with fail
        go_ret
        exact ⟨rfl, HX.out⟩
  · have h100' : (len1 : Int) > 100 := by omega
    go_enter Tryz.func4, Tryz.ntmps4
    go_wp2_with fail
    refine HK.out.mono ?_
    rintro e wk ⟨rfl, hx1⟩
    have HX1 := hid hx1
    clear hx1 HK h100
    go_wp2_with fail
    go_ret
    exact ⟨rfl, HX1.out⟩
end Go.Proofs.YtbgkmicelmenfaaGreatDoor.C
