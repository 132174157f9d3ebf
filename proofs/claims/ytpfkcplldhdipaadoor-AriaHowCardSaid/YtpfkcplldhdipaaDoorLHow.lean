/- The law on how many keys there are, walked; own text of the verifier. -/
import Derived.Test.YtpfkcplldhdipaaDoorX22
import Derived.Test.YtpfkcplldhdipaaDoorZ1
namespace Go.Proofs.YtpfkcplldhdipaaDoor
open Go.RowKit
theorem keysL_get2 (key : List UInt8) (i : Nat) (hi : i < keyN key) : (keysL key).getD i [] = keyF key i := by
  simp [keysL, List.getD_eq_getElem?_getD, hi]
theorem rows_at2 {w : World} {b : Nat} {key : List UInt8} (h : RowsB w b 0 (keysL key)) (i : Nat) (hi : i < keyN key) : ∃ A c, w.cell? ⟨b, i, none⟩ = some (.slice A 16 c) ∧ Rd w w.heap.size A 16 (keyF key i) := by
  obtain ⟨A, c, h1, h2⟩ := h i (by simpa [keysL] using hi)
  rw [keysL_get2 key i hi, keyF_length] at h1 h2
  rw [Nat.zero_add] at h1
  exact ⟨A, c, h1, h2⟩
def howKs (b b2 N cb cb2 i : Nat) (KI : List UInt8) : List Go.Proofs.YtpfkcplldhdipaaDoor.K := [.eq (.slice (some ⟨b, 0, none⟩) N cb), .eq (.int .i64 i), .eq (.pointer (some ⟨b, i, none⟩)), .byt 16 (KI), .eq (.int .i64 16), .eq (.bool false), .eq (.bool false), .eq (.slice (some ⟨b, 0, none⟩) N cb), .eq (.int .i64 i), .eq (.pointer (some ⟨b, i, none⟩)), .byt 16 (KI), .eq (.string (str (KI))), .eq (.slice (some ⟨b2, 0, none⟩) N cb2), .eq (.int .i64 i), .eq (.pointer (some ⟨b2, i, none⟩)), .byt 16 (KI), .eq (.string (str (KI))), .eq (.bool false), .eq (.bool false)]
set_option maxRecDepth 100000 in
set_option maxHeartbeats 8000000 in
theorem how_walk (a0 : Option Addr) (len0 cap0 : Nat) (z0 : List Int) (a1 : Int) (w : World) (w0 : IsRow .u8 w a0 len0 cap0 z0) (_w1 : (Lit.int .i64 a1).wf = true) (hG : GK w) :
    Calls Tryd.prog 8 #[.slice a0 len0 cap0, .int .i64 a1] w fun e w' => e = .returned (.bool true) ∧ Below w.heap.size w w' := by
  obtain ⟨bs0, h0, hm0⟩ := w0.rd
  unfold maxLen at hm0
  clear w0
  have H0 := hid h0
  have HL := hid (show len0 ≤ 9223372036854775807 by omega)
  have HG := hid hG
  obtain ⟨key, hkey⟩ : ∃ key, byL (kLen a1) bs0 = key := ⟨_, rfl⟩
  obtain ⟨n, hn⟩ : ∃ n, kLen a1 = n := ⟨_, rfl⟩
  have hnk : okLen n := by rw [← hn]; exact kLen_ok a1
  have hkl : key.length = n := by rw [← hkey, byL_len, hn]
  have HKEY := hid (fun w h => key_any a0 len0 cap0 a1 bs0 w h HL.out)
  rw [hn] at hkey HKEY
  rw [hkey] at HKEY
  have HNK := hid hnk
  obtain ⟨N, hN⟩ : ∃ N, keyN key = N := ⟨_, rfl⟩
  have HN := hid hN
  have hnn : (n = 16 ∨ n = 24 ∨ n = 32) := hnk
  have hN17 : N ≤ 17 := by unfold keyN at hN; omega
  have hni : (N : Int) ≤ 17 := by omega
  obtain ⟨f, hf⟩ : ∃ f, n / 4 = f := ⟨_, rfl⟩
  have hq4 : (n : Int).tdiv 4 = (f : Int) := by rw [Int.tdiv_eq_ediv_of_nonneg (by omega)]; omega
  have h9 : 9 + (f : Int) = (N : Int) := by unfold keyN at hN; omega
  have hnm : (n : Int) ≤ 32 := by omega
  have hfm : (f : Int) ≤ 8 := by omega
  clear h0 hG hm0 hkey hn hkl hnk hN hnn hN17 hf
  go_enter Tryd.func8, Tryd.ntmps8
  go_wp2_with fail
  refine (known_any _ HG.out).mono ?_
  rintro e w1 ⟨rfl, hx1⟩
  have HX1 := hid hx1
  clear hx1
  go_wp2_with fail
  refine (HKEY.out _ (H0.out.later HX1.out)).mono ?_
  rintro e w2 ⟨A2, c2, rfl, hc2, hr2, hx2⟩
  have HX2 := hid (Ext.trans HX1.out hx2)
  have HR2 := hid hr2
  have HC2 := hid hc2
  clear hx2 hr2 HX1 hc2
  go_wp2_with fail
  refine (pkeys_any A2 n c2 key _ HR2.out HNK.out HC2.out (HG.out.later HX2.out)).mono ?_
  rintro e w3 ⟨b, cb, rfl, hrows, hx3⟩
  have HX3 := hid (Ext.trans HX2.out hx3)
  have HR3 := hid (HR2.out.later hx3)
  have HW1 := hid hrows
  rw [HN.out]
  clear hx3 hrows HX2 HR2
  go_wp2_with fail
  refine (rkeys_any A2 n c2 key _ HR3.out HNK.out HC2.out).mono ?_
  rintro e WL ⟨b2, cb2, rfl, hrows, hx4⟩
  have HXL := hid (Ext.trans HX3.out hx4)
  have HW1 := hid (HW1.out.later hx4)
  have HW2 := hid hrows
  rw [HN.out]
  clear hx4 hrows HX3 HR3
  go_wp2_with fail
  go_loopw [10] (fun v wr => ∃ i : Nat, i ≤ N ∧ v = .int .i64 i ∧ Ext WL wr) (fun v _ => N - (intOf v).toNat)
  case atStart => exact ⟨0, by omega, rfl, Ext.refl _⟩
  case round =>
    obtain ⟨i, hi, rfl, hx⟩ := hrel
    by_cases hlt : i < N
    · obtain ⟨KI, hKI⟩ : ∃ KI, keyF key i = KI := ⟨_, rfl⟩
      have HKR := hid (show ∀ w', Ext wr w' → ∃ A c, w'.cell? ⟨b, i, none⟩ = some (.slice A 16 c) ∧ Rd w' w'.heap.size A 16 KI from fun w' hx' => by
        rw [← hKI]; exact rows_at2 (HW1.out.later (Ext.trans hx hx')) i (by rw [HN.out]; exact hlt))
      have HKR2 := hid (show ∀ w', Ext wr w' → ∃ A c, w'.cell? ⟨b2, i, none⟩ = some (.slice A 16 c) ∧ Rd w' w'.heap.size A 16 KI from fun w' hx' => by
        rw [← hKI]; exact rows_at2 (HW2.out.later (Ext.trans hx hx')) i (by rw [HN.out]; exact hlt))
      have HLT := hid hlt
      have HX := hid hx
      have hlti : (i : Int) < (N : Int) := by omega
      clear hx hKI
      go_wp2_with fail
      refine region_inv mixed rfl (by kernel_rfl) (kV (howKs b b2 N cb cb2 i KI)) (kV_keep _) (forall_ops ⟨?_, ?_, ?_, ?_, ?_, ?_, ?_, ?_, ?_, ?_, ?_, ?_, ?_, ?_, ?_, ?_, ?_, ?_, ?_, trivial⟩) ?_
      · intro a w hk
        have s6 : a.tmps.getD 6 undef = .slice (some ⟨b, 0, none⟩) N cb := hk.was 6 (by kernel_rfl) rfl
        exact step_move rfl rfl s6 rfl
      · intro a w hk
        have s10 : a.tmps.getD 10 undef = .int .i64 i := hk.was 10 (by kernel_rfl) rfl
        exact step_move rfl rfl s10 rfl
      · intro a w hk
        have s43 := hk.eq_ 0 43 (by kernel_rfl) rfl
        have s44 := hk.eq_ 1 44 (by kernel_rfl) rfl
        refine step_val (v := .pointer (some ⟨b, i, none⟩)) (w' := w) rfl ?_ (Ext.refl w) rfl
        have e2 : (i : Int) < (N : Int) := by have := HLT.out; omega
        go_simp
      · intro a w hk
        have s45 := hk.eq_ 2 45 (by kernel_rfl) rfl
        obtain ⟨AK, cK, hcK, hrK⟩ := HKR.out w hk.ext
        refine step_val (v := .slice AK 16 cK) (w' := w) rfl ?_ (Ext.refl w) ⟨_, _, rfl, hrK⟩
        go_simp
      · intro a w hk
        obtain ⟨A46, c46, s46, r46⟩ := hk.byt_ 3 46 (by kernel_rfl) rfl
        refine step_val (v := .int .i64 16) (w' := w) rfl ?_ (Ext.refl w) rfl
        go_simp
      · intro a w hk
        have s47 := hk.eq_ 4 47 (by kernel_rfl) rfl
        refine step_val (v := .bool false) (w' := w) rfl ?_ (Ext.refl w) rfl
        go_simp
      · intro a w hk
        have s48 := hk.eq_ 5 48 (by kernel_rfl) rfl
        exact step_move rfl rfl s48 rfl
      · intro a w hk
        refine hk.run 6 49 false false rfl (by kernel_rfl) rfl fun hw => ?_
        have s6 : a.tmps.getD 6 undef = .slice (some ⟨b, 0, none⟩) N cb := hk.was 6 (by kernel_rfl) rfl
        exact step_move hw rfl s6 rfl
      · intro a w hk
        refine hk.run 6 49 false false rfl (by kernel_rfl) rfl fun hw => ?_
        have s10 : a.tmps.getD 10 undef = .int .i64 i := hk.was 10 (by kernel_rfl) rfl
        exact step_move hw rfl s10 rfl
      · intro a w hk
        refine hk.run 6 49 false false rfl (by kernel_rfl) rfl fun hw => ?_
        have s50 := hk.eq_ 7 50 (by kernel_rfl) rfl
        have s51 := hk.eq_ 8 51 (by kernel_rfl) rfl
        refine step_val (v := .pointer (some ⟨b, i, none⟩)) (w' := w) hw ?_ (Ext.refl w) rfl
        have e2 : (i : Int) < (N : Int) := by have := HLT.out; omega
        go_simp
      · intro a w hk
        refine hk.run 6 49 false false rfl (by kernel_rfl) rfl fun hw => ?_
        have s52 := hk.eq_ 9 52 (by kernel_rfl) rfl
        obtain ⟨AK, cK, hcK, hrK⟩ := HKR.out w hk.ext
        refine step_val (v := .slice AK 16 cK) (w' := w) hw ?_ (Ext.refl w) ⟨_, _, rfl, hrK⟩
        go_simp
      · intro a w hk
        refine hk.run 6 49 false false rfl (by kernel_rfl) rfl fun hw => ?_
        obtain ⟨A53, c53, s53, r53⟩ := hk.byt_ 10 53 (by kernel_rfl) rfl
        exact step_conv hw rfl s53 (strq r53) rfl
      · intro a w hk
        refine hk.run 6 49 false false rfl (by kernel_rfl) rfl fun hw => ?_
        have s8 : a.tmps.getD 8 undef = .slice (some ⟨b2, 0, none⟩) N cb2 := hk.was 8 (by kernel_rfl) rfl
        exact step_move hw rfl s8 rfl
      · intro a w hk
        refine hk.run 6 49 false false rfl (by kernel_rfl) rfl fun hw => ?_
        have s10 : a.tmps.getD 10 undef = .int .i64 i := hk.was 10 (by kernel_rfl) rfl
        exact step_move hw rfl s10 rfl
      · intro a w hk
        refine hk.run 6 49 false false rfl (by kernel_rfl) rfl fun hw => ?_
        have s55 := hk.eq_ 12 55 (by kernel_rfl) rfl
        have s56 := hk.eq_ 13 56 (by kernel_rfl) rfl
        refine step_val (v := .pointer (some ⟨b2, i, none⟩)) (w' := w) hw ?_ (Ext.refl w) rfl
        have e2 : (i : Int) < (N : Int) := by have := HLT.out; omega
        go_simp
      · intro a w hk
        refine hk.run 6 49 false false rfl (by kernel_rfl) rfl fun hw => ?_
        have s57 := hk.eq_ 14 57 (by kernel_rfl) rfl
        obtain ⟨AK, cK, hcK, hrK⟩ := HKR2.out w hk.ext
        refine step_val (v := .slice AK 16 cK) (w' := w) hw ?_ (Ext.refl w) ⟨_, _, rfl, hrK⟩
        go_simp
      · intro a w hk
        refine hk.run 6 49 false false rfl (by kernel_rfl) rfl fun hw => ?_
        obtain ⟨A58, c58, s58, r58⟩ := hk.byt_ 15 58 (by kernel_rfl) rfl
        exact step_conv hw rfl s58 (strq r58) rfl
      · intro a w hk
        refine hk.run 6 49 false false rfl (by kernel_rfl) rfl fun hw => ?_
        have s54 := hk.eq_ 11 54 (by kernel_rfl) rfl
        have s59 := hk.eq_ 16 59 (by kernel_rfl) rfl
        refine step_val (v := .bool false) (w' := w) hw ?_ (Ext.refl w) rfl
        go_simp
      · intro a w hk
        have s49 := hk.eq_ 6 49 (by kernel_rfl) rfl
        have s60 := hk.eq_ 17 60 (by kernel_rfl) rfl
        exact step_pick (b := false) rfl rfl s49 s60 rfl
      · intro a w6 hf
        have s43 := hf.eq_ 0 43 (by kernel_rfl) rfl
        have s44 := hf.eq_ 1 44 (by kernel_rfl) rfl
        have s45 := hf.eq_ 2 45 (by kernel_rfl) rfl
        obtain ⟨A46, c46, s46, r46⟩ := hf.val 3 46 (by kernel_rfl) rfl
        have s47 := hf.eq_ 4 47 (by kernel_rfl) rfl
        have s48 := hf.eq_ 5 48 (by kernel_rfl) rfl
        have s49 := hf.eq_ 6 49 (by kernel_rfl) rfl
        have s50 := hf.eq_ 7 50 (by kernel_rfl) rfl
        have s51 := hf.eq_ 8 51 (by kernel_rfl) rfl
        have s52 := hf.eq_ 9 52 (by kernel_rfl) rfl
        obtain ⟨A53, c53, s53, r53⟩ := hf.val 10 53 (by kernel_rfl) rfl
        have s54 := hf.eq_ 11 54 (by kernel_rfl) rfl
        have s55 := hf.eq_ 12 55 (by kernel_rfl) rfl
        have s56 := hf.eq_ 13 56 (by kernel_rfl) rfl
        have s57 := hf.eq_ 14 57 (by kernel_rfl) rfl
        obtain ⟨A58, c58, s58, r58⟩ := hf.val 15 58 (by kernel_rfl) rfl
        have s59 := hf.eq_ 16 59 (by kernel_rfl) rfl
        have s60 := hf.eq_ 17 60 (by kernel_rfl) rfl
        have s61 := hf.eq_ 18 61 (by kernel_rfl) rfl
        have hx := hf.ext
        have e := hf.frame
        clear hf
        simp only [regFrame, Act.put, List.setIfInBounds_toArray, List.set_cons_zero, List.set_cons_succ, s43, s44, s45, s46, s47, s48, s49, s50, s51, s52, s53, s54, s55, s56, s57, s58, s59, s60, s61] at e
        clear s43 s44 s45 s46 s47 s48 s49 s50 s51 s52 s53 s54 s55 s56 s57 s58 s59 s60 s61
        subst e
        have HX6 := hid (Ext.trans HX.out hx)
        clear hx r46 r53 r58
        go_wp2_with fail
        go_roundw
        case rel => exact ⟨i + 1, by have := HLT.out; omega, by go_num, HX6.out⟩
        case measure => have := HLT.out; simp [intOf]; omega
    · obtain rfl : i = N := by omega
      have HX := hid (Ext.trans HXL.out hx)
      have hnlt : ¬ ((i : Int) < (i : Int)) := by omega
      clear hx
      go_wp2_with fail
      go_ret
      exact ⟨rfl, HX.out⟩
end Go.Proofs.YtpfkcplldhdipaaDoor
