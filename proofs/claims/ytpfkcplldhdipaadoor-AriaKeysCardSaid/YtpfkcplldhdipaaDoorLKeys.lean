/- The law on keys, walked; own text of the verifier. -/
import Derived.Test.YtpfkcplldhdipaaDoorX22
import Derived.Test.YtpfkcplldhdipaaDoorZ1
namespace Go.Proofs.YtpfkcplldhdipaaDoor
open Go.RowKit
theorem keysL_get2 (key : List UInt8) (i : Nat) (hi : i < keyN key) : (keysL key).getD i [] = keyF key i := by
  simp [keysL, List.getD_eq_getElem?_getD, hi]
theorem rows_at2 {w : World} {b : Nat} {key : List UInt8} (h : RowsB w b 0 (keysL key)) (i : Nat) (hi : i < keyN key) : ∃ A c, w.cell? ⟨b, i, none⟩ = some (.slice A 16 c) ∧ Rd w w.heap.size A 16 (keyF key i) := by
  obtain ⟨A, c, h1, h2⟩ := h i (by simpa [keysL] using hi)
  rw [keysL_get2 key i hi, keyF_length] at h1 h2
  rw [Nat.zero_add] at h1
  exact ⟨A, c, h1, h2⟩
def akKs (b b2 N cb cb2 i : Nat) (KI : List UInt8) : List Go.Proofs.YtpfkcplldhdipaaDoor.K := [.eq (.slice (some ⟨b, 0, none⟩) N cb), .eq (.int .i64 i), .eq (.pointer (some ⟨b, i, none⟩)), .byt 16 (KI), .eq (.string (str (KI))), .eq (.slice (some ⟨b2, 0, none⟩) N cb2), .eq (.int .i64 i), .eq (.pointer (some ⟨b2, i, none⟩)), .byt 16 (KI), .eq (.string (str (KI))), .eq (.bool false)]
/-- What is told of a key of any length. -/
def errK (n : Nat) : Int := if n = 16 ∨ n = 24 ∨ n = 32 then 0 else 4
def ErrRet (w : World) (E : Int) (e : Ending) (w' : World) : Prop := ∃ v, e = .returned (.tuple #[v, .int .i64 E]) ∧ Ext w w'
theorem pkeys_err (A : Option Addr) (n c : Nat) (bs : List UInt8) (w : World) (h : Rd w w.heap.size A n bs) (hc : n ≤ c) (hG : GK w) : Calls Tryd.prog 10 #[.slice A n c] w (ErrRet w (errK n)) := by
  by_cases hn : okLen n
  · refine (pkeys_any A n c bs w h hn hc hG).mono ?_
    rintro e w' ⟨b, c', rfl, _, hx⟩
    exact ⟨_, by rw [errK, if_pos (show n = 16 ∨ n = 24 ∨ n = 32 from hn)], hx⟩
  · refine (pkeys_bad A n c w hn).mono ?_
    rintro e w' ⟨rfl, hx⟩
    exact ⟨_, by rw [errK, if_neg (show ¬ (n = 16 ∨ n = 24 ∨ n = 32) from hn)], hx⟩
theorem rkeys_err (A : Option Addr) (n c : Nat) (bs : List UInt8) (w : World) (h : Rd w w.heap.size A n bs) (hc : n ≤ c) : Calls Tryd.prog 12 #[.slice A n c] w (ErrRet w (errK n)) := by
  by_cases hn : okLen n
  · refine (rkeys_any A n c bs w h hn hc).mono ?_
    rintro e w' ⟨b, c', rfl, _, hx⟩
    exact ⟨_, by rw [errK, if_pos (show n = 16 ∨ n = 24 ∨ n = 32 from hn)], hx⟩
  · refine (rkeys_bad A n c w hn).mono ?_
    rintro e w' ⟨rfl, hx⟩
    exact ⟨_, by rw [errK, if_neg (show ¬ (n = 16 ∨ n = 24 ∨ n = 32) from hn)], hx⟩
set_option maxRecDepth 100000 in
set_option maxHeartbeats 8000000 in
theorem keys_walk (a0 : Option Addr) (len0 cap0 : Nat) (z0 : List Int) (a1 : Int) (a2 : Option Addr) (len2 cap2 : Nat) (z2 : List Int) (w : World) (w0 : IsRow .u8 w a0 len0 cap0 z0) (_w1 : (Lit.int .i64 a1).wf = true) (w2 : IsRow .u8 w a2 len2 cap2 z2) (hG : GK w) :
    Calls Tryd.prog 3 #[.slice a0 len0 cap0, .int .i64 a1, .slice a2 len2 cap2] w fun e w' => e = .returned (.bool true) ∧ Below w.heap.size w w' := by
  obtain ⟨bs0, h0, hm0⟩ := w0.rd
  obtain ⟨bs2, h2, hm2, hc2⟩ := w2.rdc
  unfold maxLen at hm0 hm2
  clear w0 w2
  have H0 := hid h0
  have H2 := hid h2
  have HC := hid hc2
  have HL := hid (show len0 ≤ 9223372036854775807 by omega)
  have HG := hid hG
  obtain ⟨key, hkey⟩ : ∃ key, byL (kLen a1) bs0 = key := ⟨_, rfl⟩
  obtain ⟨n, hn⟩ : ∃ n, kLen a1 = n := ⟨_, rfl⟩
  have hnk : okLen n := by rw [← hn]; exact kLen_ok a1
  have hkl : key.length = n := by rw [← hkey, byL_len, hn]
  have HKEY := hid (fun w h => key_any a0 len0 cap0 a1 bs0 w h HL.out)
  rw [hn] at hkey HKEY
  rw [hkey] at HKEY
  have HNK := hid hnk
  obtain ⟨N, hN⟩ : ∃ N, keyN key = N := ⟨_, rfl⟩
  have HN := hid hN
  have hnn : (n = 16 ∨ n = 24 ∨ n = 32) := hnk
  have hN17 : N ≤ 17 := by unfold keyN at hN; omega
  have hni : (N : Int) ≤ 17 := by omega
  clear h0 h2 hc2 hG hm0 hkey hn hkl hnk hN hnn hN17
  go_enter Tryd.func3, Tryd.ntmps3
  go_wp2_with fail
  refine (known_any _ HG.out).mono ?_
  rintro e w1 ⟨rfl, hx1⟩
  have HX1 := hid hx1
  clear hx1
  by_cases h60 : 60 < len2
  · have g60 : (60 : Int) < (len2 : Int) := by omega
    clear h60
    go_wp2_with fail
    go_ret
    exact ⟨rfl, HX1.out⟩
  have g60 : ¬ (60 : Int) < (len2 : Int) := by omega
  clear h60 hm2
  go_wp2_with fail
  refine (HKEY.out _ (H0.out.later HX1.out)).mono ?_
  rintro e w2 ⟨A2, c2, rfl, hc2, hr2, hx2⟩
  have HX2 := hid (Ext.trans HX1.out hx2)
  have HR2 := hid hr2
  have HC2 := hid hc2
  clear hx2 hr2 HX1 hc2 g60
  go_wp2_with fail
  refine (pkeys_any A2 n c2 key _ HR2.out HNK.out HC2.out (HG.out.later HX2.out)).mono ?_
  rintro e w3 ⟨b, cb, rfl, hrows, hx3⟩
  have HX3 := hid (Ext.trans HX2.out hx3)
  have HW1 := hid hrows
  rw [HN.out]
  clear hx3 hrows HX2 HR2 HC2
  go_wp2_with fail
  refine (HKEY.out _ (H0.out.later HX3.out)).mono ?_
  rintro e w4 ⟨A4, c4, rfl, hc4, hr4, hx4⟩
  have HX4 := hid (Ext.trans HX3.out hx4)
  have HR4 := hid hr4
  have HC4 := hid hc4
  have HW1 := hid (HW1.out.later hx4)
  clear hx4 hr4 HX3 hc4
  go_wp2_with fail
  refine (rkeys_any A4 n c4 key _ HR4.out HNK.out HC4.out).mono ?_
  rintro e w5 ⟨b2, cb2, rfl, hrows, hx5⟩
  have HX5 := hid (Ext.trans HX4.out hx5)
  have HW1 := hid (HW1.out.later hx5)
  have HW2 := hid hrows
  rw [HN.out]
  clear hx5 hrows HX4 HR4 HC4
  go_wp2_with fail
  refine (pkeys_err a2 len2 cap2 bs2 _ (H2.out.later HX5.out) HC.out (HG.out.later HX5.out)).mono ?_
  rintro e w6 ⟨v6, rfl, hx6⟩
  have HX6 := hid (Ext.trans HX5.out hx6)
  have HW1 := hid (HW1.out.later hx6)
  have HW2 := hid (HW2.out.later hx6)
  obtain ⟨EK, hEK⟩ : ∃ EK, errK len2 = EK := ⟨_, rfl⟩
  have HEK := hid hEK
  rw [hEK]
  clear hx6 HX5 hEK
  go_wp2_with fail
  refine (rkeys_err a2 len2 cap2 bs2 _ (H2.out.later HX6.out) HC.out).mono ?_
  rintro e WL ⟨v7, rfl, hx7⟩
  have HXL := hid (Ext.trans HX6.out hx7)
  have HW1 := hid (HW1.out.later hx7)
  have HW2 := hid (HW2.out.later hx7)
  rw [HEK.out]
  clear hx7 HX6 HEK
  go_wp2_with fail
  go_loopw [15] (fun v wr => ∃ i : Nat, i ≤ N ∧ v = .int .i64 i ∧ Ext WL wr) (fun v _ => N - (intOf v).toNat)
  case atStart => exact ⟨0, by omega, rfl, Ext.refl _⟩
  case round =>
    obtain ⟨i, hi, rfl, hx⟩ := hrel
    by_cases hlt : i < N
    · obtain ⟨KI, hKI⟩ : ∃ KI, keyF key i = KI := ⟨_, rfl⟩
      have HKR := hid (show ∀ w', Ext wr w' → ∃ A c, w'.cell? ⟨b, i, none⟩ = some (.slice A 16 c) ∧ Rd w' w'.heap.size A 16 KI from fun w' hx' => by
        rw [← hKI]; exact rows_at2 (HW1.out.later (Ext.trans hx hx')) i (by rw [HN.out]; exact hlt))
      have HKR2 := hid (show ∀ w', Ext wr w' → ∃ A c, w'.cell? ⟨b2, i, none⟩ = some (.slice A 16 c) ∧ Rd w' w'.heap.size A 16 KI from fun w' hx' => by
        rw [← hKI]; exact rows_at2 (HW2.out.later (Ext.trans hx hx')) i (by rw [HN.out]; exact hlt))
      have HLT := hid hlt
      have HX := hid hx
      have hlti : (i : Int) < (N : Int) := by omega
      clear hx hKI
      go_wp2_with fail
      refine region_inv mixed rfl (by kernel_rfl) (kV (akKs b b2 N cb cb2 i KI)) (kV_keep _) (forall_ops ⟨?_, ?_, ?_, ?_, ?_, ?_, ?_, ?_, ?_, ?_, ?_, trivial⟩) ?_
      · intro a w hk
        have s7 : a.tmps.getD 7 undef = .slice (some ⟨b, 0, none⟩) N cb := hk.was 7 (by kernel_rfl) rfl
        exact step_move rfl rfl s7 rfl
      · intro a w hk
        have s15 : a.tmps.getD 15 undef = .int .i64 i := hk.was 15 (by kernel_rfl) rfl
        exact step_move rfl rfl s15 rfl
      · intro a w hk
        have s66 := hk.eq_ 0 66 (by kernel_rfl) rfl
        have s67 := hk.eq_ 1 67 (by kernel_rfl) rfl
        refine step_val (v := .pointer (some ⟨b, i, none⟩)) (w' := w) rfl ?_ (Ext.refl w) rfl
        have e2 : (i : Int) < (N : Int) := by have := HLT.out; omega
        go_simp
      · intro a w hk
        have s68 := hk.eq_ 2 68 (by kernel_rfl) rfl
        obtain ⟨AK, cK, hcK, hrK⟩ := HKR.out w hk.ext
        refine step_val (v := .slice AK 16 cK) (w' := w) rfl ?_ (Ext.refl w) ⟨_, _, rfl, hrK⟩
        go_simp
      · intro a w hk
        obtain ⟨A69, c69, s69, r69⟩ := hk.byt_ 3 69 (by kernel_rfl) rfl
        exact step_conv rfl rfl s69 (strq r69) rfl
      · intro a w hk
        have s9 : a.tmps.getD 9 undef = .slice (some ⟨b2, 0, none⟩) N cb2 := hk.was 9 (by kernel_rfl) rfl
        exact step_move rfl rfl s9 rfl
      · intro a w hk
        have s15 : a.tmps.getD 15 undef = .int .i64 i := hk.was 15 (by kernel_rfl) rfl
        exact step_move rfl rfl s15 rfl
      · intro a w hk
        have s71 := hk.eq_ 5 71 (by kernel_rfl) rfl
        have s72 := hk.eq_ 6 72 (by kernel_rfl) rfl
        refine step_val (v := .pointer (some ⟨b2, i, none⟩)) (w' := w) rfl ?_ (Ext.refl w) rfl
        have e2 : (i : Int) < (N : Int) := by have := HLT.out; omega
        go_simp
      · intro a w hk
        have s73 := hk.eq_ 7 73 (by kernel_rfl) rfl
        obtain ⟨AK, cK, hcK, hrK⟩ := HKR2.out w hk.ext
        refine step_val (v := .slice AK 16 cK) (w' := w) rfl ?_ (Ext.refl w) ⟨_, _, rfl, hrK⟩
        go_simp
      · intro a w hk
        obtain ⟨A74, c74, s74, r74⟩ := hk.byt_ 8 74 (by kernel_rfl) rfl
        exact step_conv rfl rfl s74 (strq r74) rfl
      · intro a w hk
        have s70 := hk.eq_ 4 70 (by kernel_rfl) rfl
        have s75 := hk.eq_ 9 75 (by kernel_rfl) rfl
        refine step_val (v := .bool false) (w' := w) rfl ?_ (Ext.refl w) rfl
        go_simp
      · intro a w6 hf
        have s66 := hf.eq_ 0 66 (by kernel_rfl) rfl
        have s67 := hf.eq_ 1 67 (by kernel_rfl) rfl
        have s68 := hf.eq_ 2 68 (by kernel_rfl) rfl
        obtain ⟨A69, c69, s69, r69⟩ := hf.val 3 69 (by kernel_rfl) rfl
        have s70 := hf.eq_ 4 70 (by kernel_rfl) rfl
        have s71 := hf.eq_ 5 71 (by kernel_rfl) rfl
        have s72 := hf.eq_ 6 72 (by kernel_rfl) rfl
        have s73 := hf.eq_ 7 73 (by kernel_rfl) rfl
        obtain ⟨A74, c74, s74, r74⟩ := hf.val 8 74 (by kernel_rfl) rfl
        have s75 := hf.eq_ 9 75 (by kernel_rfl) rfl
        have s76 := hf.eq_ 10 76 (by kernel_rfl) rfl
        have hx := hf.ext
        have e := hf.frame
        clear hf
        simp only [regFrame, Act.put, List.setIfInBounds_toArray, List.set_cons_zero, List.set_cons_succ, s66, s67, s68, s69, s70, s71, s72, s73, s74, s75, s76] at e
        clear s66 s67 s68 s69 s70 s71 s72 s73 s74 s75 s76
        subst e
        have HX6 := hid (Ext.trans HX.out hx)
        clear hx r69 r74
        go_wp2_with fail
        go_roundw
        case rel => exact ⟨i + 1, by have := HLT.out; omega, by go_num, HX6.out⟩
        case measure => have := HLT.out; simp [intOf]; omega
    · obtain rfl : i = N := by omega
      have HX := hid (Ext.trans HXL.out hx)
      have hnlt : ¬ ((i : Int) < (i : Int)) := by omega
      clear hx
      go_wp2_with fail
      go_ret
      exact ⟨rfl, HX.out⟩
end Go.Proofs.YtpfkcplldhdipaaDoor
