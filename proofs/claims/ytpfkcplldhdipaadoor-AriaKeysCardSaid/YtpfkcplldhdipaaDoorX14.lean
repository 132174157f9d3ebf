/- Walk over undoing of the program; own lemmas of the verifier, no statement is proved here. -/
import Derived.Test.YtpfkcplldhdipaaDoorX13
namespace Go.Proofs.YtpfkcplldhdipaaDoor
open Go.RowKit
/-- The keys of the way back, under way. -/
def uS (f : Nat → List UInt8) (r i j : Nat) : List UInt8 := if 0 < j ∧ j < i then mixL (f (r - j)) else f (r - j)
theorem uS_one (f : Nat → List UInt8) (n : Nat) : FL (fun j => f (n - 1 - j)) n = FL (uS f (n - 1) 1) n := FL_congr fun j _ => by
  unfold uS; rw [if_neg (by omega)]
theorem uS_next (f : Nat → List UInt8) (r i n : Nat) (hi : 0 < i) : FL (fun k => if k = i then mixL (f (r - i)) else uS f r i k) n = FL (uS f r (i + 1)) n := FL_congr fun j _ => by
  unfold uS
  by_cases h : j = i
  · subst h; rw [if_pos rfl, if_pos (by omega)]
  · rw [if_neg h]
    by_cases h2 : 0 < j ∧ j < i
    · rw [if_pos h2, if_pos (by omega)]
    · rw [if_neg h2, if_neg (by omega)]
theorem uS_full (f : Nat → List UInt8) (r n : Nat) : FL (uS f r r) n = FL (undoF f r) n := rfl
theorem uS_len {f : Nat → List UInt8} {n : Nat} (hf : ∀ j, j < n → (f j).length = 16) (h0 : 0 < n) (i j : Nat) : (uS f (n - 1) i j).length = 16 := by
  unfold uS
  split
  · exact mixL_length _
  · exact hf _ (by omega)
set_option maxRecDepth 100000 in
set_option maxHeartbeats 4000000 in
theorem undoing_any (K n c : Nat) (f : Nat → List UInt8) (w : World) (h : RW w K 0 (FL f n)) (hf : ∀ j, j < n → (f j).length = 16) (h2 : 2 ≤ n) (hn : n ≤ 1000) (hs : Sev w) :
    Calls Tryd.prog 31 #[.slice (some ⟨K, 0, none⟩) n c] w fun e w' => ∃ g cap, e = .returned (.slice (some ⟨g, 0, none⟩) n cap) ∧ w.heap.size ≤ g ∧ RW w' g 0 (FL (undoF f (n - 1)) n) ∧ Ext w w' := by
  have HC := hid (clone_blk K n c (FL f n) w h (FL_length _ _) (by omega) hn)
  have HF := hid hf
  have HSV := hid hs
  obtain ⟨n1, hn1⟩ : ∃ n1, n - 1 = n1 := ⟨_, rfl⟩
  have hni : (n : Int) - 1 = (n1 : Int) := by omega
  have hn3 : (n : Int) ≤ 1000 := by omega
  have hn2 : n = n1 + 1 := by omega
  have HN := hid hn2
  have HN1 := hid hn1
  have HN2 := hid (And.intro h2 hn)
  clear h hf hs hn1 hn2
  go_enter Tryd.func31, Tryd.ntmps31
  go_wp2_with fail
  refine HC.out.mono ?_
  rintro e w1 ⟨g, cap, rfl, hg, hr, hx1⟩
  have HC2 := hid (reverse_blk g n cap f w1 hr HF.out HN2.out.1 HN2.out.2)
  have HX1 := hid hx1
  have HG := hid hg
  have HGL := hid (hr.lt (by rw [FL_length]; omega))
  clear HC hg hr hx1
  go_wp2_with fail
  refine HC2.out.mono ?_
  rintro e w2 ⟨rfl, hr2, hb2⟩
  have hx2 : Ext w w2 := Below.trans HX1.out (hb2.mono HG.out)
  rw [uS_one] at hr2
  have HQ := hid (And.intro hr2 hx2)
  clear HC2 HX1 hr2 hb2 hx2
  go_wp2_with fail
  go_loopw [4] (fun v wr => ∃ i : Nat, 0 < i ∧ i ≤ n1 ∧ v = .int .i64 i ∧ RW wr g 0 (FL (uS f (n - 1) i) n) ∧ Ext w wr) (fun v _ => n1 - (intOf v).toNat)
  case atStart => exact ⟨1, by omega, by have := HN.out; omega, rfl, HQ.out⟩
  case round =>
    clear HQ
    obtain ⟨i, hi0, hi, rfl, hr, hx⟩ := hrel
    by_cases hlt : i < n1
    · have hfl := uS_len HF.out (by omega) i i
      have hbi := hr.blk i (by have := HN.out; omega) hfl
      have hui : uS f (n - 1) i i = f (n - 1 - i) := by unfold uS; rw [if_neg (by omega)]
      rw [hui] at hbi hfl
      obtain ⟨FI, hFI⟩ : ∃ FI, f (n - 1 - i) = FI := ⟨_, rfl⟩
      rw [hFI] at hbi hfl
      have HFI := hid hFI
      have HL := hid hfl
      have HB := hid hbi.rd
      have HSZ := hid (size55' hfl)
      have HSM := hid (size55' (mixL_length FI))
      have HC3 := hid (mixed_any FI wr hfl (HSV.out.later hx))
      have HR := hid hr
      have HX := hid hx
      have hlti : (i : Int) < (n1 : Int) := by omega
      have hin : (i : Int) < (n : Int) := by have := HN.out; omega
      clear hr hx hbi hfl hui hFI
      go_wp2_with (refine wpList_ld rfl 55 (.tmp 20) rfl g (i * 16) rfl FI HB.out Tryd.underlying55 HSZ.out ?_)
      refine HC3.out.mono ?_
      rintro e w3 ⟨rfl, hx3⟩
      have hr3 := HR.out.later (by rw [FL_length]; omega) hx3
      have hz := hr3.setBlk i (mixL FI) (by have := HN.out; omega) (mixL_length FI)
      rw [← HFI.out, uS_next f (n - 1) i n hi0, HFI.out] at hz
      have hzb := below_setCells (B := w.heap.size) (b := g) (a := w) HG.out (cellsOf (mixL FI)) (i * 16) w3 (Ext.trans HX.out hx3)
      have HTH := hid (show w3.there g (i * 16) (mixL FI).length from fun j hj => by
        have h2 := hr3.wr (i * 16 + j) (by rw [FL_length]; rw [mixL_length] at hj; have := HN.out; omega)
        rwa [Nat.zero_add] at h2)
      obtain ⟨W7, hW7⟩ : ∃ W7, w3.setCells g (i * 16) (cellsOf (mixL FI)) = W7 := ⟨_, rfl⟩
      rw [hW7] at hz hzb
      have HZ := hid (And.intro hz hzb)
      have HW7 := hid hW7
      clear hx3 hr3 hz hzb hW7 HC3 HB HR HX
      go_wp2_with (refine wpList_st rfl 55 (.tmp 23) (.tmp 22) rfl g (i * 16) (mixL FI) rfl rfl HTH.out HSM.out ?_; rw [HW7.out]; clear HTH HW7)
      go_roundw
      case rel => exact ⟨i + 1, by omega, by omega, by go_num, HZ.out⟩
      case measure => simp [intOf]; omega
    · obtain rfl : i = n1 := by omega
      rw [← HN1.out] at hr
      have HQ := hid (And.intro (show RW wr g 0 (FL (undoF f (n - 1)) n) from hr) hx)
      have hnlt : ¬ ((i : Int) < (i : Int)) := by omega
      clear hr hx
      go_wp2_with fail
      go_ret
      exact ⟨g, ⟨cap, rfl⟩, HG.out, HQ.out⟩
end Go.Proofs.YtpfkcplldhdipaaDoor
