/- Walks over Mix and Layer of the program; own lemmas of the verifier, no statement is proved here. -/
import Derived.Test.YtpfkcplldhdipaaDoorX11
namespace Go.Proofs.YtpfkcplldhdipaaDoor
open Go.RowKit
/-- Bytes that are told, and that there are such. -/
def PRet (w : World) (bs : List UInt8) (e : Ending) (w' : World) : Prop := ∃ A c, e = .returned (.tuple #[.slice A 16 c, .bool true]) ∧ 16 ≤ c ∧ Rd w' w'.heap.size A 16 bs ∧ Ext w w'
def NoRet (w : World) (e : Ending) (w' : World) : Prop := e = .returned (.tuple #[.slice none 0 0, .bool false]) ∧ Ext w w'
theorem pmix_bad (A : Option Addr) (n c : Nat) (w : World) (hn : n ≠ 16) : Calls Tryd.prog 14 #[.slice A n c] w (NoRet w) := by
  have g : ((n : Int) != 16) = true := by simp; omega
  go_enter Tryd.func14, Tryd.ntmps14
  go_wp2
  go_ret2
  exact ⟨rfl, Ext.refl _⟩
set_option maxRecDepth 100000 in
set_option maxHeartbeats 4000000 in
theorem pmix_any (A : Option Addr) (c : Nat) (bs : List UInt8) (w : World) (h : Rd w w.heap.size A 16 bs) (hs : Sev w) : Calls Tryd.prog 14 #[.slice A 16 c] w (PRet w (mixL bs)) := by
  obtain ⟨b, o, rfl, _, _⟩ := h.at_ (by omega)
  have HR := hid (rangeAt_of_rd h)
  have HSZ := hid (size55' h.len)
  have HC := hid (mixed_any bs w h.len hs)
  have HZM := hid (size55' (mixL_length bs))
  clear h hs
  go_enter Tryd.func14, Tryd.ntmps14
  go_wp2_with (first
    | (refine wpList_atp rfl 55 5 16 (.tmp 8) rfl (some ⟨b, o, none⟩) 16 c rfl Tryd.underlying55 (Nat.le_refl _) ?_)
    | (refine wpList_ld rfl 55 (.tmp 9) rfl b o rfl bs HR.out Tryd.underlying55 HSZ.out ?_))
  refine HC.out.mono ?_
  rintro e w1 ⟨rfl, hx1⟩
  have h2 := RW.new w1 55 z16
  have x2 := Ext.alloc w1 (.cells (cellsOf z16).toArray 55)
  obtain ⟨W2, hW2⟩ : ∃ W2, w1.alloc (.cells (cellsOf z16).toArray 55) = W2 := ⟨_, rfl⟩
  rw [hW2] at h2 x2
  obtain ⟨T, hT⟩ : ∃ T, w1.heap.size = T := ⟨_, rfl⟩
  rw [hT] at h2
  have h3 := h2.store0 (mixL bs) (by rw [mixL_length, z16_length])
  have hx3 := below_setCells (B := w.heap.size) (b := T) (a := w) (by have := hx1.size; omega) (cellsOf (mixL bs)) 0 W2 (hx1.trans x2)
  have HTH := hid (show W2.there T 0 (mixL bs).length by rw [mixL_length]; have := h2.wr; rw [z16_length] at this; exact this)
  obtain ⟨W3, hW3⟩ : ∃ W3, W2.setCells T 0 (cellsOf (mixL bs)) = W3 := ⟨_, rfl⟩
  rw [hW3] at h3 hx3
  have HF := hid (And.intro (h3.slice (mixL_length bs) (h3.lt (by rw [mixL_length]; omega))) hx3)
  have HW := hid (And.intro hW2 (And.intro hT hW3))
  clear hx1 h2 x2 hW2 hT h3 hx3 hW3 HC
  go_wp2_with (first
    | (rw [← cells_z16, HW.out.1, HW.out.2.1]; refine wpList_st rfl 55 (.tmp 4) (.tmp 11) rfl T 0 (mixL bs) rfl rfl HTH.out HZM.out ?_; rw [HW.out.2.2]; clear HW HTH))
  go_ret2
  exact ⟨_, _, rfl, Nat.le_refl _, HF.out⟩
theorem player_bad (A : Option Addr) (n c : Nat) (which : Int) (w : World) (hn : n ≠ 16 ∨ (which ≠ 1 ∧ which ≠ 2)) : Calls Tryd.prog 16 #[.int .i64 which, .slice A n c] w (NoRet w) := by
  by_cases h : n = 16
  · have h1 : ¬ which = 1 := by omega
    have h2 : ¬ which = 2 := by omega
    have g1 : (which != 1) = true := by simpa using h1
    have g2 : (which != 2) = true := by simpa using h2
    subst h
    go_enter Tryd.func16, Tryd.ntmps16
    go_wp2
    go_ret2
    exact ⟨rfl, Ext.refl _⟩
  · have g : ((n : Int) != 16) = true := by simp; omega
    go_enter Tryd.func16, Tryd.ntmps16
    go_wp2
    go_ret2
    exact ⟨rfl, Ext.refl _⟩
set_option maxRecDepth 100000 in
set_option maxHeartbeats 4000000 in
theorem player_1 (A : Option Addr) (c : Nat) (bs : List UInt8) (w : World) (h : Rd w w.heap.size A 16 bs) (hG : GK w) : Calls Tryd.prog 16 #[.int .i64 1, .slice A 16 c] w (PRet w (layL 1 bs)) := by
  obtain ⟨b, o, rfl, _, _⟩ := h.at_ (by omega)
  have HRD := hid h
  have HSZ := hid (size55' h.len)
  have HBL := hid h.len
  have HC := hid (makeBoxes_any w hG.odd hG.rws)
  have HZM := hid (size55' (layL_length 1 bs))
  have HS50 := hid (size50' tabB_length)
  have HZ := hid zc50
  clear h hG
  go_enter Tryd.func16, Tryd.ntmps16
  go_wp2_with fail
  refine HC.out.mono ?_
  rintro e w1 ⟨rfl, hx1⟩
  have h2 := RW.new w1 50 z1024
  have x2 := Ext.alloc w1 (.cells (cellsOf z1024).toArray 50)
  obtain ⟨W2, hW2⟩ : ∃ W2, w1.alloc (.cells (cellsOf z1024).toArray 50) = W2 := ⟨_, rfl⟩
  rw [hW2] at h2 x2
  obtain ⟨T, hT⟩ : ∃ T, w1.heap.size = T := ⟨_, rfl⟩
  rw [hT] at h2
  have h3 := h2.store0 tabB (by rw [tabB_length, z1024_length])
  have hx3 := below_setCells (B := w.heap.size) (b := T) (a := w) (by have := hx1.size; omega) (cellsOf tabB) 0 W2 (hx1.trans x2)
  have HTH := hid (show W2.there T 0 tabB.length by rw [tabB_length]; have := h2.wr; rw [z1024_length] at this; exact this)
  obtain ⟨W3, hW3⟩ : ∃ W3, W2.setCells T 0 (cellsOf tabB) = W3 := ⟨_, rfl⟩
  rw [hW3] at h3 hx3
  have HLC := hid (layer_any T 1 bs W3 (by omega) HBL.out h3.rd)
  have HR := hid (rangeAt_of_rd (HRD.out.later hx3))
  have HX3 := hid hx3
  have HW := hid (And.intro hW2 (And.intro hT hW3))
  clear hx1 h2 x2 hW2 hT h3 hx3 hW3 HC
  go_wp2_with (first
    | (rw [HZ.out, HW.out.1, HW.out.2.1]; refine wpList_st rfl 50 (.tmp 6) (.tmp 19) rfl T 0 tabB rfl rfl HTH.out HS50.out ?_; rw [HW.out.2.2]; clear HW HTH HZ)
    | (refine wpList_atp rfl 55 5 16 (.tmp 21) rfl (some ⟨b, o, none⟩) 16 c rfl Tryd.underlying55 (Nat.le_refl _) ?_)
    | (refine wpList_ld rfl 55 (.tmp 22) rfl b o rfl bs HR.out Tryd.underlying55 HSZ.out ?_))
  refine HLC.out.mono ?_
  rintro e w4 ⟨rfl, hx4⟩
  have h5 := RW.new w4 55 z16
  have x5 := Ext.alloc w4 (.cells (cellsOf z16).toArray 55)
  obtain ⟨W5, hW5⟩ : ∃ W5, w4.alloc (.cells (cellsOf z16).toArray 55) = W5 := ⟨_, rfl⟩
  rw [hW5] at h5 x5
  obtain ⟨S, hS⟩ : ∃ S, w4.heap.size = S := ⟨_, rfl⟩
  rw [hS] at h5
  have h6 := h5.store0 (layL 1 bs) (by rw [layL_length, z16_length])
  have hxx := Ext.trans HX3.out hx4
  have hx6 := below_setCells (B := w.heap.size) (b := S) (a := w) (by have := hxx.size; omega) (cellsOf (layL 1 bs)) 0 W5 (hxx.trans x5)
  have HTH := hid (show W5.there S 0 (layL 1 bs).length by rw [layL_length]; have := h5.wr; rw [z16_length] at this; exact this)
  obtain ⟨W6, hW6⟩ : ∃ W6, W5.setCells S 0 (cellsOf (layL 1 bs)) = W6 := ⟨_, rfl⟩
  rw [hW6] at h6 hx6
  have HF := hid (And.intro (h6.slice (layL_length 1 bs) (h6.lt (by rw [layL_length]; omega))) hx6)
  have HW := hid (And.intro hW5 (And.intro hS hW6))
  clear hx4 h5 x5 hW5 hS h6 hxx hx6 hW6 HLC HR HX3
  go_wp2_with (first
    | (rw [← cells_z16, HW.out.1, HW.out.2.1]; refine wpList_st rfl 55 (.tmp 7) (.tmp 24) rfl S 0 (layL 1 bs) rfl rfl HTH.out HZM.out ?_; rw [HW.out.2.2]; clear HW HTH))
  go_ret2
  exact ⟨_, _, rfl, Nat.le_refl _, HF.out⟩
set_option maxRecDepth 100000 in
set_option maxHeartbeats 4000000 in
theorem player_2 (A : Option Addr) (c : Nat) (bs : List UInt8) (w : World) (h : Rd w w.heap.size A 16 bs) (hG : GK w) : Calls Tryd.prog 16 #[.int .i64 2, .slice A 16 c] w (PRet w (layL 2 bs)) := by
  obtain ⟨b, o, rfl, _, _⟩ := h.at_ (by omega)
  have HRD := hid h
  have HSZ := hid (size55' h.len)
  have HBL := hid h.len
  have HC := hid (makeBoxes_any w hG.odd hG.rws)
  have HZM := hid (size55' (layL_length 2 bs))
  have HS50 := hid (size50' tabB_length)
  have HZ := hid zc50
  clear h hG
  go_enter Tryd.func16, Tryd.ntmps16
  go_wp2_with fail
  refine HC.out.mono ?_
  rintro e w1 ⟨rfl, hx1⟩
  have h2 := RW.new w1 50 z1024
  have x2 := Ext.alloc w1 (.cells (cellsOf z1024).toArray 50)
  obtain ⟨W2, hW2⟩ : ∃ W2, w1.alloc (.cells (cellsOf z1024).toArray 50) = W2 := ⟨_, rfl⟩
  rw [hW2] at h2 x2
  obtain ⟨T, hT⟩ : ∃ T, w1.heap.size = T := ⟨_, rfl⟩
  rw [hT] at h2
  have h3 := h2.store0 tabB (by rw [tabB_length, z1024_length])
  have hx3 := below_setCells (B := w.heap.size) (b := T) (a := w) (by have := hx1.size; omega) (cellsOf tabB) 0 W2 (hx1.trans x2)
  have HTH := hid (show W2.there T 0 tabB.length by rw [tabB_length]; have := h2.wr; rw [z1024_length] at this; exact this)
  obtain ⟨W3, hW3⟩ : ∃ W3, W2.setCells T 0 (cellsOf tabB) = W3 := ⟨_, rfl⟩
  rw [hW3] at h3 hx3
  have HLC := hid (layer_any T 2 bs W3 (by omega) HBL.out h3.rd)
  have HR := hid (rangeAt_of_rd (HRD.out.later hx3))
  have HX3 := hid hx3
  have HW := hid (And.intro hW2 (And.intro hT hW3))
  clear hx1 h2 x2 hW2 hT h3 hx3 hW3 HC
  go_wp2_with (first
    | (rw [HZ.out, HW.out.1, HW.out.2.1]; refine wpList_st rfl 50 (.tmp 6) (.tmp 19) rfl T 0 tabB rfl rfl HTH.out HS50.out ?_; rw [HW.out.2.2]; clear HW HTH HZ)
    | (refine wpList_atp rfl 55 5 16 (.tmp 21) rfl (some ⟨b, o, none⟩) 16 c rfl Tryd.underlying55 (Nat.le_refl _) ?_)
    | (refine wpList_ld rfl 55 (.tmp 22) rfl b o rfl bs HR.out Tryd.underlying55 HSZ.out ?_))
  refine HLC.out.mono ?_
  rintro e w4 ⟨rfl, hx4⟩
  have h5 := RW.new w4 55 z16
  have x5 := Ext.alloc w4 (.cells (cellsOf z16).toArray 55)
  obtain ⟨W5, hW5⟩ : ∃ W5, w4.alloc (.cells (cellsOf z16).toArray 55) = W5 := ⟨_, rfl⟩
  rw [hW5] at h5 x5
  obtain ⟨S, hS⟩ : ∃ S, w4.heap.size = S := ⟨_, rfl⟩
  rw [hS] at h5
  have h6 := h5.store0 (layL 2 bs) (by rw [layL_length, z16_length])
  have hxx := Ext.trans HX3.out hx4
  have hx6 := below_setCells (B := w.heap.size) (b := S) (a := w) (by have := hxx.size; omega) (cellsOf (layL 2 bs)) 0 W5 (hxx.trans x5)
  have HTH := hid (show W5.there S 0 (layL 2 bs).length by rw [layL_length]; have := h5.wr; rw [z16_length] at this; exact this)
  obtain ⟨W6, hW6⟩ : ∃ W6, W5.setCells S 0 (cellsOf (layL 2 bs)) = W6 := ⟨_, rfl⟩
  rw [hW6] at h6 hx6
  have HF := hid (And.intro (h6.slice (layL_length 2 bs) (h6.lt (by rw [layL_length]; omega))) hx6)
  have HW := hid (And.intro hW5 (And.intro hS hW6))
  clear hx4 h5 x5 hW5 hS h6 hxx hx6 hW6 HLC HR HX3
  go_wp2_with (first
    | (rw [← cells_z16, HW.out.1, HW.out.2.1]; refine wpList_st rfl 55 (.tmp 7) (.tmp 24) rfl S 0 (layL 2 bs) rfl rfl HTH.out HZM.out ?_; rw [HW.out.2.2]; clear HW HTH))
  go_ret2
  exact ⟨_, _, rfl, Nat.le_refl _, HF.out⟩
end Go.Proofs.YtpfkcplldhdipaaDoor
