/- Walk over makeBoxes of the program; own lemmas of the verifier, no statement is proved here. -/
import Derived.Test.YtpfkcplldhdipaaDoorX9
namespace Go.Proofs.YtpfkcplldhdipaaDoor
open Go.RowKit
def z1024 : List UInt8 := List.replicate 1024 0
theorem z1024_length : z1024.length = 1024 := List.length_replicate
set_option maxRecDepth 100000 in
theorem zc50 : Tryd.zeroCells50 = (cellsOf z1024).toArray := by kernel_rfl
/-- The tables, under way. -/
def tS (i : Nat) : List UInt8 := (List.range 1024).map fun p => if p < i * 256 then (tabT (p / 256)).getD (p % 256) 0 else 0
theorem tS_length (i : Nat) : (tS i).length = 1024 := by simp [tS]
theorem tS_zero : tS 0 = z1024 := by
  apply List.ext_getElem
  · rw [tS_length, z1024_length]
  · intro p h1 h2
    simp only [tS, List.getElem_map, Nat.zero_mul, Nat.not_lt_zero, if_false]
    exact (List.getElem_replicate _).symm
theorem tS_full : tS 4 = tabB := by decide +kernel
theorem heap_setCells_ne (g : Nat) : ∀ (vs : List Value) (o : Nat) (w : World) (k : Nat), k ≠ g → (w.setCells g o vs).heap[k]? = w.heap[k]?
  | [], _, _, _, _ => rfl
  | v :: vs, o, w, k, h => (heap_setCells_ne g vs (o + 1) _ k h).trans (heap_setCell_other w ⟨g, o, none⟩ k v h)
set_option maxRecDepth 100000 in
theorem tS_next (i : Nat) (_hi : i < 4) : lay (tS i) (i * 256) (tabT i) = tS (i + 1) := by
  unfold lay
  rw [tS_length]
  refine List.map_congr_left fun p hp => ?_
  have hp := List.mem_range.1 hp
  rw [tabT_length]
  by_cases h : i * 256 ≤ p ∧ p < i * 256 + 256
  · rw [if_pos h, if_pos (by omega), show p / 256 = i by omega, show p - i * 256 = p % 256 by omega]
  · rw [if_neg h]
    have e : (tS i).getD p 0 = if p < i * 256 then (tabT (p / 256)).getD (p % 256) 0 else 0 := by simp [tS, List.getD_eq_getElem?_getD, hp]
    rw [e]
    by_cases h2 : p < i * 256
    · have h3 : p < (i + 1) * 256 := by clear e hp; omega
      rw [if_pos h2, if_pos h3]
    · have h3 : ¬ p < (i + 1) * 256 := by clear e; omega
      rw [if_neg h2, if_neg h3]
/-- The rows' cells. -/
def Rws (w : World) : Prop := w.rangeAt 0 0 (cellsOf rows1) ∧ w.rangeAt 1 0 (cellsOf rows2)
set_option maxRecDepth 100000 in
theorem Rws.later {w w' : World} (h : Rws w) (hx : Ext w w') : Rws w' := ⟨rangeAt_later h.1 hx, rangeAt_later h.2 hx⟩
set_option maxRecDepth 100000 in
theorem sz71 {bs : List UInt8} (h : bs.length = 8) : (Tryd.prog.info? 71).map (·.size) = some (cellsOf bs).length := by rw [size33, cellsOf_length, h]
set_option maxRecDepth 100000 in
theorem mk_s1 (w : World) (ho : Odd w) : Calls Tryd.prog 33 #[.int .i64 254, .int .i64 283, .agg (cellsOf rows1).toArray, .int .u8 99] w (RetB w S1) := by
  have h := make_any 254 283 99 rows1 w rfl (by omega) rest283 (by omega) ho
  rw [mk1] at h
  exact h
set_option maxRecDepth 100000 in
theorem mk_s2 (w : World) (ho : Odd w) : Calls Tryd.prog 33 #[.int .i64 247, .int .i64 283, .agg (cellsOf rows2).toArray, .int .u8 226] w (RetB w S2) := by
  have h := make_any 247 283 226 rows2 w rfl (by omega) rest283 (by omega) ho
  rw [mk2] at h
  exact h
theorem bk_s1 (A : Option Addr) (c : Nat) (w : World) (h : Rd w w.heap.size A 256 S1) : Calls Tryd.prog 34 #[.slice A 256 c] w fun e w' => ∃ A' c', e = .returned (.tuple #[.slice A' 256 c', .bool true]) ∧ Rd w' w'.heap.size A' 256 X1 ∧ Ext w w' := by
  refine (back_any A 256 c S1 w h (by omega)).mono ?_
  rintro e w' ⟨A', c', rfl, hr, hx⟩
  rw [out1, show X1.length = 256 from tabT_length 2] at hr ⊢
  rw [isB_of isT_S1]
  exact ⟨A', c', rfl, hr, hx⟩
theorem bk_s2 (A : Option Addr) (c : Nat) (w : World) (h : Rd w w.heap.size A 256 S2) : Calls Tryd.prog 34 #[.slice A 256 c] w fun e w' => ∃ A' c', e = .returned (.tuple #[.slice A' 256 c', .bool true]) ∧ Rd w' w'.heap.size A' 256 X2 ∧ Ext w w' := by
  refine (back_any A 256 c S2 w h (by omega)).mono ?_
  rintro e w' ⟨A', c', rfl, hr, hx⟩
  rw [out2, show X2.length = 256 from tabT_length 3] at hr ⊢
  rw [isB_of isT_S2]
  exact ⟨A', c', rfl, hr, hx⟩
set_option maxRecDepth 100000 in
set_option maxHeartbeats 4000000 in
theorem makeBoxes_any (w : World) (ho : Odd w) (hr : Rws w) : Calls Tryd.prog 23 #[] w fun e w' => e = .returned (bv tabB) ∧ Ext w w' := by
  unfold bv
  have h1 := RW.new w 50 z1024
  have x1 := Ext.alloc w (.cells (cellsOf z1024).toArray 50)
  obtain ⟨W1, hW1⟩ : ∃ W1, w.alloc (.cells (cellsOf z1024).toArray 50) = W1 := ⟨_, rfl⟩
  rw [hW1] at h1 x1
  obtain ⟨R0, hR0⟩ : ∃ R0, w.heap.size = R0 := ⟨_, rfl⟩
  rw [hR0] at h1
  have HW1 := hid (And.intro hW1 hR0)
  have HX0 := hid (show w.heap.size ≤ R0 by omega)
  have H1 := hid h1
  have X1x := hid x1
  have HO := hid (ho.later x1)
  have HRW := hid (hr.later x1)
  clear h1 x1 hW1 hR0 ho hr
  go_enter Tryd.func23, Tryd.ntmps23
  go_wp2_with (first
    | (rw [zc50, HW1.out.1, HW1.out.2]; refine wpList_ld rfl 71 (.global 0) rfl 0 0 rfl rows1 HRW.out.1 Tryd.underlying71 (sz71 rfl) ?_))
  refine (mk_s1 _ HO.out).mono ?_
  rintro e w2 ⟨v1, rfl, ho1, hx2⟩
  have HX2 := hid hx2
  obtain ⟨A1, c1, rfl, hr1, _⟩ := ho1.rdn (n := 256) (tabT_length 0)
  have HR1 := hid hr1
  clear ho1 hx2 hr1
  go_wp2_with (refine wpList_ld rfl 71 (.global 1) rfl 1 0 rfl rows2 (HRW.out.later HX2.out).2 Tryd.underlying71 (sz71 rfl) ?_)
  refine (mk_s2 _ (HO.out.later HX2.out)).mono ?_
  rintro e w3 ⟨v2, rfl, ho2, hx3⟩
  have HX3 := hid (Ext.trans HX2.out hx3)
  obtain ⟨A2, c2, rfl, hr2, _⟩ := ho2.rdn (n := 256) (tabT_length 1)
  have HR1 := hid (HR1.out.later hx3)
  have HR2 := hid hr2
  clear ho2 hx3 hr2
  go_wp2_with fail
  refine (bk_s1 _ _ _ HR1.out).mono ?_
  rintro e w4 ⟨A3, c3, rfl, hr3, hx4⟩
  have HX4 := hid (Ext.trans HX3.out hx4)
  have HR1 := hid (HR1.out.later hx4)
  have HR2 := hid (HR2.out.later hx4)
  have HR3 := hid hr3
  clear hx4 hr3
  go_wp2_with fail
  refine (bk_s2 _ _ _ HR2.out).mono ?_
  rintro e w5 ⟨A4, c4, rfl, hr4, hx5⟩
  have HX5 := hid (Ext.trans HX4.out hx5)
  have HR1 := hid (HR1.out.later hx5)
  have HR2 := hid (HR2.out.later hx5)
  have HR3 := hid (HR3.out.later hx5)
  have HR4 := hid hr4
  clear hx5 hr4
  have h6 := RW.new w5 50 z1024
  have x6 := Ext.alloc w5 (.cells (cellsOf z1024).toArray 50)
  obtain ⟨W6, hW6⟩ : ∃ W6, w5.alloc (.cells (cellsOf z1024).toArray 50) = W6 := ⟨_, rfl⟩
  have z6 : W6.heap.size = w5.heap.size + 1 := by rw [← hW6]; simp
  rw [hW6] at h6 x6
  have h7 := heap_alloc_new W6 (.cells #[.slice A1 256 c1, .slice A2 256 c2, .slice A3 256 c3, .slice A4 256 c4] 22)
  have x7 := Ext.alloc W6 (.cells #[.slice A1 256 c1, .slice A2 256 c2, .slice A3 256 c3, .slice A4 256 c4] 22)
  obtain ⟨W7, hW7⟩ : ∃ W7, W6.alloc (.cells #[.slice A1 256 c1, .slice A2 256 c2, .slice A3 256 c3, .slice A4 256 c4] 22) = W7 := ⟨_, rfl⟩
  rw [hW7] at h7 x7
  have h6 := h6.later (by rw [z1024_length]; omega) x7
  obtain ⟨O, hO⟩ : ∃ O, w5.heap.size = O := ⟨_, rfl⟩
  rw [z6, hO] at h7
  rw [hO] at h6
  have hb7 : Below O w5 W7 := by rw [← hO]; exact x6.trans x7
  have HQ7 := hid (show RW W7 O 0 (tS 0) ∧ W7.heap[O + 1]? = some (.cells #[.slice A1 256 c1, .slice A2 256 c2, .slice A3 256 c3, .slice A4 256 c4] 22 (0, 0)) ∧ Below O w5 W7 from ⟨by rw [tS_zero]; exact h6, h7, hb7⟩)
  have HTT := hid (show ∀ i, i < 4 → ∃ A c, (#[Value.slice A1 256 c1, .slice A2 256 c2, .slice A3 256 c3, .slice A4 256 c4] : Array Value)[i]? = some (.slice A 256 c) ∧ Rd w5 O A 256 (tabT i) from fun i hi => by
    rw [← hO]
    match i, hi with
    | 0, _ => exact ⟨A1, c1, rfl, HR1.out⟩
    | 1, _ => exact ⟨A2, c2, rfl, HR2.out⟩
    | 2, _ => exact ⟨A3, c3, rfl, HR3.out⟩
    | 3, _ => exact ⟨A4, c4, rfl, HR4.out⟩)
  have HW := hid (And.intro hW6 (And.intro hW7 (And.intro hO (show W6.heap.size = O + 1 by omega))))
  have HRW5 := hid (H1.out.later (by rw [z1024_length]; omega) HX5.out)
  have HRO := hid (show R0 < O by rw [← hO]; exact HRW5.out.lt (by rw [z1024_length]; omega))
  have HXT := hid (Ext.trans X1x.out HX5.out)
  have HWO := hid (show w.heap.size ≤ O by rw [← hO]; exact HXT.out.size)
  clear h6 h7 hb7 x6 x7 z6 hW6 hW7 hO HR1 HR2 HR3 HR4 HX2 HX3 HX4 HX5 X1x HO HRW H1 HW1
  go_wp2_with fail
  rw [zc50, HW.out.1, HW.out.2.1, HW.out.2.2.1]
  clear HW
  go_loopw [30] (fun v wr => ∃ i : Nat, i ≤ 4 ∧ v = .int .i64 i ∧ RW wr O 0 (tS i) ∧ wr.heap[O + 1]? = some (.cells #[.slice A1 256 c1, .slice A2 256 c2, .slice A3 256 c3, .slice A4 256 c4] 22 (0, 0)) ∧ Below O w5 wr) (fun v _ => 4 - (intOf v).toNat)
  case atStart => exact ⟨0, by omega, rfl, HQ7.out⟩
  case round =>
    clear HQ7
    obtain ⟨i, hi, rfl, hO, hL, hb⟩ := hrel
    by_cases hlt : i < 4
    · obtain ⟨A, c, hA, hr⟩ := HTT.out i hlt
      have hr' := hr.below hb (Nat.le_refl _)
      have hcl : wr.cell? ⟨O + 1, i, none⟩ = some (.slice A 256 c) := by rw [cell_of_row _ _ _ _ _ _ hL]; exact hA
      have hO2 := hO.store (i * 256) (tabT i) (by rw [tS_length, tabT_length]; omega)
      rw [tS_next i hlt, Nat.zero_add] at hO2
      have hL2 : (wr.setCells O (i * 256) (cellsOf (tabT i))).heap[O + 1]? = some (.cells #[.slice A1 256 c1, .slice A2 256 c2, .slice A3 256 c3, .slice A4 256 c4] 22 (0, 0)) := by
        rw [heap_setCells_ne O (cellsOf (tabT i)) (i * 256) wr (O + 1) (by omega)]; exact hL
      have hb2 := below_setCells (B := O) (b := O) (a := w5) (Nat.le_refl _) (cellsOf (tabT i)) (i * 256) wr hb
      have HTH := hid (show wr.there O (i * 256) 256 from fun j hj => by
        have := hO.wr (i * 256 + j) (by rw [tS_length]; omega)
        rwa [Nat.zero_add] at this)
      have hi4 : (i : Int) < 4 := by omega
      have HM := hid (show Nat.min 256 256 = 256 from rfl)
      have HTK := hid (show (tabT i).take 256 = tabT i from List.take_of_length_le (by rw [tabT_length]; omega))
      have HR := hid hr'
      obtain ⟨W8, hW8⟩ : ∃ W8, wr.setCells O (i * 256) (cellsOf (tabT i)) = W8 := ⟨_, rfl⟩
      rw [hW8] at hO2 hL2 hb2
      have HQ := hid (And.intro hO2 (And.intro hL2 hb2))
      have HW8 := hid hW8
      clear hO hL hb hr hr' hO2 hL2 hb2 hA hW8
      go_wp2_with (refine wpList_cpr rfl (.tmp 37) (.tmp 38) rfl O (i * 256) 256 256 _ 256 c A (tabT i) rfl rfl HR.out 256 HM.out HTH.out ?_; rw [HTK.out, HW8.out]; clear HTH HW8 HR HTK HM)
      go_roundw
      case rel => exact ⟨i + 1, by omega, by go_num, HQ.out⟩
      case measure => simp [intOf]; omega
    · obtain rfl : i = 4 := by omega
      rw [tS_full] at hO
      have hR := HRW5.out.below hb HRO.out
      have hs := hR.store0 tabB (by rw [tabB_length, z1024_length])
      have hx2 := below_setCells (B := w.heap.size) (b := R0) (a := w) (by have := HX0.out; omega) (cellsOf tabB) 0 wr (Below.trans HXT.out (hb.mono HWO.out))
      have HO := hid hO.rd
      have HS := hid hs.rd
      have HX2 := hid hx2
      have HSZ := hid (size50' tabB_length)
      have HTH := hid (show wr.there R0 0 tabB.length by rw [tabB_length]; have := hR.wr; rw [z1024_length] at this; exact this)
      clear hO hL hb hR hs hx2
      go_wp2_with (first
        | (refine wpList_ld rfl 50 (.tmp 7) rfl O 0 rfl tabB HO.out Tryd.underlying50 HSZ.out ?_)
        | (refine wpList_st rfl 50 (.tmp 0) (.tmp 41) rfl R0 0 tabB rfl rfl HTH.out HSZ.out ?_))
      refine ret_mid rfl rfl R0 tabB rfl HS.out Tryd.underlying50 HSZ.out ⟨rfl, HX2.out⟩
end Go.Proofs.YtpfkcplldhdipaaDoor
