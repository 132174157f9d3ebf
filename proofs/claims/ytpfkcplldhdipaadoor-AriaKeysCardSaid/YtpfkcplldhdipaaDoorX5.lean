/- Walk over step of the program; own lemmas of the verifier, no statement is proved here. -/
import Derived.Test.YtpfkcplldhdipaaDoorX4
namespace Go.Proofs.YtpfkcplldhdipaaDoor
open Go.RowKit
set_option maxRecDepth 100000 in
set_option maxHeartbeats 4000000 in
theorem step_any (g i : Nat) (b k : List UInt8) (w : World) (hb : b.length = 16) (hk : k.length = 16) (hi : i ≤ 1000) (ht : TB w g) :
    Calls Tryd.prog 46 #[.pointer (some ⟨g, 0, none⟩), .int .i64 i, bv b, bv k] w fun e w' => e = .returned (bv (stepL i b k)) ∧ Ext w w' := by
  have hgw := ht.lt
  have HI := hid hi
  unfold bv
  have h1 := RW.new w 55 b
  have x1 := Ext.alloc w (.cells (cellsOf b).toArray 55)
  obtain ⟨W1, hW1⟩ : ∃ W1, w.alloc (.cells (cellsOf b).toArray 55) = W1 := ⟨_, rfl⟩
  have z1 : W1.heap.size = w.heap.size + 1 := by rw [← hW1]; simp
  have h2 := RW.new W1 55 k
  have x2 := Ext.alloc W1 (.cells (cellsOf k).toArray 55)
  obtain ⟨W2, hW2⟩ : ∃ W2, W1.alloc (.cells (cellsOf k).toArray 55) = W2 := ⟨_, rfl⟩
  have z2 : W2.heap.size = w.heap.size + 1 + 1 := by rw [← hW2, ← z1]; simp
  have h3 := RW.new W2 55 z16
  have x3 := Ext.alloc W2 (.cells (cellsOf z16).toArray 55)
  obtain ⟨W3, hW3⟩ : ∃ W3, W2.alloc (.cells (cellsOf z16).toArray 55) = W3 := ⟨_, rfl⟩
  rw [hW1] at h1 x1
  rw [hW2] at h2 x2
  rw [hW3] at h3 x3
  have h1 := (h1.later (by omega) x2).later (by omega) x3
  have h2 := h2.later (by omega) x3
  obtain ⟨G, hG⟩ : ∃ G, w.heap.size = G := ⟨_, rfl⟩
  rw [z1] at h2
  rw [z2] at h3
  have hx := (x1.trans x2).trans x3
  have HT := hid (ht.later hx)
  have HXT := hid hx
  rw [hG] at h1 h2 h3
  have HX := hid h1
  have HY := hid h2
  have HR := hid h3
  have HG := hid hG
  have HW := hid (And.intro hW1 (And.intro hW2 hW3))
  have HSB := hid (size55' hb)
  have HSK := hid (size55' hk)
  have HSO := hid (size55' (stepL_length i b k))
  obtain ⟨r, hr⟩ : ∃ r, i % 2 = r := ⟨_, rfl⟩
  have hr2 : r < 2 := by omega
  have htm : (i : Int).tmod 2 = (r : Int) := by rw [Int.tmod_eq_emod_of_nonneg (by omega)]; omega
  have HSL := hid (show stepL i b k = layL (1 + r) (xorL b k 16) by rw [stepL, hr])
  clear hW1 hW2 hW3 z1 z2 x1 x2 x3 h1 h2 h3 hG hx ht hr hi hgw
  go_enter Tryd.func46, Tryd.ntmps46
  go_wp2_with (first
    | (rw [← cells_z16, HW.out.1, HW.out.2.1, HW.out.2.2, HG.out]; clear HW; refine wpList_ld rfl 55 (.tmp 6) rfl G 0 rfl b HX.out.rd Tryd.underlying55 HSB.out ?_)
    | (refine wpList_ld rfl 55 (.tmp 6) rfl G 0 rfl b HX.out.rd Tryd.underlying55 HSB.out ?_)
    | (refine wpList_ld rfl 55 (.tmp 7) rfl (G + 1) 0 rfl k HY.out.rd Tryd.underlying55 HSK.out ?_))
  refine (xored_any b k _ hb hk).mono ?_
  rintro e w1 ⟨rfl, hx1⟩
  have HC := hid (layer_any g (1 + r) (xorL b k 16) w1 (by omega) (xorL_length _ _ _) (HT.out.later hx1))
  have HX1 := hid hx1
  clear hx1
  go_wp2_with fail
  refine HC.out.mono ?_
  rintro e w2 ⟨rfl, hx2⟩
  rw [← HSL.out]
  have hxx := Ext.trans HX1.out hx2
  have hr := HR.out.later (by rw [z16_length]; omega) hxx
  have HS := hid (hr.store0 (stepL i b k) (by rw [stepL_length, z16_length])).rd
  have HXE := hid (below_setCells (B := w.heap.size) (b := G + 1 + 1) (a := w) (by have := HG.out; omega) (cellsOf (stepL i b k)) 0 w2 (Ext.trans HXT.out hxx))
  have HTH := hid (show w2.there (G + 1 + 1) 0 (stepL i b k).length by rw [stepL_length]; exact hr.wr)
  clear hx2 hxx hr HC
  go_wp2_with (refine wpList_st rfl 55 (.tmp 8) (.tmp 16) rfl (G + 1 + 1) 0 (stepL i b k) rfl rfl HTH.out HSO.out ?_)
  refine ret_mid rfl rfl (G + 1 + 1) (stepL i b k) rfl HS.out Tryd.underlying55 HSO.out ⟨rfl, HXE.out⟩
end Go.Proofs.YtpfkcplldhdipaaDoor
