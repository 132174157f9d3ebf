/- Walks over the reference's arrays of four bytes; own lemmas of the verifier, no statement is proved here. -/
import Derived.Test.YtbdncalllfpodaaDoorX5
namespace Go.Proofs.YtbdncalllfpodaaDoor
open Go.RowKit
/-- A word's four bytes. -/
def byF (x : UInt32) (i : Nat) : UInt8 := UInt8.ofNat (bw x i)
def byB (x : UInt32) : List UInt8 := (List.range 4).map (byF x)
theorem byF_toNat (x : UInt32) (i : Nat) : (byF x i).toNat = bw x i := by
  have := bw_lt x i
  unfold byF
  rw [UInt8.toNat_ofNat']; omega
theorem byB_bl (x : UInt32) (j : Nat) (hj : j < 4) : bl (byB x) j = bw x j := by
  have : (byB x).getD j 0 = byF x j := by simp [byB, hj]
  unfold bl
  rw [this, byF_toNat]
def mixTo (f g : Nat → UInt8) (k : Nat) : List UInt8 := (List.range 4).map fun i => if i < k then f i else g i
theorem mixTo_length (f g : Nat → UInt8) (k : Nat) : (mixTo f g k).length = 4 := by simp [mixTo]
theorem mixTo_zero (f g : Nat → UInt8) : mixTo f g 0 = (List.range 4).map g := by simp [mixTo]
theorem mixTo_full (f g : Nat → UInt8) : mixTo f g 4 = (List.range 4).map f := by
  unfold mixTo
  apply List.map_congr_left
  intro i hi
  rw [if_pos (List.mem_range.1 hi)]
theorem mixTo_get (f g : Nat → UInt8) (k : Nat) (hk : k < 4) : (mixTo f g k).getD k 0 = g k := by simp [mixTo, hk]
theorem mixTo_set (f g : Nat → UInt8) (k : Nat) : (mixTo f g k).set k (f k) = mixTo f g (k + 1) := by
  apply List.ext_getElem
  · simp [mixTo]
  · intro i h1 h2
    simp only [mixTo, List.getElem_set, List.getElem_map, List.getElem_range]
    by_cases h : k = i
    · subst h; simp
    · rw [if_neg h]
      by_cases h' : i < k
      · rw [if_pos h', if_pos (by omega)]
      · rw [if_neg h', if_neg (by omega)]
/-- A block of bytes. -/
def BB (w : World) (g : Nat) (e : TypeId) (L : List UInt8) : Prop := w.heap[g]? = some (.cells (cellsOf L).toArray e (0, 0))
section
variable {w w' : World} {g : Nat} {e : TypeId} {L : List UInt8}
theorem BB.lt (h : BB w g e L) : g < w.heap.size := (Array.getElem?_eq_some_iff.1 h).1
theorem BB.later (h : BB w g e L) (hx : Ext w w') : BB w' g e L := (hx.block g h.lt).trans h
theorem BB.cell (h : BB w g e L) (k : Nat) (hk : k < L.length) : w.cell? ⟨g, k, none⟩ = some (.int .u8 (bl L k : Nat)) := by
  rw [cell_of_row w g k _ _ _ h]
  simpa [byteAt_bl] using cellsOf_get L k hk
theorem BB.frozen (h : BB w g e L) (k : Nat) : w.frozen? ⟨g, k, none⟩ = false := frozen_of_row w g k _ e h
theorem BB.set_ (h : BB w g e L) (k : Nat) (x : UInt8) : BB (w.setCell ⟨g, k, none⟩ (.int .u8 (x.toNat : Nat))) g e (L.set k x) := by
  have := heap_setCell_same w g k _ e (.int .u8 (x.toNat : Nat)) h
  unfold BB
  rw [this]
  simp [cellsOf, List.map_set]
theorem BB.setne (h : BB w g e L) (p : Addr) (v : Value) (hne : g ≠ p.block) : BB (w.setCell p v) g e L := (heap_setCell_other w p g v hne).trans h
theorem BB.put (h : BB w g e L) (M : List UInt8) : BB (w.setRow g (cellsOf M).toArray) g e M := setRow_heap w g _ _ e (0, 0) h
end
theorem ret_cell {fn : Func} {R : Ending → World → Prop} {a : Act} {w : World} {p : Tmp} {ty e : TypeId} {N : Nat} (hres : fn.results = #[.cell p ty]) (hd : a.defers = []) (g : Nat) (t : TypeId) (cs : Array Value) (fr : Nat × Nat)
    (hp : a.tmps.getD p undef = .pointer (some ⟨g, 0, none⟩)) (hg : w.heap[g]? = some (.cells cs t fr)) (hu : Tryd.prog.underlying ty = some (.array N e))
    (hi : (Tryd.prog.info? ty).map (·.size) = some cs.size) (h : R (.returned (.agg cs)) w) :
    bodyPost Tryd.prog fn R .ret a w := bodyPost_ret (results_cell_row hres _ _ g t cs fr _ hp hg hu rfl hi) hd h
theorem in68 (L : List UInt8) (h : L.length = 4) : (Tryd.prog.info? 68).map (·.size) = some (cellsOf L).toArray.size := by
  have h1 : (cellsOf L).toArray.size = 4 := by simp [cellsOf, h]
  have h2 : (Tryd.prog.info? 68).map (·.size) = some 4 := by kernel_rfl
  rw [h1, h2]
/-- Four bytes are handed back. -/
def Ret4 (w : World) (x : UInt32) (e : Ending) (w' : World) : Prop := e = .returned (.agg (cellsOf (byB x)).toArray) ∧ Ext w w'
set_option maxRecDepth 100000 in
set_option maxHeartbeats 2000000 in
theorem laid_any (x y : UInt32) (w : World) :
    Calls Tryd.prog 35 #[.agg (cellsOf (byB x)).toArray, .int .u32 (y.toNat : Nat)] w (Ret4 w (x ^^^ y)) := by
  have h1 := heap_alloc2_old w (.cells (cellsOf (byB x)).toArray 68) (.cells #[.int .u8 0, .int .u8 0, .int .u8 0, .int .u8 0] 68)
  have h2 := heap_alloc2_new w (.cells (cellsOf (byB x)).toArray 68) (.cells #[.int .u8 0, .int .u8 0, .int .u8 0, .int .u8 0] 68)
  have h3 := (Ext.alloc w (.cells (cellsOf (byB x)).toArray 68)).trans (Ext.alloc _ (.cells #[.int .u8 0, .int .u8 0, .int .u8 0, .int .u8 0] 68))
  go_enter Tryd.func35, Tryd.ntmps35
  go_wp2_with fail
  obtain ⟨W1, hW1⟩ : ∃ W1, (w.alloc (.cells (cellsOf (byB x)).toArray 68)).alloc (.cells #[.int .u8 0, .int .u8 0, .int .u8 0, .int .u8 0] 68) = W1 := ⟨_, rfl⟩
  rw [hW1] at h1 h2 h3 ⊢
  have HB := hid (show BB W1 w.heap.size 68 (mixTo (byF (x ^^^ y)) (byF x) 0) by rw [mixTo_zero]; exact h1)
  have HR := hid (show BB W1 (w.heap.size + 1) 68 [0, 0, 0, 0] from h2)
  have HX := hid h3
  clear h1 h2 h3 hW1
  obtain ⟨G, hG⟩ : ∃ G, w.heap.size = G := ⟨_, rfl⟩
  rw [hG] at HB HR ⊢
  have HGE := hid hG
  clear hG
  go_loopw [5] (fun i wr => ∃ k : Nat, k ≤ 4 ∧ i = .int .i64 k ∧ BB wr G 68 (mixTo (byF (x ^^^ y)) (byF x) k) ∧ BB wr (G + 1) 68 [0, 0, 0, 0] ∧ Ext w wr) (fun i _ => 4 - (intOf i).toNat)
  case atStart => exact ⟨0, by omega, rfl, HB.out, HR.out, HX.out⟩
  case round =>
    obtain ⟨k, hk, rfl, hb, hr, hx⟩ := hrel
    by_cases hlt : k < 4
    · have hc := hb.cell k (by rw [mixTo_length]; exact hlt)
      have hf := hb.frozen k
      have hv : bl (mixTo (byF (x ^^^ y)) (byF x) k) k = bw x k := by
        unfold bl; rw [mixTo_get _ _ _ hlt, byF_toNat]
      rw [hv] at hc
      have hs := hb.set_ k (byF (x ^^^ y) k)
      rw [mixTo_set, byF_toNat] at hs
      have hxx := hid (show bits .xor .u8 ((bw x k : Nat) : Int) ((bw y k : Nat) : Int) = (bw (x ^^^ y) k : Nat) by rw [u8x _ _ (bw_lt x k) (bw_lt y k), bw_xor])
      have HS := hid hs
      have hby := w_byte y k
      have hy32 := wlt y
      have HR2 := hid (fun v => hr.setne ⟨G, k, none⟩ v (by simp))
      have HX2 := hid (fun v => hx.setCell (p := ⟨G, k, none⟩) (by have := HGE.out; simp; omega) v)
      have l1 := bw_lt x k
      have l2 := bw_lt y k
      obtain ⟨b1, hb1⟩ : ∃ b1, bw x k = b1 := ⟨_, rfl⟩
      obtain ⟨b2, hb2⟩ : ∃ b2, bw y k = b2 := ⟨_, rfl⟩
      obtain ⟨b3, hb3⟩ : ∃ b3, bw (x ^^^ y) k = b3 := ⟨_, rfl⟩
      rw [hb1] at hc l1 hxx
      rw [hb2] at l2 hby hxx
      rw [hb3] at hxx HS
      clear hb hr hx hs hv hb1 hb2 hb3
      go_wp2_with fail
      rw [hxx.out]
      go_roundw
      case rel => exact ⟨k + 1, by omega, by go_num, HS.out, HR2.out _, HX2.out _⟩
      case measure => simp [intOf]; omega
    · obtain rfl : k = 4 := by omega
      rw [mixTo_full] at hb
      have hL : (byB (x ^^^ y)).length = 4 := by simp [byB]
      have HBB := hid (show BB wr G 68 (byB (x ^^^ y)) from hb)
      have HRR := hid hr
      have HXX := hid (Below.setRow_ hx (show w.heap.size ≤ G + 1 by have := HGE.out; omega) (cellsOf (byB (x ^^^ y))).toArray)
      have HFI := hid (hr.put (byB (x ^^^ y)))
      have HL := hid hL
      obtain ⟨Y, hY⟩ : ∃ Y, byB (x ^^^ y) = Y := ⟨_, rfl⟩
      have HY := hid hY
      rw [hY] at HBB HXX HFI HL
      clear hb hr hx hL hY
      go_wp2_with (first
        | (refine wpList_load_row rfl 68 (.tmp 2) rfl G rfl 68 _ (0, 0) _ HBB.out Tryd.underlying68 rfl (in68 _ HL.out) ?_)
        | (refine wpList_store_row rfl 68 (.tmp 4) (.tmp 22) rfl (G + 1) (cellsOf Y).toArray rfl rfl 68 _ HRR.out (in68 _ HL.out) (by simp [cellsOf, HL.out]) (cells_all Y) ?_))
      (try simp only [Exit.jump])
      exact ret_cell rfl rfl (G + 1) 68 _ (0, 0) rfl HFI.out Tryd.underlying68 (in68 _ HL.out) ⟨by rw [HY.out], HXX.out⟩
end Go.Proofs.YtbdncalllfpodaaDoor
