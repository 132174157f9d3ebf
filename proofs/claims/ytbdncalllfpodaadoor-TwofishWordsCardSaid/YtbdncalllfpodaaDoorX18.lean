/- Walks over crossed and xored; own lemmas of the verifier, no statement is proved here. -/
import Derived.Test.YtbdncalllfpodaaDoorX17
namespace Go.Proofs.YtbdncalllfpodaaDoor
open Go.RowKit
/-- Four words, as an array. -/
def W4.cells (x : W4) : Array Value := #[.int .u32 (x.a.toNat : Nat), .int .u32 (x.b.toNat : Nat), .int .u32 (x.c.toNat : Nat), .int .u32 (x.d.toNat : Nat)]
theorem W4.size (x : W4) : (Tryd.prog.info? 77).map (·.size) = some x.cells.size := by
  have h : (Tryd.prog.info? 77).map (·.size) = some 4 := by kernel_rfl
  rw [h]; rfl
theorem W4.all (x : W4) : x.cells.all (·.oneCell') = true := by simp [W4.cells, Value.oneCell']
def V4 (w : World) (g : Nat) (x : W4) : Prop := w.heap[g]? = some (.cells x.cells 77 (0, 0))
section
variable {w w' : World} {g : Nat} {x : W4}
theorem V4.lt (h : V4 w g x) : g < w.heap.size := (Array.getElem?_eq_some_iff.1 h).1
theorem V4.later (h : V4 w g x) (hx : Ext w w') : V4 w' g x := (hx.block g h.lt).trans h
theorem V4.c0 (h : V4 w g x) : w.cell? ⟨g, 0, none⟩ = some (.int .u32 (x.a.toNat : Nat)) := by rw [cell_of_row _ _ _ _ _ _ h]; rfl
theorem V4.c1 (h : V4 w g x) : w.cell? ⟨g, 1, none⟩ = some (.int .u32 (x.b.toNat : Nat)) := by rw [cell_of_row _ _ _ _ _ _ h]; rfl
theorem V4.c2 (h : V4 w g x) : w.cell? ⟨g, 2, none⟩ = some (.int .u32 (x.c.toNat : Nat)) := by rw [cell_of_row _ _ _ _ _ _ h]; rfl
theorem V4.c3 (h : V4 w g x) : w.cell? ⟨g, 3, none⟩ = some (.int .u32 (x.d.toNat : Nat)) := by rw [cell_of_row _ _ _ _ _ _ h]; rfl
theorem V4.frozen (h : V4 w g x) (k : Nat) : w.frozen? ⟨g, k, none⟩ = false := frozen_of_row w g k _ 77 h
theorem V4.put (h : V4 w g x) (y : W4) : V4 (w.setRow g y.cells) g y := setRow_heap w g _ _ 77 (0, 0) h
theorem V4.setne (h : V4 w g x) (p : Addr) (v : Value) (hne : g ≠ p.block) : V4 (w.setCell p v) g x := (heap_setCell_other w p g v hne).trans h
theorem V4.putne (h : V4 w g x) (k : Nat) (cs : Array Value) (hne : g ≠ k) : V4 (w.setRow k cs) g x := (setRow_other w k g cs hne).trans h
end
def RetV (w : World) (y : W4) (e : Ending) (w' : World) : Prop := e = .returned (.agg y.cells) ∧ Ext w w'
theorem build77 (a b c d : UInt32) (w : World) : (Instr.build 77 #[(0, .int .u32 (a.toNat : Nat)), (1, .int .u32 (b.toNat : Nat)), (2, .int .u32 (c.toNat : Nat)), (3, .int .u32 (d.toNat : Nat))]).run Tryd.prog w = .ok (.agg (W4.mk a b c d).cells) w := by kernel_rfl
def W4.at (r : W4) (j : Nat) : UInt32 := [r.a, r.b, r.c, r.d].getD j 0
/-- The first j words exored. -/
def W4.xorN (r : W4) (k : List UInt32) (o j : Nat) : W4 := ⟨if 0 < j then r.a ^^^ k.getD o 0 else r.a, if 1 < j then r.b ^^^ k.getD (o + 1) 0 else r.b, if 2 < j then r.c ^^^ k.getD (o + 2) 0 else r.c, if 3 < j then r.d ^^^ k.getD (o + 3) 0 else r.d⟩
theorem W4.xorN_zero (r : W4) (k : List UInt32) (o : Nat) : r.xorN k o 0 = r := rfl
theorem W4.xorN_full (r : W4) (k : List UInt32) (o : Nat) : r.xorN k o 4 = r.xor k o := rfl
theorem W4.xorN_at (r : W4) (k : List UInt32) (o j : Nat) (hj : j < 4) : (r.xorN k o j).cells[j]? = some (.int .u32 ((r.at j).toNat : Nat)) := by
  rcases (show j = 0 ∨ j = 1 ∨ j = 2 ∨ j = 3 by omega) with rfl | rfl | rfl | rfl <;> rfl
theorem W4.xorN_set (r : W4) (k : List UInt32) (o j : Nat) (hj : j < 4) : (r.xorN k o j).cells.setIfInBounds j (.int .u32 ((r.at j ^^^ k.getD (o + j) 0).toNat : Nat)) = (r.xorN k o (j + 1)).cells := by
  rcases (show j = 0 ∨ j = 1 ∨ j = 2 ∨ j = 3 by omega) with rfl | rfl | rfl | rfl <;> rfl
set_option maxRecDepth 100000 in
set_option maxHeartbeats 1000000 in
theorem crossed_any (x : W4) (w : World) :
    Calls Tryd.prog 47 #[.agg x.cells] w (RetV w x.cross) := by
  obtain ⟨a, b, c, d⟩ := x
  have hx : Ext w ((w.alloc (.cells (W4.mk a b c d).cells 77)).alloc (.cells (W4.mk c d a b).cells 77)) := (Ext.alloc w _).trans (Ext.alloc _ _)
  have hh : ((w.alloc (.cells (W4.mk a b c d).cells 77)).alloc (.cells (W4.mk c d a b).cells 77)).heap[w.heap.size + 1]? = some (.cells (W4.mk c d a b).cells 77 (0, 0)) := heap_alloc2_new _ _ _
  have HX := hid hx
  have HH := hid hh
  clear hx hh
  show Calls Tryd.prog 47 #[.agg #[.int .u32 (a.toNat : Nat), .int .u32 (b.toNat : Nat), .int .u32 (c.toNat : Nat), .int .u32 (d.toNat : Nat)]] w _
  go_enter Tryd.func47, Tryd.ntmps47
  go_wp2_with fail
  exact ret_cell rfl rfl (w.heap.size + 1) 77 _ (0, 0) rfl HH.out Tryd.underlying77 (W4.size _) ⟨rfl, HX.out⟩
def xrK (j G p q n c : Nat) (y k z : UInt32) : List K := [.eq (.int .i64 j), .eq (.pointer (some ⟨G, j, none⟩)), .eq (.int .u32 (y.toNat : Nat)), .eq (.slice (some ⟨p, q, none⟩) n c), .eq (.int .i64 j), .eq (.pointer (some ⟨p, q + j, none⟩)), .eq (.int .u32 (k.toNat : Nat)), .eq (.int .u32 (z.toNat : Nat)), .eq (.pointer (some ⟨G, j, none⟩)), .any]
set_option maxRecDepth 100000 in
set_option maxHeartbeats 4000000 in
theorem xored_any (x : W4) (p q n c o : Nat) (ks : List UInt32) (w : World) (hn : 4 ≤ n) (hk : ∀ i, i < 4 → w.cell? ⟨p, q + i, none⟩ = some (.int .u32 ((ks.getD (o + i) 0).toNat : Nat))) :
    Calls Tryd.prog 48 #[.agg x.cells, .slice (some ⟨p, q, none⟩) n c] w (RetV w (x.xor ks o)) := by
  have h1 := heap_alloc2_old w (.cells x.cells 77) (.cells #[.int .u32 0, .int .u32 0, .int .u32 0, .int .u32 0] 77)
  have h2 := heap_alloc2_new w (.cells x.cells 77) (.cells #[.int .u32 0, .int .u32 0, .int .u32 0, .int .u32 0] 77)
  have h3 := (Ext.alloc w (.cells x.cells 77)).trans (Ext.alloc _ (.cells #[.int .u32 0, .int .u32 0, .int .u32 0, .int .u32 0] 77))
  have HKW := hid hk
  have HN := hid hn
  clear hk hn
  go_enter Tryd.func48, Tryd.ntmps48
  go_wp2_with fail
  obtain ⟨W1, hW1⟩ : ∃ W1, (w.alloc (.cells x.cells 77)).alloc (.cells #[.int .u32 0, .int .u32 0, .int .u32 0, .int .u32 0] 77) = W1 := ⟨_, rfl⟩
  rw [hW1] at h1 h2 h3 ⊢
  obtain ⟨G, hG⟩ : ∃ G, w.heap.size = G := ⟨_, rfl⟩
  rw [hG] at h1 h2 ⊢
  have HGE := hid hG
  have HB := hid (show V4 W1 G (x.xorN ks o 0) from h1)
  have HR := hid (show V4 W1 (G + 1) ⟨0, 0, 0, 0⟩ from h2)
  have HX := hid h3
  clear h1 h2 h3 hW1 hG
  go_loopw [6] (fun i wr => ∃ j : Nat, j ≤ 4 ∧ i = .int .i64 j ∧ V4 wr G (x.xorN ks o j) ∧ V4 wr (G + 1) ⟨0, 0, 0, 0⟩ ∧ Ext w wr) (fun i _ => 4 - (intOf i).toNat)
  case atStart => exact ⟨0, by omega, rfl, HB.out, HR.out, HX.out⟩
  case round =>
    obtain ⟨j, hj, rfl, hb, hr, hx⟩ := hrel
    by_cases hlt : j < 4
    · have hcy : wr.cell? ⟨G, j, none⟩ = some (.int .u32 ((x.at j).toNat : Nat)) := by rw [cell_of_row _ _ _ _ _ _ hb]; exact W4.xorN_at x ks o j hlt
      have hck := cell_at hx (HKW.out j hlt)
      have hset := W4.xorN_set x ks o j hlt
      obtain ⟨y, hy⟩ : ∃ y, x.at j = y := ⟨_, rfl⟩
      obtain ⟨k, hke⟩ : ∃ k, ks.getD (o + j) 0 = k := ⟨_, rfl⟩
      rw [hy] at hcy hset
      rw [hke] at hck hset
      have hxz := w_xor y k
      obtain ⟨z, hz⟩ : ∃ z, y ^^^ k = z := ⟨_, rfl⟩
      rw [hz] at hset hxz
      have HCY := hid hcy
      have HCK := hid hck
      have HXZ := hid hxz
      have HSET := hid hset
      have HJ4 := hid hlt
      have HB := hid hb
      have HR := hid hr
      have HX := hid hx
      clear hcy hck hset hxz hz hke hy hb hr hx
      go_wp2_with fail
      refine region_upto 9 mixed rfl (by kernel_rfl) (by kernel_rfl) (by kernel_rfl) (kV (xrK j G p q n c y k z)) (kV_keep _) (forall_ops ⟨?_, ?_, ?_, ?_, ?_, ?_, ?_, ?_, ?_, trivial⟩) ?_
      · intro a w hk
        have s5 : a.tmps.getD 5 undef = .int .i64 j := hk.was 5 (by kernel_rfl) rfl
        exact step_move rfl rfl s5 rfl
      · intro a w hk
        have s2 : a.tmps.getD 2 undef = .pointer (some ⟨G, 0, none⟩) := hk.was 2 (by kernel_rfl) rfl
        have s9 := hk.eq_ 0 9 (by kernel_rfl) rfl
        refine step_val (v := .pointer (some ⟨G, j, none⟩)) (w' := w) rfl ?_ (Ext.refl w) rfl
        have hj4 : (j : Int) < 4 := by have := HJ4.out; omega
        go_simp
      · intro a w hk
        have s10 := hk.eq_ 1 10 (by kernel_rfl) rfl
        refine step_val (v := .int .u32 (y.toNat : Nat)) (w' := w) rfl ?_ (Ext.refl w) rfl
        have hc := cell_at hk.ext HCY.out
        go_simp
      · intro a w hk
        have s1 : a.tmps.getD 1 undef = .slice (some ⟨p, q, none⟩) n c := hk.was 1 (by kernel_rfl) rfl
        exact step_move rfl rfl s1 rfl
      · intro a w hk
        have s5 : a.tmps.getD 5 undef = .int .i64 j := hk.was 5 (by kernel_rfl) rfl
        exact step_move rfl rfl s5 rfl
      · intro a w hk
        have s12 := hk.eq_ 3 12 (by kernel_rfl) rfl
        have s13 := hk.eq_ 4 13 (by kernel_rfl) rfl
        refine step_val (v := .pointer (some ⟨p, q + j, none⟩)) (w' := w) rfl ?_ (Ext.refl w) rfl
        have hjn : (j : Int) < n := by have := HJ4.out; have := HN.out; omega
        go_simp
      · intro a w hk
        have s14 := hk.eq_ 5 14 (by kernel_rfl) rfl
        refine step_val (v := .int .u32 (k.toNat : Nat)) (w' := w) rfl ?_ (Ext.refl w) rfl
        have hc := cell_at hk.ext HCK.out
        go_simp
      · intro a w hk
        have s11 := hk.eq_ 2 11 (by kernel_rfl) rfl
        have s15 := hk.eq_ 6 15 (by kernel_rfl) rfl
        refine step_val (v := .int .u32 (z.toNat : Nat)) (w' := w) rfl ?_ (Ext.refl w) rfl
        have hz := HXZ.out
        go_simp
      · intro a w hk
        have s2 : a.tmps.getD 2 undef = .pointer (some ⟨G, 0, none⟩) := hk.was 2 (by kernel_rfl) rfl
        have s9 := hk.eq_ 0 9 (by kernel_rfl) rfl
        refine step_val (v := .pointer (some ⟨G, j, none⟩)) (w' := w) rfl ?_ (Ext.refl w) rfl
        have hj4 : (j : Int) < 4 := by have := HJ4.out; omega
        go_simp
      · intro a w1 hf
        have s9 := hf.eq_ 0 9 (by kernel_rfl) rfl
        have s10 := hf.eq_ 1 10 (by kernel_rfl) rfl
        have s11 := hf.eq_ 2 11 (by kernel_rfl) rfl
        have s12 := hf.eq_ 3 12 (by kernel_rfl) rfl
        have s13 := hf.eq_ 4 13 (by kernel_rfl) rfl
        have s14 := hf.eq_ 5 14 (by kernel_rfl) rfl
        have s15 := hf.eq_ 6 15 (by kernel_rfl) rfl
        have s16 := hf.eq_ 7 16 (by kernel_rfl) rfl
        have s17 := hf.eq_ 8 17 (by kernel_rfl) rfl
        have hx := hf.ext
        have e := hf.frame
        clear hf
        simp only [List.take_succ_cons, List.take_zero, regFrame, Act.put, List.setIfInBounds_toArray, List.set_cons_zero, List.set_cons_succ, s9, s10, s11, s12, s13, s14, s15, s16, s17] at e
        clear s9 s10 s11 s12 s13 s14 s15 s16 s17
        subst e
        simp only [List.drop_succ_cons, List.drop_zero]
        have hB := HB.out.later hx
        have hf := hB.frozen j
        have hc := cell_at hx HCY.out
        have HS := hid (show V4 (w1.setCell ⟨G, j, none⟩ (.int .u32 (z.toNat : Nat))) G (x.xorN ks o (j + 1)) by
          have := heap_setCell_same w1 G j _ 77 (.int .u32 (z.toNat : Nat)) hB
          rw [HSET.out] at this
          exact this)
        have HR2 := hid ((HR.out.later hx).setne ⟨G, j, none⟩ (.int .u32 (z.toNat : Nat)) (by simp))
        have HX2 := hid ((HX.out.trans hx).setCell (p := ⟨G, j, none⟩) (by have := HGE.out; simp; omega) (.int .u32 (z.toNat : Nat)))
        clear hx hB
        go_wp2_with fail
        go_roundw
        case rel => exact ⟨j + 1, by omega, by go_num, HS.out, HR2.out, HX2.out⟩
        case measure => simp [intOf]; omega
    · obtain rfl : j = 4 := by omega
      rw [W4.xorN_full] at hb
      have HB := hid hb
      have HR := hid hr
      have HFI := hid (hr.put (x.xor ks o))
      have HXX := hid (Below.setRow_ hx (show w.heap.size ≤ G + 1 by have := HGE.out; omega) (x.xor ks o).cells)
      clear hb hr hx
      go_wp2_with (first
        | (refine wpList_load_row rfl 77 (.tmp 2) rfl G rfl 77 _ (0, 0) _ HB.out Tryd.underlying77 rfl (W4.size _) ?_)
        | (refine wpList_store_row rfl 77 (.tmp 4) (.tmp 19) rfl (G + 1) (x.xor ks o).cells rfl rfl 77 _ HR.out (W4.size _) rfl (W4.all _) ?_))
      (try simp only [Exit.jump])
      exact ret_cell rfl rfl (G + 1) 77 _ (0, 0) rfl HFI.out Tryd.underlying77 (W4.size _) ⟨rfl, HXX.out⟩
end Go.Proofs.YtbdncalllfpodaaDoor
