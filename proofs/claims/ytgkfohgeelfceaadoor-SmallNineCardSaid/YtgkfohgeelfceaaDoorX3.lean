/- Walks over the steps of the program, and over what the reference's XTEA lays; own lemmas of the verifier, no statement is proved here. -/
import Derived.Test.YtgkfohgeelfceaaDoorX2
import Derived.Laws.Rows
import Derived.Laws.Tables
namespace Go.Proofs.YtgkfohgeelfceaaDoor
open Go.RowKit
set_option maxHeartbeats 1000000 in
theorem made_any (t : T3) (v u k : UInt32) (w : World) (hG : GRows w) :
    Calls Tryd.prog 51 #[.int .i64 t.code, .int .u32 (v.toNat : Nat), .int .u32 (u.toNat : Nat), .int .u32 (k.toNat : Nat)] w fun e w' => e = .returned (.int .u32 ((madeW t v u k).toNat : Nat)) ∧ w = w' := by
  have h1 := wlt v
  have h2 := wlt u
  have h3 := wlt k
  have HG := hid hG
  clear hG
  cases t
  · show Calls Tryd.prog 51 #[.int .i64 4, _, _, _] w _
    have hr := w_add v (mixW u k)
    go_enter Tryd.func51, Tryd.ntmps51
    go_wp2_with (go_at_call 61; refine (mix_any u k _).mono ?_; rintro e w' ⟨rfl, rfl⟩)
    go_ret
    exact ⟨ret_int rfl, rfl⟩
  · show Calls Tryd.prog 51 #[.int .i64 5, _, _, _] w _
    have hr := w_xor v (gW u k)
    go_enter Tryd.func51, Tryd.ntmps51
    go_wp2_with (go_at_call 21; refine (g_any u k _ HG.out).mono ?_; rintro e w' ⟨rfl, rfl⟩)
    go_ret
    exact ⟨ret_int rfl, rfl⟩
  · show Calls Tryd.prog 51 #[.int .i64 8, _, _, _] w _
    have hx := w_xor v u
    have hr := w_add (rolI (v ^^^ u) (u.toNat % 32 : Nat)) k
    go_enter Tryd.func51, Tryd.ntmps51
    go_wp2_with (first
      | (go_at_call 48; refine (turnOf_any u _).mono ?_; rintro e w' ⟨rfl, rfl⟩)
      | (go_at_call 42; refine (rol_w (v ^^^ u) (u.toNat % 32 : Nat) _).mono ?_; rintro e w' ⟨rfl, rfl⟩))
    go_ret
    exact ⟨ret_int rfl, rfl⟩
set_option maxHeartbeats 1000000 in
theorem unmade_any (t : T3) (v u k : UInt32) (w : World) (hG : GRows w) :
    Calls Tryd.prog 50 #[.int .i64 t.code, .int .u32 (v.toNat : Nat), .int .u32 (u.toNat : Nat), .int .u32 (k.toNat : Nat)] w fun e w' => e = .returned (.int .u32 ((unmadeW t v u k).toNat : Nat)) ∧ w = w' := by
  have h1 := wlt v
  have h2 := wlt u
  have h3 := wlt k
  have HG := hid hG
  clear hG
  cases t
  · show Calls Tryd.prog 50 #[.int .i64 4, _, _, _] w _
    have hr := w_sub v (mixW u k)
    go_enter Tryd.func50, Tryd.ntmps50
    go_wp2_with (go_at_call 61; refine (mix_any u k _).mono ?_; rintro e w' ⟨rfl, rfl⟩)
    go_ret
    exact ⟨ret_int hr, rfl⟩
  · show Calls Tryd.prog 50 #[.int .i64 5, _, _, _] w _
    have hr := w_xor v (gW u k)
    go_enter Tryd.func50, Tryd.ntmps50
    go_wp2_with (go_at_call 21; refine (g_any u k _ HG.out).mono ?_; rintro e w' ⟨rfl, rfl⟩)
    go_ret
    exact ⟨ret_int rfl, rfl⟩
  · show Calls Tryd.prog 50 #[.int .i64 8, _, _, _] w _
    have hx := w_sub v k
    have hr := w_xor (rolI (v - k) (-((u.toNat % 32 : Nat) : Int))) u
    go_enter Tryd.func50, Tryd.ntmps50
    go_wp2_with (first
      | (go_at_call 48; refine (turnOf_any u _).mono ?_; rintro e w' ⟨rfl, rfl⟩)
      | (go_at_call 42; refine (rol_w (v - k) (-((u.toNat % 32 : Nat) : Int)) _).mono ?_; rintro e w' ⟨rfl, rfl⟩))
    go_ret
    exact ⟨ret_int (by rw [Int.natCast_emod] at hr; exact hr), rfl⟩
theorem cell_of_heap {w : World} {g i : Nat} {cs : Array Value} {e : TypeId} {f : Nat × Nat} (h : w.heap[g]? = some (.cells cs e f)) : w.cell? ⟨g, i, none⟩ = cs[i]? := cell_of_row w g i cs e f h
theorem cell_at {w w' : World} {p : Addr} {v : Value} (hx : Ext w w') (h : w.cell? p = some v) : w'.cell? p = some v := (Below.cell hx (World.block_lt_of_cell? w _ h)).trans h
/-- A word, as a value. -/
def vW (x : UInt32) : Value := .int .u32 (x.toNat : Nat)
/-- Two words, as an array. -/
def W2.cells (x : W2) : Array Value := #[.int .u32 (x.a.toNat : Nat), .int .u32 (x.b.toNat : Nat)]
theorem W2.size (x : W2) : (Tryd.prog.info? 58).map (·.size) = some x.cells.size := by
  have h : (Tryd.prog.info? 58).map (·.size) = some 2 := by kernel_rfl
  rw [h]; rfl
theorem W2.all (x : W2) : x.cells.all (·.oneCell') = true := by simp [W2.cells, Value.oneCell']
def B2 (w : World) (g : Nat) (x : W2) : Prop := w.heap[g]? = some (.cells x.cells 58 (0, 0))
section
variable {w w' : World} {g : Nat} {x : W2}
theorem B2.lt (h : B2 w g x) : g < w.heap.size := (Array.getElem?_eq_some_iff.1 h).1
theorem B2.later (h : B2 w g x) (hx : Ext w w') : B2 w' g x := (hx.block g h.lt).trans h
theorem B2.ca (h : B2 w g x) : w.cell? ⟨g, 0, none⟩ = some (.int .u32 (x.a.toNat : Nat)) := by rw [cell_of_heap h]; rfl
theorem B2.cb (h : B2 w g x) : w.cell? ⟨g, 1, none⟩ = some (.int .u32 (x.b.toNat : Nat)) := by rw [cell_of_heap h]; rfl
theorem B2.frozen (h : B2 w g x) (k : Nat) : w.frozen? ⟨g, k, none⟩ = false := frozen_of_row w g k _ 58 h
theorem B2.set0 (h : B2 w g x) (v : UInt32) : B2 (w.setCell ⟨g, 0, none⟩ (.int .u32 (v.toNat : Nat))) g ⟨v, x.b⟩ := heap_setCell_same w g 0 _ 58 _ h
theorem B2.set1 (h : B2 w g x) (v : UInt32) : B2 (w.setCell ⟨g, 1, none⟩ (.int .u32 (v.toNat : Nat))) g ⟨x.a, v⟩ := heap_setCell_same w g 1 _ 58 _ h
theorem B2.setne (h : B2 w g x) (p : Addr) (v : Value) (hne : g ≠ p.block) : B2 (w.setCell p v) g x := (heap_setCell_other w p g v hne).trans h
theorem B2.put (h : B2 w g x) (y : W2) : B2 (w.setRow g y.cells) g y := setRow_heap w g _ _ 58 (0, 0) h
theorem B2.putne (h : B2 w g x) (k : Nat) (cs : Array Value) (hne : g ≠ k) : B2 (w.setRow k cs) g x := (setRow_other w k g cs hne).trans h
end
theorem ret_cell {fn : Func} {R : Ending → World → Prop} {a : Act} {w : World} {p : Tmp} {ty e : TypeId} {N : Nat} (hres : fn.results = #[.cell p ty]) (hd : a.defers = []) (g : Nat) (t : TypeId) (cs : Array Value) (fr : Nat × Nat)
    (hp : a.tmps.getD p undef = .pointer (some ⟨g, 0, none⟩)) (hg : w.heap[g]? = some (.cells cs t fr)) (hu : Tryd.prog.underlying ty = some (.array N e))
    (hi : (Tryd.prog.info? ty).map (·.size) = some cs.size) (h : R (.returned (.agg cs)) w) :
    bodyPost Tryd.prog fn R .ret a w := bodyPost_ret (results_cell_row hres _ _ g t cs fr _ hp hg hu rfl hi) hd h
/-- What a function on two words hands back. -/
def Ret2 (w : World) (y : W2) (e : Ending) (w' : World) : Prop := e = .returned (.agg y.cells) ∧ Ext w w'
set_option maxRecDepth 100000 in
set_option maxHeartbeats 1000000 in
theorem crossed_any (t : T3) (x : W2) (w : World) :
    Calls Tryd.prog 49 #[.int .i64 t.code, .agg x.cells] w (Ret2 w (crs t x)) := by
  obtain ⟨a, b⟩ := x
  have hx : ∀ y : W2, Ext w ((w.alloc (.cells y.cells 58)).alloc (.cells y.cells 58)) := fun y => (Ext.alloc w (.cells y.cells 58)).trans (Ext.alloc _ (.cells y.cells 58))
  have hh : ∀ y : W2, ((w.alloc (.cells y.cells 58)).alloc (.cells y.cells 58)).heap[w.heap.size + 1]? = some (.cells y.cells 58 (0, 0)) := fun y => heap_alloc2_new _ _ _
  have HX := hid hx
  have HH := hid hh
  clear hx hh
  cases t
  · show Calls Tryd.prog 49 #[.int .i64 4, .agg #[.int .u32 (a.toNat : Nat), .int .u32 (b.toNat : Nat)]] w _
    go_enter Tryd.func49, Tryd.ntmps49
    go_wp2_with fail
    exact ret_cell rfl rfl (w.heap.size + 1) 58 _ (0, 0) rfl (HH.out ⟨a, b⟩) Tryd.underlying58 (W2.size _) ⟨rfl, HX.out ⟨a, b⟩⟩
  · show Calls Tryd.prog 49 #[.int .i64 5, .agg #[.int .u32 (a.toNat : Nat), .int .u32 (b.toNat : Nat)]] w _
    go_enter Tryd.func49, Tryd.ntmps49
    go_wp2_with fail
    exact ret_cell rfl rfl (w.heap.size + 1) 58 _ (0, 0) rfl (HH.out ⟨b, a⟩) Tryd.underlying58 (W2.size _) ⟨rfl, HX.out ⟨b, a⟩⟩
  · show Calls Tryd.prog 49 #[.int .i64 8, .agg #[.int .u32 (a.toNat : Nat), .int .u32 (b.toNat : Nat)]] w _
    go_enter Tryd.func49, Tryd.ntmps49
    go_wp2_with fail
    exact ret_cell rfl rfl (w.heap.size + 1) 58 _ (0, 0) rfl (HH.out ⟨a, b⟩) Tryd.underlying58 (W2.size _) ⟨rfl, HX.out ⟨a, b⟩⟩
end Go.Proofs.YtgkfohgeelfceaaDoor
