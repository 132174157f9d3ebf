/- Words for arrays of bytes in memory, whole or within a block; own lemmas of the verifier, no statement is proved here. -/
import Derived.Test.YtpfkcplldhdipaaDoorP1
import Derived.Deep.MidRow
import Derived.Laws.Cover3
namespace Go.Proofs.YtpfkcplldhdipaaDoor
open Go.RowKit
/-- An array of bytes, as a value. -/
def bv (bs : List UInt8) : Value := .agg (cellsOf bs).toArray
/-- Bytes that lie in block g from o on, and may be written. -/
structure RW (w : World) (g o : Nat) (bs : List UInt8) : Prop where
  rd : w.rangeAt g o (cellsOf bs)
  wr : w.there g o bs.length
theorem RW.lt {w : World} {g o : Nat} {bs : List UInt8} (h : RW w g o bs) (hp : 0 < bs.length) : g < w.heap.size := by
  have := h.rd 0 _ (cellsOf_get bs 0 hp)
  exact World.block_lt_of_cell? w _ this
theorem RW.keep {w w' : World} {g o : Nat} {bs : List UInt8} (h : RW w g o bs) (hk : w'.heap[g]? = w.heap[g]?) : RW w' g o bs := by
  have hc : ∀ k, w'.cell? ⟨g, k, none⟩ = w.cell? ⟨g, k, none⟩ := fun k => by simp [World.cell?, hk]
  have hf : ∀ k, w'.frozen? ⟨g, k, none⟩ = w.frozen? ⟨g, k, none⟩ := fun k => by simp [World.frozen?, hk]
  exact ⟨fun j v hv => (hc _).trans (h.rd j v hv), fun j hj => by rw [hc, hf]; exact h.wr j hj⟩
theorem RW.below {w w' : World} {B g o : Nat} {bs : List UInt8} (h : RW w g o bs) (hx : Below B w w') (hg : g < B) : RW w' g o bs :=
  h.keep (hx.block g hg)
theorem RW.later {w w' : World} {g o : Nat} {bs : List UInt8} (h : RW w g o bs) (hp : 0 < bs.length) (hx : Ext w w') : RW w' g o bs := h.below hx (h.lt hp)
theorem rangeAt_cut {w : World} {g o : Nat} {bs : List UInt8} (h : w.rangeAt g o (cellsOf bs)) (k n : Nat) (_hk : k + n ≤ bs.length) : w.rangeAt g (o + k) (cellsOf ((bs.drop k).take n)) := by
  intro j v hv
  have e : cellsOf ((bs.drop k).take n) = ((cellsOf bs).drop k).take n := by simp [cellsOf, List.map_drop, List.map_take]
  rw [e, List.getElem?_take] at hv
  split at hv
  · rw [List.getElem?_drop] at hv
    have := h (k + j) v hv
    rwa [Nat.add_assoc]
  · cases hv
theorem RW.cut {w : World} {g o : Nat} {bs : List UInt8} (h : RW w g o bs) (k n : Nat) (hk : k + n ≤ bs.length) : RW w g (o + k) ((bs.drop k).take n) :=
  ⟨rangeAt_cut h.rd k n hk, fun j hj => by
    have := h.wr (k + j) (by simp at hj; omega)
    rwa [Nat.add_assoc]⟩
theorem RW.cell {w : World} {g o : Nat} {bs : List UInt8} (h : RW w g o bs) (k : Nat) (hk : k < bs.length) : w.cell? ⟨g, o + k, none⟩ = some (.int .u8 (byteAt bs k)) := h.rd k _ (cellsOf_get bs k hk)
theorem RW.free {w : World} {g o : Nat} {bs : List UInt8} (h : RW w g o bs) (k : Nat) (hk : k < bs.length) : w.frozen? ⟨g, o + k, none⟩ = false := (h.wr k hk).2
/-- A new block. -/
theorem RW.of_block {w : World} {g : Nat} {t : TypeId} {bs : List UInt8} (h : w.heap[g]? = some (.cells (cellsOf bs).toArray t (0, 0))) : RW w g 0 bs := by
  have hc : ∀ k, w.cell? ⟨g, 0 + k, none⟩ = (cellsOf bs)[k]? := fun k => by rw [Nat.zero_add, cell_of_row w g k _ t _ h]; simp
  refine ⟨fun j v hv => (hc j).trans hv, fun j hj => ⟨?_, ?_⟩⟩
  · rw [hc, cellsOf_get bs j hj]; rfl
  · exact frozen_of_row w g _ _ t h
theorem RW.new (w : World) (t : TypeId) (bs : List UInt8) : RW (w.alloc (.cells (cellsOf bs).toArray t)) w.heap.size 0 bs := RW.of_block (heap_alloc_new w _)
/-- Bytes laid into others, from k on. -/
def lay (bs : List UInt8) (k : Nat) (cs : List UInt8) : List UInt8 := (List.range bs.length).map fun i => if k ≤ i ∧ i < k + cs.length then cs.getD (i - k) 0 else bs.getD i 0
theorem lay_length (bs : List UInt8) (k : Nat) (cs : List UInt8) : (lay bs k cs).length = bs.length := by simp [lay]
theorem cellsOf_getD (bs : List UInt8) (k : Nat) (h : k < bs.length) : (cellsOf bs)[k]? = some (.int .u8 ((bs.getD k 0).toNat : Int)) := cellsOf_get bs k h
theorem lay_getD (bs : List UInt8) (k : Nat) (cs : List UInt8) (i : Nat) (hi : i < bs.length) : (lay bs k cs).getD i 0 = if k ≤ i ∧ i < k + cs.length then cs.getD (i - k) 0 else bs.getD i 0 := by
  simp only [lay, List.getD_eq_getElem?_getD, List.getElem?_map, List.getElem?_range hi, Option.map_some, Option.getD_some]
theorem lay_all (bs cs : List UInt8) (h : cs.length = bs.length) : lay bs 0 cs = cs := by
  apply List.ext_getElem
  · rw [lay_length, h]
  · intro i h1 h2
    simp only [lay, List.getElem_map, List.getElem_range]
    rw [if_pos ⟨Nat.zero_le _, by omega⟩, Nat.sub_zero, List.getD_eq_getElem?_getD, List.getElem?_eq_getElem h2]; rfl
theorem RW.store {w : World} {g o : Nat} {bs : List UInt8} (h : RW w g o bs) (k : Nat) (cs : List UInt8) (hk : k + cs.length ≤ bs.length) : RW (w.setCells g (o + k) (cellsOf cs)) g o (lay bs k cs) := by
  have hl := lay_length bs k cs
  refine ⟨fun j v hv => ?_, ?_⟩
  · have hj : j < bs.length := by
      have := (List.getElem?_eq_some_iff.1 hv).1
      rw [cellsOf_length, hl] at this; exact this
    rw [cellsOf_getD _ _ (by omega), lay_getD _ _ _ _ hj] at hv
    cases hv
    by_cases hc : k ≤ j ∧ j < k + cs.length
    · rw [if_pos hc]
      have hs := World.cell?_setCells_in g (cellsOf cs) (o + k) w (fun i hi => by
        have := (h.wr (k + i) (by rw [cellsOf_length] at hi; omega)).1
        rwa [← Nat.add_assoc] at this) (j - k) (by rw [cellsOf_length]; omega)
      rw [show o + k + (j - k) = o + j by omega] at hs
      rw [hs]
      have := cellsOf_getD cs (j - k) (by omega)
      rw [List.getElem?_eq_getElem (by rw [cellsOf_length]; omega)] at this
      exact this
    · rw [if_neg hc, World.cell?_setCells_out g (cellsOf cs) (o + k) w ⟨g, o + j, none⟩ (fun _ _ => by
        rw [cellsOf_length]
        show o + j < o + k ∨ o + k + cs.length ≤ o + j
        omega)]
      exact h.rd j _ (cellsOf_getD bs j hj)
  · rw [hl]; exact World.there_setCells h.wr g (o + k) (cellsOf cs)
theorem RW.store0 {w : World} {g : Nat} {bs : List UInt8} (h : RW w g 0 bs) (cs : List UInt8) (hk : cs.length = bs.length) : RW (w.setCells g 0 (cellsOf cs)) g 0 cs := by
  have := h.store 0 cs (by omega)
  rw [lay_all bs cs hk] at this
  exact this
theorem RW.apart {w : World} {g o : Nat} {bs : List UInt8} (h : RW w g o bs) (g' o' : Nat) (vs : List Value) (ha : g ≠ g') : RW (w.setCells g' o' vs) g o bs :=
  ⟨World.rangeAt_setCells_apart h.rd g' o' vs (.inl ha), World.there_setCells h.wr g' o' vs⟩
/-- One byte stored. -/
theorem RW.set_ {w : World} {g o : Nat} {bs : List UInt8} (h : RW w g o bs) (k : Nat) (hk : k < bs.length) (x : UInt8) : RW (w.setCell ⟨g, o + k, none⟩ (.int .u8 (x.toNat : Int))) g o (bs.set k x) := by
  obtain ⟨old, hold⟩ := Option.isSome_iff_exists.1 (h.wr k hk).1
  have hf : ∀ a : Addr, (w.setCell ⟨g, o + k, none⟩ (.int .u8 (x.toNat : Int))).frozen? a = w.frozen? a := fun a => World.frozen?_setCells g [.int .u8 (x.toNat : Int)] (o + k) w a
  refine ⟨fun j v hv => ?_, fun j hj => ?_⟩
  · have hj : j < bs.length := by
      have := (List.getElem?_eq_some_iff.1 hv).1
      rw [cellsOf_length, List.length_set] at this; exact this
    rw [cellsOf_getD _ _ (by rw [List.length_set]; exact hj)] at hv
    cases hv
    by_cases e : k = j
    · subst e
      rw [World.cell?_setCell_same _ _ _ hold]
      simp [hj]
    · rw [World.cell?_setCell_other _ _ _ _ (by simp)]
      rw [h.rd j _ (cellsOf_getD bs j hj)]
      simp [e]
  · rw [hf]
    refine ⟨?_, (h.wr j (by simpa using hj)).2⟩
    exact World.isSome_setCells g [.int .u8 (x.toNat : Int)] (o + k) w _ (h.wr j (by simpa using hj)).1
theorem RW.apart1 {w : World} {g o : Nat} {bs : List UInt8} (h : RW w g o bs) (a : Addr) (v : Value) (ha : g ≠ a.block) : RW (w.setCell a v) g o bs :=
  h.keep (heap_setCell_other w a g v ha)
theorem below_setCells {B b : Nat} {a : World} (hb : B ≤ b) : ∀ (vs : List Value) (o : Nat) (w : World), Below B a w → Below B a (w.setCells b o vs)
  | [], _, _, h => h
  | _ :: vs, o, _, h => below_setCells hb vs (o + 1) _ (h.setCell (p := ⟨b, o, none⟩) hb _)
theorem RW.drew {w : World} {g o : Nat} {bs : List UInt8} (h : RW w g o bs) : RW w.drew g o bs := ⟨h.rd, h.wr⟩
theorem RW.drewN {w : World} {g o : Nat} {bs : List UInt8} (h : RW w g o bs) (n : Nat) : RW (w.drewN n) g o bs := ⟨h.rd, h.wr⟩
/-- Bytes in a row, as a slice that reads them. -/
theorem RW.slice {w : World} {g o n B : Nat} {bs : List UInt8} (h : RW w g o bs) (hn : bs.length = n) (hg : g < B) : Rd w B (some ⟨g, o, none⟩) n bs :=
  ⟨hn, fun _ => ⟨g, o, rfl, hg, fun k hk => h.cell k (by omega)⟩⟩
/-- Bytes read whole, wherever they lie. -/
theorem rangeAt_of_rd {w : World} {B n b o : Nat} {bs : List UInt8} (h : Rd w B (some ⟨b, o, none⟩) n bs) : w.rangeAt b o (cellsOf bs) := fun j v hv => by
  have hj : j < n := by
    have := (List.getElem?_eq_some_iff.1 hv).1
    rw [cellsOf_length, h.len] at this; exact this
  obtain ⟨b', o', e, _, hc⟩ := h.at_ (by omega)
  cases e
  rw [hc j hj]
  rw [cellsOf_get bs j (by rw [h.len]; exact hj)] at hv
  exact hv
theorem cells_all' (bs : List UInt8) : (cellsOf bs).toArray.all (·.oneCell') = true := cells_all bs
/-- Sizes. -/
theorem size55 : (Tryd.prog.info? 55).map (·.size) = some 16 := by kernel_rfl
theorem size73 : (Tryd.prog.info? 73).map (·.size) = some 64 := by kernel_rfl
theorem size50 : (Tryd.prog.info? 50).map (·.size) = some 1024 := by kernel_rfl
theorem size83 : (Tryd.prog.info? 83).map (·.size) = some 112 := by kernel_rfl
theorem size82 : (Tryd.prog.info? 82).map (·.size) = some 7 := by kernel_rfl
theorem size55' {bs : List UInt8} (h : bs.length = 16) : (Tryd.prog.info? 55).map (·.size) = some (cellsOf bs).length := by rw [size55, cellsOf_length, h]
theorem size55a {bs : List UInt8} (h : bs.length = 16) : (Tryd.prog.info? 55).map (·.size) = some (cellsOf bs).toArray.size := by rw [size55' h]; simp
theorem size73' {bs : List UInt8} (h : bs.length = 64) : (Tryd.prog.info? 73).map (·.size) = some (cellsOf bs).length := by rw [size73, cellsOf_length, h]
theorem size50' {bs : List UInt8} (h : bs.length = 1024) : (Tryd.prog.info? 50).map (·.size) = some (cellsOf bs).length := by rw [size50, cellsOf_length, h]
theorem size83' {bs : List UInt8} (h : bs.length = 112) : (Tryd.prog.info? 83).map (·.size) = some (cellsOf bs).length := by rw [size83, cellsOf_length, h]
theorem size82' {bs : List UInt8} (h : bs.length = 7) : (Tryd.prog.info? 82).map (·.size) = some (cellsOf bs).length := by rw [size82, cellsOf_length, h]
/-- A result that lies in a block. -/
theorem ret_mid {fn : Func} {R : Ending → World → Prop} {a : Act} {w : World} {p : Tmp} {ty e : TypeId} {N : Nat} (hres : fn.results = #[.cell p ty]) (hd : a.defers = []) (g : Nat) (bs : List UInt8)
    (hp : a.tmps.getD p undef = .pointer (some ⟨g, 0, none⟩)) (hg : w.rangeAt g 0 (cellsOf bs)) (hu : Tryd.prog.underlying ty = some (.array N e))
    (hi : (Tryd.prog.info? ty).map (·.size) = some (cellsOf bs).length) (h : R (.returned (bv bs)) w) :
    bodyPost Tryd.prog fn R .ret a w := by
  refine bodyPost_ret (v := bv bs) ?_ hd h
  have hp' : a.tmps[p]?.getD undef = .pointer (some ⟨g, 0, none⟩) := by simpa using hp
  have hl := run_loadVar_mid (P := Tryd.prog) w g 0 ty (cellsOf bs) _ hg hu rfl hi
  simp [results, hres, hp', asAddr, hl, bv]
/-- A load in a drawn region. -/
theorem exec_load_mid {o : Oper} {a : Act} {w : World} {ty : TypeId} {t : Tmp} {g k : Nat} {bs : List UInt8} {N : Nat} {e : TypeId} (ho : o.op = .load ty (.tmp t)) (ht : a.tmps.getD t undef = .pointer (some ⟨g, k, none⟩)) (hc : w.rangeAt g k (cellsOf bs))
    (hu : Tryd.prog.underlying ty = some (.array N e)) (hi : (Tryd.prog.info? ty).map (·.size) = some (cellsOf bs).length) :
    (execOp a.eval o).run Tryd.prog w = .ok (.value (bv bs)) w := by
  have h := run_loadAt_mid (P := Tryd.prog) w g k ty (cellsOf bs) _ hc hu rfl hi
  unfold execOp
  simp only [ho, Act.eval, ht, Sem.run_bind, h, Sem.run_pure, Result.andThen, bv]
/-- A slice read as an array. -/
theorem wpList_atp {ops : Array Oper} {rest : List Oper} {o : Oper} {a : Act} {w : World} {Q : Exit → Act → World → Prop} (hgd : o.guard = none) (arr e : TypeId) (n : Nat) (x : Operand) (ho : o.op = .sliceToArrayPointer arr x)
    (A : Option Addr) (len cap : Nat) (hx : a.eval x = .slice A len cap) (hu : Tryd.prog.underlying arr = some (.array n e)) (hn : n ≤ len)
    (h : wpList Tryd.prog ops Q rest (a.put o.dst (.pointer A)) w) : wpList Tryd.prog ops Q (o :: rest) a w :=
  wpList_plain hgd fun K hK => by
    have hk := hK _ _ h
    clear hK h
    unfold Oper.wp execOp
    simp only [ho, hx, Sem.run_bind, run_arrayAt w arr e n A len cap hu hn, Result.andThen_ok, Sem.run_pure]
    exact hk
theorem exec_atp {o : Oper} {a : Act} {w : World} {arr e : TypeId} {n : Nat} {t : Tmp} {A : Option Addr} {len cap : Nat} (ho : o.op = .sliceToArrayPointer arr (.tmp t)) (ht : a.tmps.getD t undef = .slice A len cap)
    (hu : Tryd.prog.underlying arr = some (.array n e)) (hn : n ≤ len) : (execOp a.eval o).run Tryd.prog w = .ok (.value (.pointer A)) w := by
  unfold execOp
  simp only [ho, Act.eval, ht, Sem.run_bind, run_arrayAt w arr e n A len cap hu hn, Sem.run_pure, Result.andThen]
/-- Loads and stores of arrays of bytes at a plain region. -/
theorem wpList_ld {ops : Array Oper} {rest : List Oper} {o : Oper} {a : Act} {w : World} {Q : Exit → Act → World → Prop} (hgd : o.guard = none) (ty : TypeId) (x : Operand) (ho : o.op = .load ty x)
    (g k : Nat) (hx : a.eval x = .pointer (some ⟨g, k, none⟩)) (bs : List UInt8) {N : Nat} {e : TypeId} (hc : w.rangeAt g k (cellsOf bs))
    (hu : Tryd.prog.underlying ty = some (.array N e)) (hi : (Tryd.prog.info? ty).map (·.size) = some (cellsOf bs).length)
    (h : wpList Tryd.prog ops Q rest (a.put o.dst (.agg (cellsOf bs).toArray)) w) : wpList Tryd.prog ops Q (o :: rest) a w :=
  wpList_load_mid hgd ty x ho g k hx (cellsOf bs) _ hc hu rfl hi h
theorem wpList_st {ops : Array Oper} {rest : List Oper} {o : Oper} {a : Act} {w : World} {Q : Exit → Act → World → Prop} (hgd : o.guard = none) (ty : TypeId) (x y : Operand) (ho : o.op = .store ty x y)
    (g k : Nat) (bs : List UInt8) (hx : a.eval x = .pointer (some ⟨g, k, none⟩)) (hy : a.eval y = .agg (cellsOf bs).toArray)
    (ht : w.there g k bs.length) (hi : (Tryd.prog.info? ty).map (·.size) = some (cellsOf bs).length)
    (h : wpList Tryd.prog ops Q rest (a.put o.dst undef) (w.setCells g k (cellsOf bs))) : wpList Tryd.prog ops Q (o :: rest) a w :=
  wpList_store_mid hgd ty x y ho g k (cellsOf bs).toArray hx hy (by simpa [cellsOf_length] using ht) (by rw [hi]; simp) (cells_all bs) h
/-- A store at a drawn region's end. -/
theorem wp_store_arr {o : Oper} {a : Act} {w : World} {K : Act → World → Prop} {Q : Exit → Act → World → Prop} (ty : TypeId) (x y : Operand) (ho : o.op = .store ty x y) (hd : o.dst = none)
    (g k : Nat) (bs : List UInt8) (hx : a.eval x = .pointer (some ⟨g, k, none⟩)) (hy : a.eval y = bv bs)
    (ht : w.there g k bs.length) (hi : (Tryd.prog.info? ty).map (·.size) = some (cellsOf bs).length)
    (h : K a (w.setCells g k (cellsOf bs))) : o.wp Tryd.prog a w K Q := by
  refine wp_store_mid ty x y ho g k (cellsOf bs).toArray hx hy (by simpa [cellsOf_length] using ht) (by rw [hi]; simp) (cells_all bs) ?_
  rw [hd]
  exact h
end Go.Proofs.YtpfkcplldhdipaaDoor
