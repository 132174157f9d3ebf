/- Tables and rows of tables in memory; own lemmas of the verifier, no statement is proved here. -/
import Derived.Test.YtakfndhknoleaaaB6
namespace Go.Proofs.Ytakfndhknoleaaa
open Go.RowKit
theorem wf_of {x : Int} (h0 : -9223372036854775808 ≤ x) (h1 : x ≤ 9223372036854775807) : (Lit.int .i64 x).wf = true := by
  simp [Lit.wf, IntKind.min, IntKind.max, IntKind.bits, IntKind.signed]; omega
/-- A table that a call may be handed. -/
def Tab (w : World) (A : Option Addr) (n c : Nat) (ts : List Int) : Prop :=
  RdN .i64 w w.heap.size A n ts ∧ n ≤ c ∧ n ≤ 1000 ∧ ∀ j, j < n → (Lit.int .i64 (ts.getD j 0)).wf = true
theorem Tab.later {w w' : World} {A : Option Addr} {n c : Nat} {ts : List Int} (h : Tab w A n c ts) (hx : Ext w w') : Tab w' A n c ts := ⟨h.1.later hx, h.2⟩
/-- A row of k tables. -/
def Tabs (w : World) (L k : Nat) : Prop := L < w.heap.size ∧ ∀ i, i < k → ∃ A n c ts, w.cell? ⟨L, i, none⟩ = some (.slice A n c) ∧ Tab w A n c ts
theorem Tabs.later {w w' : World} {L k : Nat} (h : Tabs w L k) (hx : Ext w w') : Tabs w' L k :=
  ⟨Nat.lt_of_lt_of_le h.1 (Below.size hx), fun i hi => by
    obtain ⟨A, n, c, ts, h1, h2⟩ := h.2 i hi
    exact ⟨A, n, c, ts, (Below.cell hx (p := ⟨L, i, none⟩) h.1).trans h1, h2.later hx⟩⟩
theorem cell_of_heap {w : World} {g i : Nat} {cs : Array Value} {e : TypeId} {f : Nat × Nat} (h : w.heap[g]? = some (.cells cs e f)) : w.cell? ⟨g, i, none⟩ = cs[i]? := by simp [World.cell?, h]
theorem Tabs.lit (w : World) (vs : List Value) (k : Nat) (h : ∀ i, i < k → ∃ A n c ts, vs[i]? = some (.slice A n c) ∧ Tab w A n c ts) : Tabs (w.alloc (.cells vs.toArray 23)) w.heap.size k := by
  refine ⟨by simp, fun i hi => ?_⟩
  obtain ⟨A, n, c, ts, h1, h2⟩ := h i hi
  refine ⟨A, n, c, ts, ?_, h2.later (Ext.alloc _ _)⟩
  rw [cell_of_heap (heap_alloc_new w (.cells vs.toArray 23))]
  simpa using h1
theorem getD_of_all {ts : List Int} {P : Int → Prop} (h : ∀ t ∈ ts, P t) {j : Nat} (hj : j < ts.length) : P (ts.getD j 0) := by
  apply h
  simp [List.getD, List.getElem?_eq_getElem hj]
theorem one_rd (w : World) (x : Int) : RdN .i64 (w.alloc (.cells #[.int .i64 x] 3)) (w.alloc (.cells #[.int .i64 x] 3)).heap.size (some ⟨w.heap.size, 0, none⟩) 1 [x] := by
  have hLt := OwnN.lit (e := 3) w [x] #[.int .i64 x] 1 w.heap.size rfl rfl (by unfold maxLen; omega) (Nat.le_refl _)
  obtain ⟨A1, c1, hA, hR, _⟩ := hLt.rdn (n := 1) rfl
  cases hA
  exact hR
end Go.Proofs.Ytakfndhknoleaaa
