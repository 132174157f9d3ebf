/- Words for Keys of the program: an append that tells its block, and what stays; own lemmas of the verifier, no statement is proved here. -/
import Derived.Test.YtbdncalllfpodaaDoorX14
namespace Go.Proofs.YtbdncalllfpodaaDoor
open Go.RowKit Go.Shelf
/-- append of one word to words of its own: where the answer lies. -/
theorem run_app {w : World} {base : Nat} {v : Value} {xs : List Int} {y : Int} {t c : Nat} (ty : TypeId) (hown : OwnN .u32 37 w base v xs) (hn : xs.length ≤ 1000) (hy : w.cell? ⟨t, 0, none⟩ = some (.int .u32 y)) (hb : base ≤ w.heap.size) :
    ∃ v' w', (Builtin.append_ #[24, 24] ty #[v, .slice (some ⟨t, 0, none⟩) 1 c]).run Tryd.prog w = .ok v' w' ∧ OwnN .u32 37 w' base v' (xs ++ [y]) ∧ w.grownBy w' v.ownBlock ∧
      (v'.ownBlock = v.ownBlock ∨ ∃ g, v'.ownBlock = some g ∧ w.heap.size ≤ g) ∧ ∃ g cap, v' = .slice (some ⟨g, 0, none⟩) (xs.length + 1) cap := by
  obtain ⟨i0, hi, hz0, hz1, hz2⟩ := info_parts Tryd.info37
  have hnews : ∀ j u, [Value.int .u32 y][j]? = some u → w.cell? ((⟨t, 0, none⟩ : Addr).add j) = some u := by
    intro j u hu
    match j, hu with
    | 0, hu => rw [add_at]; simp only [List.getElem?_cons_zero, Option.some.injEq] at hu; rw [hy, hu]
  have h1 : ∀ u ∈ [Value.int .u32 y], u.oneCell' = true := by simp [Value.oneCell']
  have hmax : xs.length + 1 ≤ maxLen := by unfold maxLen; omega
  have hby : (xs.length + 1) * 4 ≤ 140737488355328 := by omega
  obtain ⟨v', w', hrun, r1, r2, _⟩ := run_append_own (P := Tryd.prog) w base 24 ty 37 i0 (.int .u32 0) 1 4 Tryd.underlying24 hi hz0 hz1 hz2 rfl (by decide) v xs.length (cN .u32 xs) hown ⟨t, 0, none⟩ 1 c [.int .u32 y] rfl hnews h1 hmax hby hb
  have hO : OwnN .u32 37 w' base v' (xs ++ [y]) := by
    unfold OwnN
    rw [List.length_append, cN_append]
    exact r1
  refine ⟨v', w', hrun, hO, r2, ?_, ownsRow_succ r1⟩
  rcases hown.2 with ⟨rfl, hx0⟩ | ⟨g, cap, cur, rfl, hbg, hg, hnc, hcm, hcs, htake⟩
  · right
    have hx : xs = [] := List.eq_nil_of_length_eq_zero hx0
    subst hx
    obtain ⟨v2, w2, hrun2, q1, _, _⟩ := run_append_own (P := Tryd.prog) w w.heap.size 24 ty 37 i0 (.int .u32 0) 1 4 Tryd.underlying24 hi hz0 hz1 hz2 rfl (by decide) (.slice none 0 0) 0 [] (World.ownsRow_nil w _ 37 1) ⟨t, 0, none⟩ 1 c [.int .u32 y] rfl hnews h1 (by unfold maxLen; omega) (by omega) (Nat.le_refl _)
    have e := hrun.symm.trans hrun2
    simp only [Result.ok.injEq] at e
    obtain ⟨rfl, rfl⟩ := e
    obtain ⟨g, cap, rfl⟩ := ownsRow_succ q1
    exact ⟨g, rfl, (World.ownsRow.lt q1 _ rfl).1⟩
  · by_cases hroom : xs.length + 1 ≤ cap
    · left
      have hfit : xs.length * i0.size + [Value.int .u32 y].length ≤ cur.size := by rw [hz1, hcs]; simp; omega
      have hr := run_append_room (P := Tryd.prog) w 24 ty 37 i0 Tryd.underlying24 hi g xs.length cap cur hg ⟨t, 0, none⟩ 1 c [.int .u32 y] (by rw [hz1]; rfl) hnews h1 hroom hfit
      have e := hrun.symm.trans hr
      simp only [Result.ok.injEq] at e
      rw [e.1]
      rfl
    · right
      obtain ⟨v2, w2, hrun2, q1, _⟩ := run_append_arg_grows (P := Tryd.prog) w 24 ty 37 i0 (.int .u32 0) 1 4 Tryd.underlying24 hi hz0 hz1 hz2 rfl (by decide) ⟨g, 0, none⟩ xs.length cap (cN .u32 xs) (by rw [cN_length]; omega) (fun j u hu => World.ownsRow.cells hown (g := g) rfl j u hu) ⟨t, 0, none⟩ 1 c [.int .u32 y] rfl hnews (by omega) hmax hby
      have e := hrun.symm.trans hrun2
      simp only [Result.ok.injEq] at e
      obtain ⟨rfl, rfl⟩ := e
      obtain ⟨g2, cap2, rfl⟩ := ownsRow_succ q1
      exact ⟨g2, rfl, (World.ownsRow.lt q1 _ rfl).1⟩
theorem wpList_app {w : World} {ops : Array Oper} {rest : List Oper} {o : Oper} {a : Act} {Q : Exit → Act → World → Prop} (hgd : o.guard = none) (s x : Operand)
    (ho : o.op = .call { callee := .builtin .append, args := #[s, x], argTypes := #[24, 24] })
    {base : Nat} {v : Value} {xs : List Int} {y : Int} {t c : Nat} (hs : a.eval s = v) (hown : OwnN .u32 37 w base v xs) (hx : a.eval x = .slice (some ⟨t, 0, none⟩) 1 c) (hn : xs.length ≤ 1000) (hy : w.cell? ⟨t, 0, none⟩ = some (.int .u32 y)) (hb : base ≤ w.heap.size)
    (h : ∀ g cap w', OwnN .u32 37 w' base (.slice (some ⟨g, 0, none⟩) (xs.length + 1) cap) (xs ++ [y]) → w.grownBy w' v.ownBlock → (some g = v.ownBlock ∨ w.heap.size ≤ g) → wpList Tryd.prog ops Q rest (a.put o.dst (.slice (some ⟨g, 0, none⟩) (xs.length + 1) cap)) w') :
    wpList Tryd.prog ops Q (o :: rest) a w := by
  obtain ⟨v', w', hrun, r1, r2, r3, g, cap, rfl⟩ := run_app (c := c) o.type hown hn hy hb
  refine wpList_plain hgd fun K hK' => ?_
  unfold Oper.wp
  simp [execOp, ho, resolve, invoke, builtin, hs, hx, hrun, Result.andThen]
  exact hK' _ _ (h g cap w' r1 r2 (by
    rcases r3 with e | ⟨g2, e, hle⟩
    · exact .inl e
    · simp only [Value.ownBlock, Option.some.injEq] at e
      exact .inr (by omega)))
theorem wp_app {w : World} {o : Oper} {a : Act} {K : Act → World → Prop} {Q : Exit → Act → World → Prop} (s x : Operand)
    (ho : o.op = .call { callee := .builtin .append, args := #[s, x], argTypes := #[24, 24] })
    {base : Nat} {v : Value} {xs : List Int} {y : Int} {t c : Nat} (hs : a.eval s = v) (hown : OwnN .u32 37 w base v xs) (hx : a.eval x = .slice (some ⟨t, 0, none⟩) 1 c) (hn : xs.length ≤ 1000) (hy : w.cell? ⟨t, 0, none⟩ = some (.int .u32 y)) (hb : base ≤ w.heap.size)
    (h : ∀ g cap w', OwnN .u32 37 w' base (.slice (some ⟨g, 0, none⟩) (xs.length + 1) cap) (xs ++ [y]) → w.grownBy w' v.ownBlock → (some g = v.ownBlock ∨ w.heap.size ≤ g) → K (a.put o.dst (.slice (some ⟨g, 0, none⟩) (xs.length + 1) cap)) w') :
    o.wp Tryd.prog a w K Q := by
  obtain ⟨v', w', hrun, r1, r2, r3, g, cap, rfl⟩ := run_app (c := c) o.type hown hn hy hb
  unfold Oper.wp
  simp [execOp, ho, resolve, invoke, builtin, hs, hx, hrun, Result.andThen]
  exact h g cap w' r1 r2 (by
    rcases r3 with e | ⟨g2, e, hle⟩
    · exact .inl e
    · simp only [Value.ownBlock, Option.some.injEq] at e
      exact .inr (by omega))
/-- Nothing has turned but the blocks that X tells. -/
structure Fr (X : Nat → Prop) (W w : World) : Prop where
  os : w.os = W.os
  tape : w.tape = W.tape
  output : w.output = W.output
  size : W.heap.size ≤ w.heap.size
  block : ∀ q, q < W.heap.size → ¬ X q → w.heap[q]? = W.heap[q]?
section
variable {X : Nat → Prop} {W w w' : World}
theorem Fr.refl : Fr X W W := ⟨rfl, rfl, rfl, Nat.le_refl _, fun _ _ _ => rfl⟩
theorem Fr.ext (h : Fr X W w) (hx : Ext w w') : Fr X W w' :=
  ⟨hx.os.trans h.os, hx.tape.trans h.tape, hx.output.trans h.output, Nat.le_trans h.size (Below.size hx), fun q hq hX => (hx.block q (by have := h.size; omega)).trans (h.block q hq hX)⟩
theorem Fr.grown (h : Fr X W w) {row : Option Nat} (hg : w.grownBy w' row) (hr : ∀ r, row = some r → X r ∨ W.heap.size ≤ r) : Fr X W w' :=
  ⟨hg.os.trans h.os, hg.tape.trans h.tape, hg.output.trans h.output, Nat.le_trans h.size hg.size, fun q hq hX => (hg.block q (by have := h.size; omega) (fun e => by rcases hr q e.symm with h1 | h1; exact hX h1; omega)).trans (h.block q hq hX)⟩
theorem Fr.set (h : Fr X W w) {p : Addr} (hp : X p.block) (v : Value) : Fr X W (w.setCell p v) :=
  ⟨h.os, h.tape, h.output, by simpa using h.size, fun q hq hX => (heap_setCell_other w p q v (fun e => hX (by rw [e]; exact hp))).trans (h.block q hq hX)⟩
theorem Fr.boxed (h : Fr X W w) {B : Nat} {t : TypeId} {v : Value} (hb : Boxed W B t v) (hX : ¬ X B) : Boxed w B t v := (h.block B hb.lt hX).trans hb
theorem Fr.own (h : Fr X W w) {kd : IntKind} {e : TypeId} {base : Nat} {v : Value} {xs : List Int} (ho : OwnN kd e W base v xs) (hX : ∀ q, v.ownBlock = some q → ¬ X q) : OwnN kd e w base v xs := by
  refine ⟨ho.1, ?_⟩
  rcases ho.2 with hn | ⟨g, cap, cur, rfl, hbg, hh, r⟩
  · exact .inl hn
  · exact .inr ⟨g, cap, cur, rfl, hbg, (h.block g (Array.getElem?_eq_some_iff.1 hh).1 (hX g rfl)).trans hh, r⟩
theorem Fr.below (h : Fr X W w) {B : Nat} {w0 : World} (hb : Below B w0 W) (hB : B ≤ W.heap.size) (hX : ∀ q, X q → B ≤ q) : Below B w0 w :=
  ⟨h.os.trans hb.os, h.tape.trans hb.tape, h.output.trans hb.output, Nat.le_trans hb.size h.size, fun q hq =>
    (h.block q (by omega) (fun hx => by have := hX q hx; omega)).trans (hb.block q hq)⟩
end
/-- Two slices that do not lie in one block. -/
def Apart (a b : Value) : Prop := ∀ q, a.ownBlock = some q → b.ownBlock ≠ some q
theorem Apart.symm {a b : Value} (h : Apart a b) : Apart b a := fun q hq e => h q e hq
theorem Apart.new {a b : Value} {g n c N : Nat} (h : Apart a b) (hg : some g = a.ownBlock ∨ N ≤ g) (hb : ∀ q, b.ownBlock = some q → q < N) : Apart (.slice (some ⟨g, 0, none⟩) n c) b := fun q hq e => by
  simp only [Value.ownBlock, Option.some.injEq] at hq
  subst hq
  rcases hg with hg | hg
  · exact h _ hg.symm e
  · have := hb _ e; omega
theorem OwnN.lt {kd : IntKind} {e : TypeId} {w : World} {base : Nat} {v : Value} {xs : List Int} (h : OwnN kd e w base v xs) : ∀ q, v.ownBlock = some q → base ≤ q ∧ q < w.heap.size := World.ownsRow.lt h
theorem OwnN.grown {kd : IntKind} {e : TypeId} {w w' : World} {base : Nat} {v u : Value} {xs : List Int} (h : OwnN kd e w base v xs) (hg : w.grownBy w' u.ownBlock) (ha : Apart v u) : OwnN kd e w' base v xs := by
  refine World.ownsRow.kept h hg ?_
  cases hv : v.ownBlock with
  | none => exact .inl rfl
  | some q => exact .inr (fun e => ha q hv e.symm)
theorem OwnN.setBox {kd : IntKind} {e : TypeId} {w : World} {base B : Nat} {v u t : Value} {ty : TypeId} {xs : List Int} (h : OwnN kd e w base v xs) (hb : Boxed w B ty t) (hne : ty ≠ e) : OwnN kd e (w.setCell ⟨B, 0, none⟩ u) base v xs :=
  World.ownsRow.kept h (grownBy_setCell' w B u) (.inr (hb.not_row hne h).symm)
end Go.Proofs.YtbdncalllfpodaaDoor
