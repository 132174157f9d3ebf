/- What the listed package-level variables give the walks, and the door's own heap; own lemmas of the verifier, no statement is proved here. -/
import Derived.Test.YtbdncalllfpodaaDoorX1
import Derived.Test.YtbdncalllfpodaaDoorRows
import Derived.Test.YtbdncalllfpodaaDoorTie
import Derived.ProofKit
import Derived.LaidMore
import Derived.OpenShut
import Derived.Stop.Joined
namespace Go.Proofs.YtbdncalllfpodaaDoor
open Go.ChangeShapes Go.WideShapes Go.ChangeAt Go.RowKit
theorem gT0 : Tryd.prog.globalNamed "scrim/twofish.rows" = some 0 := by kernel_rfl
theorem gT1 : Tryd.prog.globalNamed "scrim/twofish.shrinkRows" = some 1 := by kernel_rfl
theorem gT2 : Tryd.prog.globalNamed "scrim/twofish.orders" = some 2 := by kernel_rfl
theorem gT3 : Tryd.prog.globalNamed "scrim/twofish.mixRows" = some 3 := by kernel_rfl
theorem tT0 : (Tryd.prog.globals[0]?).map (·.type) = some 63 := by kernel_rfl
theorem tT1 : (Tryd.prog.globals[1]?).map (·.type) = some 83 := by kernel_rfl
theorem tT2 : (Tryd.prog.globals[2]?).map (·.type) = some 86 := by kernel_rfl
theorem tT3 : (Tryd.prog.globals[3]?).map (·.type) = some 72 := by kernel_rfl
/-- The door's own heap meets the condition: three closed facts. -/
theorem door_met (os : Os) (args : Array Value) : laidMetH Tryd.prog Rows.twofishKeysRow.laid ((World.doorLaid Tryd.prog 400 os).forCall (fun _ _ => 0) ⟨#[], args, []⟩).memory :=
  laidMetH_of_parts3 (fuel := 8) (laidMet_of_run' 8 (by kernel_rfl) (by kernel_rfl)) (by kernel_rfl) (by kernel_rfl)
def rowD (kd : IntKind) (row : List Nat) : List (DataW Unit) := row.map fun n => .lit (.int kd (n : Nat))
def tabD (kd : IntKind) (rows : List (List Nat)) : List (DataW Unit) := rows.map fun row => .agg (rowD kd row)
theorem d0_is : (Rows.laid_scrim_twofish_rows : DataW Unit) = .agg (tabD .u64 rowsN) := rfl
theorem d1_is : (Rows.laid_scrim_twofish_shrinkRows : DataW Unit) = .agg (tabD .u8 shrsN) := rfl
theorem d2_is : (Rows.laid_scrim_twofish_orders : DataW Unit) = .agg (tabD .i64 ordsN) := rfl
theorem d3_is : (Rows.laid_scrim_twofish_mixRows : DataW Unit) = .agg (tabD .u8 mixsN) := rfl
section
variable {enc : TypeId × Value → Unit} {W : World} {base : Nat} {spare : Nat → Bool} {held : Bool} {fuel : Nat} {cs : List Value} {x : DataW Unit × List MemPlace}
theorem getD_eq {α : Type} (l : List α) (d : α) (i : Nat) (h : i < l.length) : l.getD i d = l[i] := by simp [List.getD, h]
theorem nested {ty te tk : TypeId} {N M : Nat} {kd : IntKind} {rows : List (List Nat)} (hu : Tryd.prog.underlying ty = some (.array N te)) (hue : Tryd.prog.underlying te = some (.array M tk)) (huk : Tryd.prog.underlying tk = some (.int kd))
    (ce : Tryd.prog.cellsOf te = M) (ck : Tryd.prog.cellsOf tk = 1) (hN : rows.length = N) (hM : ∀ i, i < N → (rows.getD i []).length = M)
    (h : DataW.trod enc Tryd.prog W base spare held fuel ty cs = some x) (hx : x.1 = .agg (tabD kd rows)) : ∀ i, i < N → ∀ r, r < M → cs[i * M + r]? = some (.int kd (((rows.getD i []).getD r 0 : Nat) : Int)) := by
  obtain ⟨xs, m1, rfl, rfl, hlen, hn3, hel⟩ := DataW.trod_array hu h
  rw [ce] at hel
  have hx2 : xs.map (·.1) = tabD kd rows := DataW.agg.inj hx
  intro i hi r hr
  have hi1 : i < xs.length := by omega
  have h0 := hel i hi
  rw [List.getElem?_eq_getElem hi1] at h0
  obtain ⟨ys, m2, rfl, hy1, hylen, hy3, hey⟩ := DataW.trod_array hue h0
  rw [ck] at hey
  have hib : i < rows.length := by omega
  have hxi : (xs[i]).1 = .agg (rowD kd (rows.getD i [])) := by
    have e3 : (xs.map (·.1))[i]? = some (xs[i]).1 := by rw [List.getElem?_map, List.getElem?_eq_getElem hi1]; rfl
    rw [hx2] at e3
    have e4 : (tabD kd rows)[i]? = some (.agg (rowD kd (rows.getD i []))) := by
      unfold tabD
      rw [List.getElem?_map, List.getElem?_eq_getElem hib, getD_eq _ _ _ hib]; rfl
    rw [e4] at e3
    exact (Option.some.inj e3).symm
  have hy2 : ys.map (·.1) = rowD kd (rows.getD i []) := by
    rw [hy1] at hxi
    exact DataW.agg.inj hxi
  have hr1 : r < ys.length := by omega
  have h1 := hey r hr
  rw [List.getElem?_eq_getElem hr1] at h1
  obtain ⟨k, e1, e2, _⟩ := DataW.trod_int huk h1
  have e3 : (ys.map (·.1))[r]? = some (.lit (.int kd k)) := by
    rw [List.getElem?_map, List.getElem?_eq_getElem hr1, e2]; rfl
  rw [hy2] at e3
  have hrr : r < (rows.getD i []).length := by rw [hM i hi]; exact hr
  have e4 : (rowD kd (rows.getD i []))[r]? = some (.lit (.int kd (((rows.getD i []).getD r 0 : Nat) : Int))) := by
    unfold rowD
    rw [List.getElem?_map, List.getElem?_eq_getElem hrr, getD_eq _ _ _ hrr]; rfl
  rw [e4] at e3
  have e5 : k = (((rows.getD i []).getD r 0 : Nat) : Int) := by
    have := Option.some.inj e3
    simp only [DataW.lit.injEq, Lit.int.injEq, true_and] at this
    exact this.symm
  subst e5
  have e6 := congrArg (fun l => l[0]?) e1
  simp only [Nat.mul_one, List.getElem?_take, List.getElem?_drop] at e6
  have e7 : r < M ∧ cs[i * M + r]? = some (.int kd (((rows.getD i []).getD r 0 : Nat) : Int)) := by simpa using e6
  exact e7.2
end
theorem shape0 : rowsN.length = 2 ∧ ∀ i, i < 2 → (rowsN.getD i []).length = 4 := by decide
theorem shape1 : shrsN.length = 4 ∧ ∀ i, i < 4 → (shrsN.getD i []).length = 8 := by decide
theorem shape2 : ordsN.length = 5 ∧ ∀ i, i < 5 → (ordsN.getD i []).length = 4 := by decide
theorem shape3 : mixsN.length = 4 ∧ ∀ i, i < 4 → (mixsN.getD i []).length = 4 := by decide
theorem gt_of_laid {W : World} (h : laidMetH Tryd.prog Rows.twofishKeysRow.laid W) : GT W := by
  rw [MakeChecks.laidMetH_plain _ _ _ (by kernel_rfl)] at h
  obtain ⟨ps, ⟨g0, t0, cs0, f0, p0, q0, hg0, ht0, hv0, hd0, ⟨g1, t1, cs1, f1, p1, q1, hg1, ht1, hv1, hd1, ⟨g2, t2, cs2, f2, p2, q2, hg2, ht2, hv2, hd2, ⟨g3, t3, cs3, f3, p3, q3, hg3, ht3, hv3, hd3, _, _⟩, _⟩, _⟩, _⟩, _, _⟩ := h
  obtain rfl := Option.some.inj (gT0.symm.trans hg0)
  obtain rfl := Option.some.inj (tT0.symm.trans ht0)
  obtain rfl := Option.some.inj (gT2.symm.trans hg1)
  obtain rfl := Option.some.inj (tT2.symm.trans ht1)
  obtain rfl := Option.some.inj (gT3.symm.trans hg2)
  obtain rfl := Option.some.inj (tT3.symm.trans ht2)
  obtain rfl := Option.some.inj (gT1.symm.trans hg3)
  obtain rfl := Option.some.inj (tT1.symm.trans ht3)
  have n0 := nested (kd := .u64) (rows := rowsN) Tryd.underlying63 Tryd.underlying62 Tryd.underlying45 (by kernel_rfl) (by kernel_rfl) shape0.1 shape0.2 hd0 d0_is
  have n2 := nested (kd := .i64) (rows := ordsN) Tryd.underlying86 Tryd.underlying71 Tryd.underlying3 (by kernel_rfl) (by kernel_rfl) shape2.1 shape2.2 hd1 d2_is
  have n3 := nested (kd := .u8) (rows := mixsN) Tryd.underlying72 Tryd.underlying68 Tryd.underlying5 (by kernel_rfl) (by kernel_rfl) shape3.1 shape3.2 hd2 d3_is
  have n1 := nested (kd := .u8) (rows := shrsN) Tryd.underlying83 Tryd.underlying82 Tryd.underlying5 (by kernel_rfl) (by kernel_rfl) shape1.1 shape1.2 hd3 d1_is
  refine ⟨fun q hq i hi => ?_, fun j hj => ?_, fun l hl i hi => ?_, fun j hj => ?_⟩
  · rw [World.var?_cell hg0 hv0, ← Array.getElem?_toList]
    exact n0 q hq i hi
  · rw [World.var?_cell hg3 hv3, ← Array.getElem?_toList]
    have := n1 (j / 8) (by omega) (j % 8) (by omega)
    rw [show j / 8 * 8 + j % 8 = j by omega] at this
    exact this
  · rw [World.var?_cell hg1 hv1, ← Array.getElem?_toList]
    exact n2 l hl i hi
  · rw [World.var?_cell hg2 hv2, ← Array.getElem?_toList]
    have := n3 (j / 4) (by omega) (j % 4) (by omega)
    rw [show j / 4 * 4 + j % 4 = j by omega] at this
    exact this
end Go.Proofs.YtbdncalllfpodaaDoor
