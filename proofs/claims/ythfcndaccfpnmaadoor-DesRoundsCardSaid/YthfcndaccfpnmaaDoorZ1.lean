/- What the listed package-level variable gives the walks, and the door's own heap; own lemmas of the verifier, no statement is proved here. -/
import Derived.Test.YthfcndaccfpnmaaDoorX17
import Derived.Test.YthfcndaccfpnmaaDoorRows
import Derived.Test.YthfcndaccfpnmaaDoorTie
import Derived.ProofKit
import Derived.LaidMore
import Derived.OpenShut
import Derived.Stop.Joined
namespace Go.Proofs.YthfcndaccfpnmaaDoor
open Go.ChangeShapes Go.WideShapes Go.ChangeAt Go.RowKit
theorem gBox : Tryd.prog.globalNamed (Rows.desKeysRow.named.headD default) = some 0 := by kernel_rfl
theorem tBox : (Tryd.prog.globals[0]?).map (·.type) = some 63 := by kernel_rfl
/-- The door's own heap meets the condition: three closed facts. -/
theorem door_met (os : Os) (args : Array Value) : laidMetH Tryd.prog Rows.desKeysRow.laid ((World.doorLaid Tryd.prog 400 os).forCall (fun _ _ => 0) ⟨#[], args, []⟩).memory :=
  laidMetH_of_parts3 (fuel := 8) (laidMet_of_run' 8 (by kernel_rfl) (by kernel_rfl)) (by kernel_rfl) (by kernel_rfl)
def rowD (row : List Nat) : List (DataW Unit) := row.map fun n => .lit (.int .u64 (n : Nat))
def boxD : List (DataW Unit) := boxT.map fun row => .agg (rowD row)
theorem boxD_is : (Rows.laid_scrim_des_boxes : DataW Unit) = .agg boxD := rfl
theorem boxT_rows : boxT.length = 8 ∧ ∀ i, i < 8 → (boxT.getD i []).length = 4 := by decide
theorem boxes_of_laid {W : World} (h : laidMetH Tryd.prog Rows.desKeysRow.laid W) : Boxes W := by
  rw [MakeChecks.laidMetH_plain _ _ _ (by kernel_rfl)] at h
  obtain ⟨ps, ⟨g0, t0, cs0, f0, p0, q0, hg0, ht0, hv0, hd0, _, _⟩, _, _⟩ := h
  obtain rfl := Option.some.inj (gBox.symm.trans hg0)
  obtain rfl := Option.some.inj (tBox.symm.trans ht0)
  obtain ⟨xs, m1, rfl, hx1, hlen, hn3, hel⟩ := DataW.trod_array Tryd.underlying63 hd0
  have c60 : Tryd.prog.cellsOf 60 = 1 := by kernel_rfl
  have c62 : Tryd.prog.cellsOf 62 = 4 := by kernel_rfl
  rw [c62] at hel
  simp only [Prod.mk.injEq] at hx1
  have hx2 : xs.map (·.1) = boxD := by
    have := hx1.1
    rw [boxD_is] at this
    exact (DataW.agg.inj this).symm
  intro i hi r hr
  have hi1 : i < xs.length := by omega
  have h0 := hel i hi
  rw [List.getElem?_eq_getElem hi1] at h0
  obtain ⟨ys, m2, rfl, hy1, hylen, hy3, hey⟩ := DataW.trod_array Tryd.underlying62 h0
  rw [c60] at hey
  have hib : i < boxT.length := by rw [boxT_rows.1]; exact hi
  have hxi : (xs[i]).1 = .agg (rowD (boxT.getD i [])) := by
    have e3 : (xs.map (·.1))[i]? = some (xs[i]).1 := by rw [List.getElem?_map, List.getElem?_eq_getElem hi1]; rfl
    rw [hx2] at e3
    have e4 : boxD[i]? = some (.agg (rowD (boxT.getD i []))) := by
      unfold boxD
      rw [List.getElem?_map, List.getElem?_eq_getElem hib, getD_eq _ _ _ hib]; rfl
    rw [e4] at e3
    exact (Option.some.inj e3).symm
  have hy2 : ys.map (·.1) = rowD (boxT.getD i []) := by
    rw [hy1] at hxi
    exact DataW.agg.inj hxi
  have hr1 : r < ys.length := by omega
  have h1 := hey r hr
  rw [List.getElem?_eq_getElem hr1] at h1
  obtain ⟨k, e1, e2, _⟩ := DataW.trod_int Tryd.underlying60 h1
  have e3 : (ys.map (·.1))[r]? = some (.lit (.int .u64 k)) := by
    rw [List.getElem?_map, List.getElem?_eq_getElem hr1, e2]; rfl
  rw [hy2] at e3
  have hrr : r < (boxT.getD i []).length := by rw [boxT_rows.2 i hi]; exact hr
  have e4 : (rowD (boxT.getD i []))[r]? = some (.lit (.int .u64 (boxW i r : Nat))) := by
    unfold rowD boxW
    rw [List.getElem?_map, List.getElem?_eq_getElem hrr, getD_eq _ _ _ hrr]; rfl
  rw [e4] at e3
  have e5 : k = ((boxW i r : Nat) : Int) := by
    have := Option.some.inj e3
    simpa using this.symm
  subst e5
  have e6 := congrArg (fun l => l[0]?) e1
  simp only [Nat.mul_one, List.getElem?_take, List.getElem?_drop] at e6
  have := World.var?_cell hg0 hv0 (i * 4 + r)
  rw [this]
  have e7 : r < 4 ∧ cs0[i * 4 + r]? = some (.int .u64 (boxW i r : Nat)) := by simpa using e6
  exact e7.2
end Go.Proofs.YthfcndaccfpnmaaDoor
