/- What the listed package-level variable gives the walks, and the door's own heap; own lemmas of the verifier, no statement is proved here. -/
import Derived.Test.YtgkfohgeelfceaaDoorX6
import Derived.Test.YtgkfohgeelfceaaDoorRows
import Derived.Test.YtgkfohgeelfceaaDoorTie
import Derived.ProofKit
import Derived.LaidMore
import Derived.OpenShut
import Derived.Stop.Joined
namespace Go.Proofs.YtgkfohgeelfceaaDoor
open Go.ChangeShapes Go.WideShapes Go.ChangeAt Go.RowKit
theorem gRows : Tryd.prog.globalNamed (Rows.smallBlocksRow.named.headD default) = some 0 := by kernel_rfl
theorem tRows : (Tryd.prog.globals[0]?).map (·.type) = some 72 := by kernel_rfl
/-- The door's own heap meets the condition: three closed facts. -/
theorem door_met (os : Os) (args : Array Value) : laidMetH Tryd.prog Rows.smallBlocksRow.laid ((World.doorLaid Tryd.prog 400 os).forCall (fun _ _ => 0) ⟨#[], args, []⟩).memory :=
  laidMetH_of_parts3 (fuel := 8) (laidMet_of_run' 8 (by kernel_rfl) (by kernel_rfl)) (by kernel_rfl) (by kernel_rfl)
def rowsD : List (DataW Unit) := rowsN.map fun n => .lit (.int .u64 (n : Nat))
theorem rowsD_is : (Rows.laid_scrim_small_rows : DataW Unit) = .agg rowsD := rfl
theorem rows_of_laid {W : World} (h : laidMetH Tryd.prog Rows.smallBlocksRow.laid W) : GRows W := by
  rw [MakeChecks.laidMetH_plain _ _ _ (by kernel_rfl)] at h
  obtain ⟨ps, ⟨g0, t0, cs0, f0, p0, q0, hg0, ht0, hv0, hd0, _, _⟩, _, _⟩ := h
  obtain rfl := Option.some.inj (gRows.symm.trans hg0)
  obtain rfl := Option.some.inj (tRows.symm.trans ht0)
  obtain ⟨xs, m1, rfl, hx1, hlen, hn3, hel⟩ := DataW.trod_array Tryd.underlying72 hd0
  have c5 : Tryd.prog.cellsOf 50 = 1 := by kernel_rfl
  have c51 : Tryd.prog.cellsOf 72 = 8 := by kernel_rfl
  rw [c5] at hel
  simp only [Prod.mk.injEq] at hx1
  have hx2 : xs.map (·.1) = rowsD := by
    have := hx1.1
    rw [rowsD_is] at this
    exact (DataW.agg.inj this).symm
  have key : ∀ j, j < 8 → cs0[j]? = some (.int .u64 (rowsN.getD j 0 : Nat)) := by
    intro j hj
    have hj1 : j < xs.length := by omega
    have h0 := hel j hj
    rw [List.getElem?_eq_getElem hj1] at h0
    obtain ⟨k, e1, e2, _⟩ := DataW.trod_int Tryd.underlying50 h0
    have e3 : (xs.map (·.1))[j]? = some (.lit (.int .u64 k)) := by
      rw [List.getElem?_map, List.getElem?_eq_getElem hj1, e2]; rfl
    rw [hx2] at e3
    have hjo : j < rowsN.length := hj
    have e4 : rowsD[j]? = some (.lit (.int .u64 (rowsN.getD j 0 : Nat))) := by
      unfold rowsD
      rw [List.getElem?_map, List.getElem?_eq_getElem hjo, getD_eq _ _ _ hjo]; rfl
    rw [e4] at e3
    have e5 : k = ((rowsN.getD j 0 : Nat) : Int) := by
      have := Option.some.inj e3
      simpa using this.symm
    subst e5
    have e6 := congrArg (fun l => l[0]?) e1
    simp only [Nat.mul_one, List.getElem?_take, List.getElem?_drop] at e6
    simpa using e6
  intro j hj
  have := World.var?_cell hg0 hv0 j
  rw [this]
  simpa using key j hj
end Go.Proofs.YtgkfohgeelfceaaDoor
