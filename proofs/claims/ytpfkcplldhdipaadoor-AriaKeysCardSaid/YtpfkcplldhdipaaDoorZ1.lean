/- What the listed package-level variables give the walks, and the door's own heap; own lemmas of the verifier, no statement is proved here. -/
import Derived.Test.YtpfkcplldhdipaaDoorX18
import Derived.Test.YtpfkcplldhdipaaDoorRows
import Derived.Test.YtpfkcplldhdipaaDoorTie
import Derived.ProofKit
import Derived.LaidMore
import Derived.OpenShut
import Derived.Stop.Joined
namespace Go.Proofs.YtpfkcplldhdipaaDoor
open Go.ChangeShapes Go.WideShapes Go.ChangeAt Go.RowKit
theorem g_odd : Tryd.prog.globalNamed "scrim/box.odd" = some 4 := by kernel_rfl
theorem t_odd : (Tryd.prog.globals[4]?).map (·.type) = some 54 := by kernel_rfl
theorem g_rows1 : Tryd.prog.globalNamed "scrim/aria.rows1" = some 0 := by kernel_rfl
theorem t_rows1 : (Tryd.prog.globals[0]?).map (·.type) = some 71 := by kernel_rfl
theorem g_rows2 : Tryd.prog.globalNamed "scrim/aria.rows2" = some 1 := by kernel_rfl
theorem t_rows2 : (Tryd.prog.globals[1]?).map (·.type) = some 71 := by kernel_rfl
theorem g_sev : Tryd.prog.globalNamed "scrim/aria.sevens" = some 3 := by kernel_rfl
theorem t_sev : (Tryd.prog.globals[3]?).map (·.type) = some 83 := by kernel_rfl
theorem g_con : Tryd.prog.globalNamed "scrim/aria.constants" = some 5 := by kernel_rfl
theorem t_con : (Tryd.prog.globals[5]?).map (·.type) = some 102 := by kernel_rfl
theorem g_tur : Tryd.prog.globalNamed "scrim/aria.turns" = some 2 := by kernel_rfl
theorem t_tur : (Tryd.prog.globals[2]?).map (·.type) = some 76 := by kernel_rfl
/-- The door's own heap meets the condition: three closed facts. -/
theorem door_met (os : Os) (args : Array Value) : laidMetH Tryd.prog Rows.ariaKeysRow.laid ((World.doorLaid Tryd.prog 400 os).forCall (fun _ _ => 0) ⟨#[], args, []⟩).memory :=
  laidMetH_of_parts3 (fuel := 8) (laidMet_of_run' 8 (by kernel_rfl) (by kernel_rfl)) (by kernel_rfl) (by kernel_rfl)
def rowD (kd : IntKind) (row : List Nat) : List (DataW Unit) := row.map fun n => .lit (.int kd (n : Nat))
def tabD (kd : IntKind) (rows : List (List Nat)) : List (DataW Unit) := rows.map fun row => .agg (rowD kd row)
def bytI (bs : List UInt8) : List Int := bs.map fun b => ((b.toNat : Nat) : Int)
def oddI : List Int := oddT.map fun (n : Nat) => (n : Int)
def turI : List Int := [-19, -31, 61, 31, 19]
def conN : List (List Nat) := [[5871781006564002452, 18308165927316385504], [7904181063698728992, 18386141011142107824], [15821769039155751280, 226472410124699918]]
theorem d_odd : (Rows.laid_scrim_box_odd : DataW Unit) = .agg (oddI.map fun n => .lit (.int .u8 n)) := rfl
theorem d_rows1 : (Rows.laid_scrim_aria_rows1 : DataW Unit) = .agg ((bytI rows1).map fun n => .lit (.int .u8 n)) := rfl
theorem d_rows2 : (Rows.laid_scrim_aria_rows2 : DataW Unit) = .agg ((bytI rows2).map fun n => .lit (.int .u8 n)) := rfl
theorem d_sev : (Rows.laid_scrim_aria_sevens : DataW Unit) = .agg (tabD .u8 sevT) := rfl
theorem d_con : (Rows.laid_scrim_aria_constants : DataW Unit) = .agg (tabD .u64 conN) := rfl
theorem d_tur : (Rows.laid_scrim_aria_turns : DataW Unit) = .agg (turI.map fun n => .lit (.int .i64 n)) := rfl
section
variable {enc : TypeId × Value → Unit} {W : World} {base : Nat} {spare : Nat → Bool} {held : Bool} {fuel : Nat} {cs : List Value} {x : DataW Unit × List MemPlace}
theorem nested {ty te tk : TypeId} {N M : Nat} {kd : IntKind} {rows : List (List Nat)} (hu : Tryd.prog.underlying ty = some (.array N te)) (hue : Tryd.prog.underlying te = some (.array M tk)) (huk : Tryd.prog.underlying tk = some (.int kd))
    (ce : Tryd.prog.cellsOf te = M) (ck : Tryd.prog.cellsOf tk = 1) (hN : rows.length = N) (hM : ∀ i, i < N → (rows.getD i []).length = M)
    (h : DataW.trod enc Tryd.prog W base spare held fuel ty cs = some x) (hx : x.1 = .agg (tabD kd rows)) : ∀ i, i < N → ∀ r, r < M → cs[i * M + r]? = some (.int kd (((rows.getD i []).getD r 0 : Nat) : Int)) := by
  obtain ⟨xs, m1, rfl, rfl, hlen, hn3, hel⟩ := DataW.trod_array hu h
  rw [ce] at hel
  have hx2 : xs.map (·.1) = tabD kd rows := DataW.agg.inj hx
  intro i hi r hr
  have hi1 : i < xs.length := by omega
  have h0 := hel i hi
  rw [List.getElem?_eq_getElem hi1] at h0
  obtain ⟨ys, m2, rfl, hy1, hylen, hy3, hey⟩ := DataW.trod_array hue h0
  rw [ck] at hey
  have hib : i < rows.length := by omega
  have hxi : (xs[i]).1 = .agg (rowD kd (rows.getD i [])) := by
    have e3 : (xs.map (·.1))[i]? = some (xs[i]).1 := by rw [List.getElem?_map, List.getElem?_eq_getElem hi1]; rfl
    rw [hx2] at e3
    have e4 : (tabD kd rows)[i]? = some (.agg (rowD kd (rows.getD i []))) := by
      unfold tabD
      rw [List.getElem?_map, List.getElem?_eq_getElem hib, getD_eq _ _ _ hib]; rfl
    rw [e4] at e3
    exact (Option.some.inj e3).symm
  have hy2 : ys.map (·.1) = rowD kd (rows.getD i []) := by
    rw [hy1] at hxi
    exact DataW.agg.inj hxi
  have hr1 : r < ys.length := by omega
  have h1 := hey r hr
  rw [List.getElem?_eq_getElem hr1] at h1
  obtain ⟨k, e1, e2, _⟩ := DataW.trod_int huk h1
  have e3 : (ys.map (·.1))[r]? = some (.lit (.int kd k)) := by
    rw [List.getElem?_map, List.getElem?_eq_getElem hr1, e2]; rfl
  rw [hy2] at e3
  have hrr : r < (rows.getD i []).length := by rw [hM i hi]; exact hr
  have e4 : (rowD kd (rows.getD i []))[r]? = some (.lit (.int kd (((rows.getD i []).getD r 0 : Nat) : Int))) := by
    unfold rowD
    rw [List.getElem?_map, List.getElem?_eq_getElem hrr, getD_eq _ _ _ hrr]; rfl
  rw [e4] at e3
  have e5 : k = (((rows.getD i []).getD r 0 : Nat) : Int) := by
    have := Option.some.inj e3
    simp only [DataW.lit.injEq, Lit.int.injEq, true_and] at this
    exact this.symm
  subst e5
  have e6 := congrArg (fun l => l[0]?) e1
  simp only [Nat.mul_one, List.getElem?_take, List.getElem?_drop] at e6
  have e7 : r < M ∧ cs[i * M + r]? = some (.int kd (((rows.getD i []).getD r 0 : Nat) : Int)) := by simpa using e6
  exact e7.2
theorem flat {ty tk : TypeId} {N : Nat} {kd : IntKind} {row : List Int} (hu : Tryd.prog.underlying ty = some (.array N tk)) (huk : Tryd.prog.underlying tk = some (.int kd)) (ck : Tryd.prog.cellsOf tk = 1) (hN : row.length = N)
    (h : DataW.trod enc Tryd.prog W base spare held fuel ty cs = some x) (hx : x.1 = .agg (row.map fun n => .lit (.int kd n))) : ∀ r, r < N → cs[r]? = some (.int kd (row.getD r 0)) := by
  obtain ⟨ys, m1, rfl, rfl, hlen, hn3, hey⟩ := DataW.trod_array hu h
  rw [ck] at hey
  have hy2 : ys.map (·.1) = row.map fun n => .lit (.int kd n) := DataW.agg.inj hx
  intro r hr
  have hr1 : r < ys.length := by omega
  have h1 := hey r hr
  rw [List.getElem?_eq_getElem hr1] at h1
  obtain ⟨k, e1, e2, _⟩ := DataW.trod_int huk h1
  have e3 : (ys.map (·.1))[r]? = some (.lit (.int kd k)) := by
    rw [List.getElem?_map, List.getElem?_eq_getElem hr1, e2]; rfl
  rw [hy2] at e3
  have hrr : r < row.length := by omega
  have e4 : (row.map fun n => (DataW.lit (.int kd n) : DataW Unit))[r]? = some (.lit (.int kd (row.getD r 0))) := by
    rw [List.getElem?_map, List.getElem?_eq_getElem hrr, getD_eq _ _ _ hrr]; rfl
  rw [e4] at e3
  have e5 : k = row.getD r 0 := by
    have := Option.some.inj e3
    simp only [DataW.lit.injEq, Lit.int.injEq, true_and] at this
    exact this.symm
  subst e5
  have e6 := congrArg (fun l => l[0]?) e1
  simp only [Nat.mul_one, List.getElem?_take, List.getElem?_drop] at e6
  have e7 : cs[r]? = some (.int kd (row.getD r 0)) := by simpa using e6
  exact e7
end
theorem shape_sev : sevT.length = 16 ∧ ∀ i, i < 16 → (sevT.getD i []).length = 7 := by decide
theorem shape_con : conN.length = 3 ∧ ∀ i, i < 3 → (conN.getD i []).length = 2 := by decide
theorem range_of {W : World} {g : Nat} {bs : List UInt8} (h : ∀ j, j < bs.length → W.cell? ⟨g, j, none⟩ = some (.int .u8 ((bs.getD j 0).toNat : Int))) : W.rangeAt g 0 (cellsOf bs) := fun j v hv => by
  have hj : j < bs.length := by
    have := (List.getElem?_eq_some_iff.1 hv).1
    rwa [cellsOf_length] at this
  rw [Nat.zero_add, h j hj, ← hv, cellsOf_getD _ _ hj]
theorem bytI_get (bs : List UInt8) (j : Nat) (h : j < bs.length) : (bytI bs).getD j 0 = ((bs.getD j 0).toNat : Int) := by simp [bytI, h]
theorem odd_get : ∀ j < 16, oddI.getD j 0 = ((oddT.getD j 0 : Nat) : Int) := by decide
theorem sevB_get : ∀ p < 112, (sevB.getD p 0).toNat = (sevT.getD (p / 7) []).getD (p % 7) 0 := by decide +kernel
theorem tur_get : ∀ q < 5, turI.getD q 0 = turnT q := by decide
theorem con_get : ∀ j < 3, (((conN.getD j []).getD 0 0 : Nat) : Int) = chi j ∧ (((conN.getD j []).getD 1 0 : Nat) : Int) = clo j := by decide
theorem gk_of_laid {W : World} (h : laidMetH Tryd.prog Rows.ariaKeysRow.laid W) : GK W := by
  rw [MakeChecks.laidMetH_plain _ _ _ (by kernel_rfl)] at h
  obtain ⟨ps, ⟨g0, t0, cs0, f0, p0, q0, hg0, ht0, hv0, hd0, ⟨g1, t1, cs1, f1, p1, q1, hg1, ht1, hv1, hd1, ⟨g2, t2, cs2, f2, p2, q2, hg2, ht2, hv2, hd2, ⟨g3, t3, cs3, f3, p3, q3, hg3, ht3, hv3, hd3, ⟨g4, t4, cs4, f4, p4, q4, hg4, ht4, hv4, hd4, ⟨g5, t5, cs5, f5, p5, q5, hg5, ht5, hv5, hd5, _, _⟩, _⟩, _⟩, _⟩, _⟩, _⟩, _, _⟩ := h
  obtain rfl := Option.some.inj (g_odd.symm.trans hg0)
  obtain rfl := Option.some.inj (t_odd.symm.trans ht0)
  obtain rfl := Option.some.inj (g_rows1.symm.trans hg1)
  obtain rfl := Option.some.inj (t_rows1.symm.trans ht1)
  obtain rfl := Option.some.inj (g_rows2.symm.trans hg2)
  obtain rfl := Option.some.inj (t_rows2.symm.trans ht2)
  obtain rfl := Option.some.inj (g_sev.symm.trans hg3)
  obtain rfl := Option.some.inj (t_sev.symm.trans ht3)
  obtain rfl := Option.some.inj (g_con.symm.trans hg4)
  obtain rfl := Option.some.inj (t_con.symm.trans ht4)
  obtain rfl := Option.some.inj (g_tur.symm.trans hg5)
  obtain rfl := Option.some.inj (t_tur.symm.trans ht5)
  have n0 := flat (kd := .u8) (row := oddI) Tryd.underlying54 Tryd.underlying5 (by kernel_rfl) rfl hd0 d_odd
  have n1 := flat (kd := .u8) (row := bytI rows1) Tryd.underlying71 Tryd.underlying5 (by kernel_rfl) rfl hd1 d_rows1
  have n2 := flat (kd := .u8) (row := bytI rows2) Tryd.underlying71 Tryd.underlying5 (by kernel_rfl) rfl hd2 d_rows2
  have n3 := nested (kd := .u8) (rows := sevT) Tryd.underlying83 Tryd.underlying82 Tryd.underlying5 (by kernel_rfl) (by kernel_rfl) shape_sev.1 shape_sev.2 hd3 d_sev
  have n4 := nested (kd := .u64) (rows := conN) Tryd.underlying102 Tryd.underlying101 Tryd.underlying92 (by kernel_rfl) (by kernel_rfl) shape_con.1 shape_con.2 hd4 d_con
  have n5 := flat (kd := .i64) (row := turI) Tryd.underlying76 Tryd.underlying3 (by kernel_rfl) rfl hd5 d_tur
  refine ⟨fun j hj => ?_, ⟨range_of fun j hj => ?_, range_of fun j hj => ?_⟩, range_of fun j hj => ?_, fun j hj => ?_, fun q hq => ?_⟩
  · rw [World.var?_cell hg0 hv0, ← Array.getElem?_toList, n0 j hj, odd_get j hj]
  · rw [World.var?_cell hg1 hv1, ← Array.getElem?_toList, n1 j hj, bytI_get _ _ hj]
  · rw [World.var?_cell hg2 hv2, ← Array.getElem?_toList, n2 j hj, bytI_get _ _ hj]
  · rw [sevB_length] at hj
    have h := n3 (j / 7) (by omega) (j % 7) (by omega)
    rw [show j / 7 * 7 + j % 7 = j by omega] at h
    rw [World.var?_cell hg3 hv3, ← Array.getElem?_toList, h, sevB_get j hj]
  · have h0 := n4 j hj 0 (by omega)
    have h1 := n4 j hj 1 (by omega)
    rw [(con_get j hj).1] at h0
    rw [(con_get j hj).2] at h1
    intro k v hv
    match k, hv with
    | 0, hv =>
      cases hv
      rw [World.var?_cell hg4 hv4, ← Array.getElem?_toList]; exact h0
    | 1, hv =>
      cases hv
      rw [World.var?_cell hg4 hv4, ← Array.getElem?_toList]; exact h1
    | k + 2, hv => simp at hv
  · rw [World.var?_cell hg5 hv5, ← Array.getElem?_toList, n5 q hq, tur_get q hq]
end Go.Proofs.YtpfkcplldhdipaaDoor
