/- Proved here (a tied card): whatever its arguments, where the listed package-level variables hold what their initialisers lay, the law scrim/scrimlaw11.CipherTable returns true, and each argument reads behind the call as it read before it. No other condition. -/
import Derived.Test.YtbgkmicelmenfaaGreatDoorRows
import Derived.Test.YtbgkmicelmenfaaGreatDoorTie
import Derived.Test.YtbgkmicelmenfaaGreatDoorCards
import Derived.Test.YtbgkmicelmenfaaGreatDoorZ1
import Derived.Test.YtbgkmicelmenfaaGreatDoorLTable
import Derived.WalkKit
import Derived.Below
import Derived.ChangeOld
import Derived.ProofKit
import Derived.LaidMore
import Derived.Stop.Joined
import Derived.SevenTiedAt
import Derived.OpenShut
import Derived.ShutString
namespace Go.Proofs.YtbgkmicelmenfaaGreatDoor.cipherTable
open Go.ChangeShapes Go.WideShapes Go.ChangeAt Go.RowKit
open Go.ChangeMaps (open_string shut_string)
set_option linter.unusedVariables false      -- a walk need not use every 'w<i>' (that an integer argument fits its kind)

theorem own : ownKnob Tryz.prog.godebug = none := by kernel_rfl

/-! The walk is a text of its own. -/
theorem walk [Inhabited D.BT] [Inhabited S.RT] (a0 : Int) (w0 : (Lit.int .i64 a0).wf = true) (w : World) (hodd : C.GC w) :
    Calls Tryz.prog 10 #[.int .i64 a0] w fun e w' => e = .returned (.bool true) ∧ Below w.heap.size w w' :=
  C.table_walk a0 w0 w hodd

/-! The row around it. -/
set_option maxRecDepth 100000 in
theorem lifted (os : Os) (started : os.Started) (H : Type) (enc : TypeId × Value → H) :
    ReturnsInHanded {} Tryz.checked os 10 .any (fun w args => (Rows.cipherTableSpec.pre enc Tryz.prog Tryz.f10 [] false w args ∧ laidMetH Tryz.prog Rows.cipherTableRow.laid w) ∧ sizedMet enc Tryz.prog Tryz.f10 (OpenSpec.ofChange Rows.cipherTableSpec) false w args) (Rows.cipherTableSpec.post enc Tryz.prog Tryz.f10 false true false false) := by
  refine C.drop_shape (Pre1 := fun w args => (Rows.cipherTableSpec.pre enc Tryz.prog Tryz.f10 [] false w args ∧ (laidMetH Tryz.prog Rows.cipherTableRow.laid w ∧ w.ShapedOpen Tryz.prog)) ∧ sizedMet enc Tryz.prog Tryz.f10 (OpenSpec.ofChange Rows.cipherTableSpec) false w args) (returnsInHanded_of_change_and (C := Tryz.checked) (X := fun w _ => laidMetH Tryz.prog Rows.cipherTableRow.laid w ∧ w.ShapedOpen Tryz.prog) (fun _ _ _ hh h => ⟨h.1.of_heap hh, h.2.of_heap hh⟩) own started (by kernel_rfl) Tryz.func10
    (ChangeSpec.witness_shaped (enc := enc) (C := Tryz.checked) (os := os) (X := fun w _ => laidMetH Tryz.prog Rows.cipherTableRow.laid w ∧ w.ShapedOpen Tryz.prog) false (World.doorLaid Tryz.prog 400 os) #[.int .i64 0] 8 rfl (World.shaped_of_RefB (by kernel_rfl) (by kernel_rfl)) (by kernel_rfl) (by kernel_rfl) (by kernel_rfl) ⟨C.door_met os _, C.door_shape os _⟩) ?_) (fun _ _ h => ⟨⟨h.1.1, h.1.2.1⟩, h.2⟩) (fun _ _ h hs => ⟨⟨h.1.1, h.1.2, hs⟩, h.2⟩)
  intro W base args ds gs before hval0 hW _ _ hL _
  have hval : ∀ (j : Nat) t v, Tryz.f10.params[j]? = some t → args[j]? = some v → Value.okWide Tryz.prog W .any base t v := hval0
  have hW' := hW
  obtain ⟨p, q, hA0, hV, rfl, hfz, hnd⟩ := hW
  have hA : DataW.TrodAll enc Tryz.prog W 0 (fun _ => true) true Tryz.f10.params.toList args.toList ds p := hA0
  rw [Tryz.params10] at hA hval
  obtain ⟨v0, vs0, d0, ds0, p0, q0, hargs, rfl, rfl, h0, r0⟩ := trodAll_cons hA
  obtain ⟨rfl, rfl, rfl⟩ := trodAll_nil r0
  obtain rfl : args = #[v0] := by cases args; simp_all
  obtain ⟨rfl, rfl⟩ := trodVars_none hV
  obtain ⟨a0, rfl, rfl, rfl, w0⟩ := open_int Tryz.underlying3 (hval 0 3 v0 rfl rfl) h0
  clear hA0 hval0
  simp only [List.append_nil] at hW'
  obtain ⟨bt, rt, hgc⟩ := C.gc_of_laid hL.1 hL.2
  refine (@walk ⟨bt⟩ ⟨rt⟩ a0 w0 W hgc).mono fun e W' ⟨he, bel⟩ => ?_
  subst he
  exact ⟨_, rfl, _, _, _, [], _, [], hW', trodAll_mk1 (shut_bool Tryz.underlying4 _), (trodAll_cons_mk (shut_int Tryz.underlying3 w0) trodAll_mk0), rfl, bel.frame _, fun h => by cases h⟩

theorem over : Rows.cipherTableRow.holds Tryz.pinned (OpenSpec.ofChange Rows.cipherTableSpec) :=
  OpenClaim.holds_of_wide 10 Tryz.f10 rfl rfl rfl rfl rfl rfl rfl ⟨rfl, rfl, rfl, rfl, rfl⟩ rfl rfl rfl rfl rfl (by kernel_rfl) Tryz.func10 (by kernel_rfl)
    (of_decide_eq_true (by kernel_rfl)) (by unfold Func.isWrapper; first | (rw [if_pos (by decide +kernel)]; kernel_rfl) | (rw [if_neg (by decide +kernel)]; exact ⟨rfl, rfl⟩))
    (fun os started H enc _ => lifted os started H enc)

theorem proved : Rows.CipherTableCardSaid :=
  Claim7.holds_tied_plain_at .later [] [.data, .data, .data, .data, .data, .data, .data, .data, .data, .data, .data] true (true, "3a8587bfb122282c4ccc2042c2346ffa63626bc632924d6e187592f993ce788d") false
    over (fun _ h => by cases h) (by kernel_rfl) (fun _ h => by cases h) cipherTable_row_tie rfl ⟨rfl, rfl⟩ (by kernel_rfl) rfl
    (fun f fn hf hfn => by
      obtain rfl : f = 10 := Option.some.inj ((show Tryz.prog.funcNamed Rows.cipherTableRow.func = some 10 by kernel_rfl).symm.trans hf) |>.symm
      obtain rfl : fn = Tryz.f10 := (Option.some.inj (Tryz.func10.symm.trans hfn)).symm
      exact ⟨by kernel_rfl, fun j t ht => by
        rw [Tryz.params10] at ht
        have hm : t ∈ [3] := by simpa using Array.mem_of_getElem? ht
        have hall : ([3].all fun u => !Tryz.prog.wantsStandIn u) = true := by kernel_rfl
        exact (show Tryz.prog.wantsStandIn t = false by simpa using List.all_eq_true.1 hall t hm)⟩)
    (by kernel_rfl)
#print axioms proved
end Go.Proofs.YtbgkmicelmenfaaGreatDoor.cipherTable
