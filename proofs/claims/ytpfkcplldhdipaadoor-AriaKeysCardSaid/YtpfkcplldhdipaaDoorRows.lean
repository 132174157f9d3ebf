/-
  NARROWER THAN 'FOR EVERY INPUT', by the rows' own cells (each row's printed sentence says how): AriaKeys: laid · AriaMix: laid · AriaSum: laid · AriaOne: laid · AriaRounds: laid · AriaHow: laid.
  DERIVED. THE GIVEN ROWS OF THIS SEAT. 6 by the template 'for every input the law returns true; each argument reads behind the call as it read before'; 0 by the template 'total and deterministic' (their statements: YtpfkcplldhdipaaDoorTotals.lean).
  GIVEN WITH THE SEED: the statements are not yours to turn. If you find one false, say at which input.
  Laid BY PROGRAM, IN A SANDBOX (cutbox-rows.mjs): the forced cells as the released guide's own fill.sh prints them over the translation 85baa6d863e9bb68… (all of the seat's roots in one cut). By AI agents, Wed Nov 11 2026. No macro, syntax, notation, axiom, sorry.
-/
import Derived.Test.YtpfkcplldhdipaaDoorChecked
import GoSem.Claim
import GoSem.ClaimJoined
import GoSem.ClaimMapViews
import Derived.JoinedTies
import Derived.KernelRfl
namespace Go.Proofs.YtpfkcplldhdipaaDoor
/- THE CELL 'sum', in the pinned program and in every row, IS THE sha256 OF THE DUMP (.gsa) THAT YtpfkcplldhdipaaDoorProg.lean LOADS. Nothing in Lean hashes anything: it is a label: what it is worth is what the hold of that sum in a sandbox is worth. -/
noncomputable def Tryd.pinned : Pinned := { name := "ytpfkcplldhdipaadoor", sum := "85baa6d863e9bb68f395beaaada61730df261a528e1cf803ccfdf21dd4c17e28", checked := Tryd.checked }
namespace Rows
def none {H : Type} : Left H := { results := [], args := [] }

/- WHAT THE LISTED PACKAGE-LEVEL VARIABLES READ AS WHEN THE CALL BEGINS. Each datum BY PROGRAM (the guide's laid-datum.mjs) off the statement by which the dump's own 'gosem.cut.vars' lays the variable. In a bare row this is a premise. The card (YtpfkcplldhdipaaDoorCards.lean) ties it to the program's text. -/
def laid_scrim_box_odd {H : Type} : DataW H := .agg [.lit (.int .u8 0), .lit (.int .u8 1), .lit (.int .u8 1), .lit (.int .u8 0), .lit (.int .u8 1), .lit (.int .u8 0), .lit (.int .u8 0), .lit (.int .u8 1), .lit (.int .u8 1), .lit (.int .u8 0), .lit (.int .u8 0), .lit (.int .u8 1), .lit (.int .u8 0), .lit (.int .u8 1), .lit (.int .u8 1), .lit (.int .u8 0)]
def laid_scrim_aria_rows1 {H : Type} : DataW H := .agg [.lit (.int .u8 241), .lit (.int .u8 227), .lit (.int .u8 199), .lit (.int .u8 143), .lit (.int .u8 31), .lit (.int .u8 62), .lit (.int .u8 124), .lit (.int .u8 248)]
def laid_scrim_aria_rows2 {H : Type} : DataW H := .agg [.lit (.int .u8 122), .lit (.int .u8 188), .lit (.int .u8 235), .lit (.int .u8 185), .lit (.int .u8 52), .lit (.int .u8 129), .lit (.int .u8 186), .lit (.int .u8 203)]
def laid_scrim_aria_sevens {H : Type} : DataW H := .agg [.agg [.lit (.int .u8 3), .lit (.int .u8 4), .lit (.int .u8 6), .lit (.int .u8 8), .lit (.int .u8 9), .lit (.int .u8 13), .lit (.int .u8 14)], .agg [.lit (.int .u8 2), .lit (.int .u8 5), .lit (.int .u8 7), .lit (.int .u8 8), .lit (.int .u8 9), .lit (.int .u8 12), .lit (.int .u8 15)], .agg [.lit (.int .u8 1), .lit (.int .u8 4), .lit (.int .u8 6), .lit (.int .u8 10), .lit (.int .u8 11), .lit (.int .u8 12), .lit (.int .u8 15)], .agg [.lit (.int .u8 0), .lit (.int .u8 5), .lit (.int .u8 7), .lit (.int .u8 10), .lit (.int .u8 11), .lit (.int .u8 13), .lit (.int .u8 14)], .agg [.lit (.int .u8 0), .lit (.int .u8 2), .lit (.int .u8 5), .lit (.int .u8 8), .lit (.int .u8 11), .lit (.int .u8 14), .lit (.int .u8 15)], .agg [.lit (.int .u8 1), .lit (.int .u8 3), .lit (.int .u8 4), .lit (.int .u8 9), .lit (.int .u8 10), .lit (.int .u8 14), .lit (.int .u8 15)], .agg [.lit (.int .u8 0), .lit (.int .u8 2), .lit (.int .u8 7), .lit (.int .u8 9), .lit (.int .u8 10), .lit (.int .u8 12), .lit (.int .u8 13)], .agg [.lit (.int .u8 1), .lit (.int .u8 3), .lit (.int .u8 6), .lit (.int .u8 8), .lit (.int .u8 11), .lit (.int .u8 12), .lit (.int .u8 13)], .agg [.lit (.int .u8 0), .lit (.int .u8 1), .lit (.int .u8 4), .lit (.int .u8 7), .lit (.int .u8 10), .lit (.int .u8 13), .lit (.int .u8 15)], .agg [.lit (.int .u8 0), .lit (.int .u8 1), .lit (.int .u8 5), .lit (.int .u8 6), .lit (.int .u8 11), .lit (.int .u8 12), .lit (.int .u8 14)], .agg [.lit (.int .u8 2), .lit (.int .u8 3), .lit (.int .u8 5), .lit (.int .u8 6), .lit (.int .u8 8), .lit (.int .u8 13), .lit (.int .u8 15)], .agg [.lit (.int .u8 2), .lit (.int .u8 3), .lit (.int .u8 4), .lit (.int .u8 7), .lit (.int .u8 9), .lit (.int .u8 12), .lit (.int .u8 14)], .agg [.lit (.int .u8 1), .lit (.int .u8 2), .lit (.int .u8 6), .lit (.int .u8 7), .lit (.int .u8 9), .lit (.int .u8 11), .lit (.int .u8 12)], .agg [.lit (.int .u8 0), .lit (.int .u8 3), .lit (.int .u8 6), .lit (.int .u8 7), .lit (.int .u8 8), .lit (.int .u8 10), .lit (.int .u8 13)], .agg [.lit (.int .u8 0), .lit (.int .u8 3), .lit (.int .u8 4), .lit (.int .u8 5), .lit (.int .u8 9), .lit (.int .u8 11), .lit (.int .u8 14)], .agg [.lit (.int .u8 1), .lit (.int .u8 2), .lit (.int .u8 4), .lit (.int .u8 5), .lit (.int .u8 8), .lit (.int .u8 10), .lit (.int .u8 15)]]
def laid_scrim_aria_constants {H : Type} : DataW H := .agg [.agg [.lit (.int .u64 5871781006564002452), .lit (.int .u64 18308165927316385504)], .agg [.lit (.int .u64 7904181063698728992), .lit (.int .u64 18386141011142107824)], .agg [.lit (.int .u64 15821769039155751280), .lit (.int .u64 226472410124699918)]]
def laid_scrim_aria_turns {H : Type} : DataW H := .agg [.lit (.int .i64 (-19)), .lit (.int .i64 (-31)), .lit (.int .i64 61), .lit (.int .i64 31), .lit (.int .i64 19)]

/-- 'scrimlaw10.AriaKeys': WHATEVER THE INPUT: true; the input reads as it did. -/
def ariaKeysSpec : ChangeSpec := { name := "ariaKeys", fn := fun _ => fun
  | [d1, d2, d3] => { results := [.lit (.bool true)], args := [d1, d2, d3] }
  | _ => none }
def ariaKeysRow : OpenClaim := { program := "ytpfkcplldhdipaadoor", sum := "85baa6d863e9bb68f395beaaada61730df261a528e1cf803ccfdf21dd4c17e28", func := "scrim/scrimlaw10.AriaKeys", spec := "ariaKeys", named := ["scrim/aria.rows1", "scrim/aria.rows2", "scrim/box.odd", "scrim/aria.turns", "scrim/aria.constants", "scrim/aria.sevens"], apart := false, laid := [("scrim/box.odd", laid_scrim_box_odd), ("scrim/aria.rows1", laid_scrim_aria_rows1), ("scrim/aria.rows2", laid_scrim_aria_rows2), ("scrim/aria.sevens", laid_scrim_aria_sevens), ("scrim/aria.constants", laid_scrim_aria_constants), ("scrim/aria.turns", laid_scrim_aria_turns)] }
def AriaKeysSaid : Prop := ariaKeysRow.holds Tryd.pinned (OpenSpec.ofChange ariaKeysSpec)

/-- ITS FALSE NEIGHBOUR: 'it returns false'. Refute it at one input. -/
def ariaKeysWrong : ChangeSpec := { name := "ariaKeys", fn := fun _ => fun
  | [d1, d2, d3] => { results := [.lit (.bool false)], args := [d1, d2, d3] }
  | _ => none }
def AriaKeysWrongFalsely : Prop := ariaKeysRow.holds Tryd.pinned (OpenSpec.ofChange ariaKeysWrong)

/-- 'scrimlaw10.AriaMix': WHATEVER THE INPUT: true; the input reads as it did. -/
def ariaMixSpec : ChangeSpec := { name := "ariaMix", fn := fun _ => fun
  | [d1, d2, d3] => { results := [.lit (.bool true)], args := [d1, d2, d3] }
  | _ => none }
def ariaMixRow : OpenClaim := { program := "ytpfkcplldhdipaadoor", sum := "85baa6d863e9bb68f395beaaada61730df261a528e1cf803ccfdf21dd4c17e28", func := "scrim/scrimlaw10.AriaMix", spec := "ariaMix", named := ["scrim/aria.rows1", "scrim/aria.rows2", "scrim/box.odd", "scrim/aria.turns", "scrim/aria.constants", "scrim/aria.sevens"], apart := false, laid := [("scrim/box.odd", laid_scrim_box_odd), ("scrim/aria.rows1", laid_scrim_aria_rows1), ("scrim/aria.rows2", laid_scrim_aria_rows2), ("scrim/aria.sevens", laid_scrim_aria_sevens), ("scrim/aria.constants", laid_scrim_aria_constants), ("scrim/aria.turns", laid_scrim_aria_turns)] }
def AriaMixSaid : Prop := ariaMixRow.holds Tryd.pinned (OpenSpec.ofChange ariaMixSpec)

/-- ITS FALSE NEIGHBOUR: 'it returns false'. Refute it at one input. -/
def ariaMixWrong : ChangeSpec := { name := "ariaMix", fn := fun _ => fun
  | [d1, d2, d3] => { results := [.lit (.bool false)], args := [d1, d2, d3] }
  | _ => none }
def AriaMixWrongFalsely : Prop := ariaMixRow.holds Tryd.pinned (OpenSpec.ofChange ariaMixWrong)

/-- 'scrimlaw10.AriaSum': WHATEVER THE INPUT: true; the input reads as it did. -/
def ariaSumSpec : ChangeSpec := { name := "ariaSum", fn := fun _ => fun
  | [d1, d2] => { results := [.lit (.bool true)], args := [d1, d2] }
  | _ => none }
def ariaSumRow : OpenClaim := { program := "ytpfkcplldhdipaadoor", sum := "85baa6d863e9bb68f395beaaada61730df261a528e1cf803ccfdf21dd4c17e28", func := "scrim/scrimlaw10.AriaSum", spec := "ariaSum", named := ["scrim/aria.rows1", "scrim/aria.rows2", "scrim/box.odd", "scrim/aria.turns", "scrim/aria.constants", "scrim/aria.sevens"], apart := false, laid := [("scrim/box.odd", laid_scrim_box_odd), ("scrim/aria.rows1", laid_scrim_aria_rows1), ("scrim/aria.rows2", laid_scrim_aria_rows2), ("scrim/aria.sevens", laid_scrim_aria_sevens), ("scrim/aria.constants", laid_scrim_aria_constants), ("scrim/aria.turns", laid_scrim_aria_turns)] }
def AriaSumSaid : Prop := ariaSumRow.holds Tryd.pinned (OpenSpec.ofChange ariaSumSpec)

/-- ITS FALSE NEIGHBOUR: 'it returns false'. Refute it at one input. -/
def ariaSumWrong : ChangeSpec := { name := "ariaSum", fn := fun _ => fun
  | [d1, d2] => { results := [.lit (.bool false)], args := [d1, d2] }
  | _ => none }
def AriaSumWrongFalsely : Prop := ariaSumRow.holds Tryd.pinned (OpenSpec.ofChange ariaSumWrong)

/-- 'scrimlaw10.AriaOne': WHATEVER THE INPUT: true; the input reads as it did. -/
def ariaOneSpec : ChangeSpec := { name := "ariaOne", fn := fun _ => fun
  | [d1, d2] => { results := [.lit (.bool true)], args := [d1, d2] }
  | _ => none }
def ariaOneRow : OpenClaim := { program := "ytpfkcplldhdipaadoor", sum := "85baa6d863e9bb68f395beaaada61730df261a528e1cf803ccfdf21dd4c17e28", func := "scrim/scrimlaw10.AriaOne", spec := "ariaOne", named := ["scrim/aria.rows1", "scrim/aria.rows2", "scrim/box.odd", "scrim/aria.turns", "scrim/aria.constants", "scrim/aria.sevens"], apart := false, laid := [("scrim/box.odd", laid_scrim_box_odd), ("scrim/aria.rows1", laid_scrim_aria_rows1), ("scrim/aria.rows2", laid_scrim_aria_rows2), ("scrim/aria.sevens", laid_scrim_aria_sevens), ("scrim/aria.constants", laid_scrim_aria_constants), ("scrim/aria.turns", laid_scrim_aria_turns)] }
def AriaOneSaid : Prop := ariaOneRow.holds Tryd.pinned (OpenSpec.ofChange ariaOneSpec)

/-- ITS FALSE NEIGHBOUR: 'it returns false'. Refute it at one input. -/
def ariaOneWrong : ChangeSpec := { name := "ariaOne", fn := fun _ => fun
  | [d1, d2] => { results := [.lit (.bool false)], args := [d1, d2] }
  | _ => none }
def AriaOneWrongFalsely : Prop := ariaOneRow.holds Tryd.pinned (OpenSpec.ofChange ariaOneWrong)

/-- 'scrimlaw10.AriaRounds': WHATEVER THE INPUT: true; the input reads as it did. -/
def ariaRoundsSpec : ChangeSpec := { name := "ariaRounds", fn := fun _ => fun
  | [d1, d2, d3] => { results := [.lit (.bool true)], args := [d1, d2, d3] }
  | _ => none }
def ariaRoundsRow : OpenClaim := { program := "ytpfkcplldhdipaadoor", sum := "85baa6d863e9bb68f395beaaada61730df261a528e1cf803ccfdf21dd4c17e28", func := "scrim/scrimlaw10.AriaRounds", spec := "ariaRounds", named := ["scrim/aria.rows1", "scrim/aria.rows2", "scrim/box.odd", "scrim/aria.turns", "scrim/aria.constants", "scrim/aria.sevens"], apart := false, laid := [("scrim/box.odd", laid_scrim_box_odd), ("scrim/aria.rows1", laid_scrim_aria_rows1), ("scrim/aria.rows2", laid_scrim_aria_rows2), ("scrim/aria.sevens", laid_scrim_aria_sevens), ("scrim/aria.constants", laid_scrim_aria_constants), ("scrim/aria.turns", laid_scrim_aria_turns)] }
def AriaRoundsSaid : Prop := ariaRoundsRow.holds Tryd.pinned (OpenSpec.ofChange ariaRoundsSpec)

/-- ITS FALSE NEIGHBOUR: 'it returns false'. Refute it at one input. -/
def ariaRoundsWrong : ChangeSpec := { name := "ariaRounds", fn := fun _ => fun
  | [d1, d2, d3] => { results := [.lit (.bool false)], args := [d1, d2, d3] }
  | _ => none }
def AriaRoundsWrongFalsely : Prop := ariaRoundsRow.holds Tryd.pinned (OpenSpec.ofChange ariaRoundsWrong)

/-- 'scrimlaw10.AriaHow': WHATEVER THE INPUT: true; the input reads as it did. -/
def ariaHowSpec : ChangeSpec := { name := "ariaHow", fn := fun _ => fun
  | [d1, d2] => { results := [.lit (.bool true)], args := [d1, d2] }
  | _ => none }
def ariaHowRow : OpenClaim := { program := "ytpfkcplldhdipaadoor", sum := "85baa6d863e9bb68f395beaaada61730df261a528e1cf803ccfdf21dd4c17e28", func := "scrim/scrimlaw10.AriaHow", spec := "ariaHow", named := ["scrim/aria.rows1", "scrim/aria.rows2", "scrim/box.odd", "scrim/aria.turns", "scrim/aria.constants", "scrim/aria.sevens"], apart := false, laid := [("scrim/box.odd", laid_scrim_box_odd), ("scrim/aria.rows1", laid_scrim_aria_rows1), ("scrim/aria.rows2", laid_scrim_aria_rows2), ("scrim/aria.sevens", laid_scrim_aria_sevens), ("scrim/aria.constants", laid_scrim_aria_constants), ("scrim/aria.turns", laid_scrim_aria_turns)] }
def AriaHowSaid : Prop := ariaHowRow.holds Tryd.pinned (OpenSpec.ofChange ariaHowSpec)

/-- ITS FALSE NEIGHBOUR: 'it returns false'. Refute it at one input. -/
def ariaHowWrong : ChangeSpec := { name := "ariaHow", fn := fun _ => fun
  | [d1, d2] => { results := [.lit (.bool false)], args := [d1, d2] }
  | _ => none }
def AriaHowWrongFalsely : Prop := ariaHowRow.holds Tryd.pinned (OpenSpec.ofChange ariaHowWrong)

/- THE SECOND FORM. 'bulk': how many values and letters a reading holds, each counted each time it is reached (what is shared counts as often as it is met; a slice's spare places count too). A statement '..UptoSaid' is the law's where the arguments, and the package variables that the reading takes, are together of bulk at most 1048576: NARROWER than '..Said'. Prove '..Said' where nothing that the law and all that it calls make is longer than what came in: it says more and counts as full. Else prove '..UptoSaid'. A law counts once. -/
mutual
def uptoBulk {H : Type} : DataW H → Nat
  | .lit (.string bytes) => bytes.length + 1
  | .lit _ => 1
  | .nil => 1
  | .ptr d => uptoBulk d + 1
  | .slice elems spare => uptoBulkAll elems + uptoBulkAll spare + 1
  | .agg parts => uptoBulkAll parts + 1
  | .iface _ d => uptoBulk d + 1
  | .map entries => uptoBulkEntries entries + 1
  | .held _ => 1
def uptoBulkAll {H : Type} : List (DataW H) → Nat
  | [] => 0
  | d :: r => uptoBulk d + uptoBulkAll r
def uptoBulkEntries {H : Type} : List (Lit × DataW H) → Nat
  | [] => 0
  | x :: r => uptoBulkEntry x + uptoBulkEntries r
def uptoBulkEntry {H : Type} : Lit × DataW H → Nat
  | (.string bytes, d) => bytes.length + uptoBulk d + 1
  | (_, d) => uptoBulk d + 1
 end
def uptoSmall : (H : Type) → List (DataW H) → Bool := fun _ ds => decide (uptoBulkAll ds ≤ 1048576)
def OpenSpec.upto (s : _root_.Go.ChangeSpec) : _root_.Go.OpenSpec := { _root_.Go.OpenSpec.ofChange s with cond := some uptoSmall }

/-- 'scrimlaw10.AriaKeys', WHERE WHAT IT READS IS OF BULK AT MOST 1048576: true; the input reads as it did. -/
def ariaKeysUptoRow : OpenClaim := { program := "ytpfkcplldhdipaadoor", sum := "85baa6d863e9bb68f395beaaada61730df261a528e1cf803ccfdf21dd4c17e28", func := "scrim/scrimlaw10.AriaKeys", spec := "ariaKeys", named := ["scrim/aria.rows1", "scrim/aria.rows2", "scrim/box.odd", "scrim/aria.turns", "scrim/aria.constants", "scrim/aria.sevens"], apart := false, laid := [("scrim/box.odd", laid_scrim_box_odd), ("scrim/aria.rows1", laid_scrim_aria_rows1), ("scrim/aria.rows2", laid_scrim_aria_rows2), ("scrim/aria.sevens", laid_scrim_aria_sevens), ("scrim/aria.constants", laid_scrim_aria_constants), ("scrim/aria.turns", laid_scrim_aria_turns)], narrowed := true }
def AriaKeysUptoSaid : Prop := ariaKeysUptoRow.holds Tryd.pinned (OpenSpec.upto ariaKeysSpec)

/-- 'scrimlaw10.AriaMix', WHERE WHAT IT READS IS OF BULK AT MOST 1048576: true; the input reads as it did. -/
def ariaMixUptoRow : OpenClaim := { program := "ytpfkcplldhdipaadoor", sum := "85baa6d863e9bb68f395beaaada61730df261a528e1cf803ccfdf21dd4c17e28", func := "scrim/scrimlaw10.AriaMix", spec := "ariaMix", named := ["scrim/aria.rows1", "scrim/aria.rows2", "scrim/box.odd", "scrim/aria.turns", "scrim/aria.constants", "scrim/aria.sevens"], apart := false, laid := [("scrim/box.odd", laid_scrim_box_odd), ("scrim/aria.rows1", laid_scrim_aria_rows1), ("scrim/aria.rows2", laid_scrim_aria_rows2), ("scrim/aria.sevens", laid_scrim_aria_sevens), ("scrim/aria.constants", laid_scrim_aria_constants), ("scrim/aria.turns", laid_scrim_aria_turns)], narrowed := true }
def AriaMixUptoSaid : Prop := ariaMixUptoRow.holds Tryd.pinned (OpenSpec.upto ariaMixSpec)

/-- 'scrimlaw10.AriaSum', WHERE WHAT IT READS IS OF BULK AT MOST 1048576: true; the input reads as it did. -/
def ariaSumUptoRow : OpenClaim := { program := "ytpfkcplldhdipaadoor", sum := "85baa6d863e9bb68f395beaaada61730df261a528e1cf803ccfdf21dd4c17e28", func := "scrim/scrimlaw10.AriaSum", spec := "ariaSum", named := ["scrim/aria.rows1", "scrim/aria.rows2", "scrim/box.odd", "scrim/aria.turns", "scrim/aria.constants", "scrim/aria.sevens"], apart := false, laid := [("scrim/box.odd", laid_scrim_box_odd), ("scrim/aria.rows1", laid_scrim_aria_rows1), ("scrim/aria.rows2", laid_scrim_aria_rows2), ("scrim/aria.sevens", laid_scrim_aria_sevens), ("scrim/aria.constants", laid_scrim_aria_constants), ("scrim/aria.turns", laid_scrim_aria_turns)], narrowed := true }
def AriaSumUptoSaid : Prop := ariaSumUptoRow.holds Tryd.pinned (OpenSpec.upto ariaSumSpec)

/-- 'scrimlaw10.AriaOne', WHERE WHAT IT READS IS OF BULK AT MOST 1048576: true; the input reads as it did. -/
def ariaOneUptoRow : OpenClaim := { program := "ytpfkcplldhdipaadoor", sum := "85baa6d863e9bb68f395beaaada61730df261a528e1cf803ccfdf21dd4c17e28", func := "scrim/scrimlaw10.AriaOne", spec := "ariaOne", named := ["scrim/aria.rows1", "scrim/aria.rows2", "scrim/box.odd", "scrim/aria.turns", "scrim/aria.constants", "scrim/aria.sevens"], apart := false, laid := [("scrim/box.odd", laid_scrim_box_odd), ("scrim/aria.rows1", laid_scrim_aria_rows1), ("scrim/aria.rows2", laid_scrim_aria_rows2), ("scrim/aria.sevens", laid_scrim_aria_sevens), ("scrim/aria.constants", laid_scrim_aria_constants), ("scrim/aria.turns", laid_scrim_aria_turns)], narrowed := true }
def AriaOneUptoSaid : Prop := ariaOneUptoRow.holds Tryd.pinned (OpenSpec.upto ariaOneSpec)

/-- 'scrimlaw10.AriaRounds', WHERE WHAT IT READS IS OF BULK AT MOST 1048576: true; the input reads as it did. -/
def ariaRoundsUptoRow : OpenClaim := { program := "ytpfkcplldhdipaadoor", sum := "85baa6d863e9bb68f395beaaada61730df261a528e1cf803ccfdf21dd4c17e28", func := "scrim/scrimlaw10.AriaRounds", spec := "ariaRounds", named := ["scrim/aria.rows1", "scrim/aria.rows2", "scrim/box.odd", "scrim/aria.turns", "scrim/aria.constants", "scrim/aria.sevens"], apart := false, laid := [("scrim/box.odd", laid_scrim_box_odd), ("scrim/aria.rows1", laid_scrim_aria_rows1), ("scrim/aria.rows2", laid_scrim_aria_rows2), ("scrim/aria.sevens", laid_scrim_aria_sevens), ("scrim/aria.constants", laid_scrim_aria_constants), ("scrim/aria.turns", laid_scrim_aria_turns)], narrowed := true }
def AriaRoundsUptoSaid : Prop := ariaRoundsUptoRow.holds Tryd.pinned (OpenSpec.upto ariaRoundsSpec)

/-- 'scrimlaw10.AriaHow', WHERE WHAT IT READS IS OF BULK AT MOST 1048576: true; the input reads as it did. -/
def ariaHowUptoRow : OpenClaim := { program := "ytpfkcplldhdipaadoor", sum := "85baa6d863e9bb68f395beaaada61730df261a528e1cf803ccfdf21dd4c17e28", func := "scrim/scrimlaw10.AriaHow", spec := "ariaHow", named := ["scrim/aria.rows1", "scrim/aria.rows2", "scrim/box.odd", "scrim/aria.turns", "scrim/aria.constants", "scrim/aria.sevens"], apart := false, laid := [("scrim/box.odd", laid_scrim_box_odd), ("scrim/aria.rows1", laid_scrim_aria_rows1), ("scrim/aria.rows2", laid_scrim_aria_rows2), ("scrim/aria.sevens", laid_scrim_aria_sevens), ("scrim/aria.constants", laid_scrim_aria_constants), ("scrim/aria.turns", laid_scrim_aria_turns)], narrowed := true }
def AriaHowUptoSaid : Prop := ariaHowUptoRow.holds Tryd.pinned (OpenSpec.upto ariaHowSpec)

end Rows
end Go.Proofs.YtpfkcplldhdipaaDoor
