/-
  NARROWER THAN 'FOR EVERY INPUT', by the rows' own cells (each row's printed sentence says how): StealTails: laid · StealBack: laid · StealErrs: laid · StealOrder: laid · StealOne: laid · StealTurns: laid · StealSpoilt: laid.
  DERIVED. THE GIVEN ROWS OF THIS SEAT. 7 by the template 'for every input the law returns true; each argument reads behind the call as it read before'; 0 by the template 'total and deterministic' (their statements: YtokbbmngfogbbaaGreatDoorTotals.lean).
  GIVEN WITH THE SEED: the statements are not yours to turn. If you find one false, say at which input.
  Laid BY PROGRAM, IN A SANDBOX (cutbox-rows.mjs): the forced cells as the released guide's own fill.sh prints them over the translation 150e4638b43bdf9c… (all of the seat's roots in one cut). By AI agents, Wed Nov 11 2026. No macro, syntax, notation, axiom, sorry.
-/
import Derived.Test.YtokbbmngfogbbaaGreatDoorChecked
import GoSem.Claim
import GoSem.ClaimJoined
import GoSem.ClaimMapViews
import Derived.JoinedTies
import Derived.KernelRfl
namespace Go.Proofs.YtokbbmngfogbbaaGreatDoor
/- THE CELL 'sum', in the pinned program and in every row, IS THE sha256 OF THE DUMP (.gsa) THAT YtokbbmngfogbbaaGreatDoorProg.lean LOADS. Nothing in Lean hashes anything: it is a label: what it is worth is what the hold of that sum in a sandbox is worth. -/
noncomputable def Tryz.pinned : Pinned := { name := "ytokbbmngfogbbaagreatdoor", sum := "150e4638b43bdf9c0f8aa29d2e1b9e103d3b6a606e9443f24bd8426d42171b7a", checked := Tryz.checked }
namespace Rows
def none {H : Type} : Left H := { results := [], args := [] }

/- WHAT THE LISTED PACKAGE-LEVEL VARIABLES READ AS WHEN THE CALL BEGINS. Each datum BY PROGRAM (the guide's laid-datum.mjs) off the statement by which the dump's own 'gosem.cut.vars' lays the variable. In a bare row this is a premise. The card (YtokbbmngfogbbaaGreatDoorCards.lean) ties it to the program's text. -/
def laid_scrim_box_odd {H : Type} : DataW H := .agg [.lit (.int .u8 0), .lit (.int .u8 1), .lit (.int .u8 1), .lit (.int .u8 0), .lit (.int .u8 1), .lit (.int .u8 0), .lit (.int .u8 0), .lit (.int .u8 1), .lit (.int .u8 1), .lit (.int .u8 0), .lit (.int .u8 0), .lit (.int .u8 1), .lit (.int .u8 0), .lit (.int .u8 1), .lit (.int .u8 1), .lit (.int .u8 0)]
def laid_scrim_aria_rows1 {H : Type} : DataW H := .agg [.lit (.int .u8 241), .lit (.int .u8 227), .lit (.int .u8 199), .lit (.int .u8 143), .lit (.int .u8 31), .lit (.int .u8 62), .lit (.int .u8 124), .lit (.int .u8 248)]
def laid_scrim_aria_rows2 {H : Type} : DataW H := .agg [.lit (.int .u8 122), .lit (.int .u8 188), .lit (.int .u8 235), .lit (.int .u8 185), .lit (.int .u8 52), .lit (.int .u8 129), .lit (.int .u8 186), .lit (.int .u8 203)]
def laid_scrim_aria_sevens {H : Type} : DataW H := .agg [.agg [.lit (.int .u8 3), .lit (.int .u8 4), .lit (.int .u8 6), .lit (.int .u8 8), .lit (.int .u8 9), .lit (.int .u8 13), .lit (.int .u8 14)], .agg [.lit (.int .u8 2), .lit (.int .u8 5), .lit (.int .u8 7), .lit (.int .u8 8), .lit (.int .u8 9), .lit (.int .u8 12), .lit (.int .u8 15)], .agg [.lit (.int .u8 1), .lit (.int .u8 4), .lit (.int .u8 6), .lit (.int .u8 10), .lit (.int .u8 11), .lit (.int .u8 12), .lit (.int .u8 15)], .agg [.lit (.int .u8 0), .lit (.int .u8 5), .lit (.int .u8 7), .lit (.int .u8 10), .lit (.int .u8 11), .lit (.int .u8 13), .lit (.int .u8 14)], .agg [.lit (.int .u8 0), .lit (.int .u8 2), .lit (.int .u8 5), .lit (.int .u8 8), .lit (.int .u8 11), .lit (.int .u8 14), .lit (.int .u8 15)], .agg [.lit (.int .u8 1), .lit (.int .u8 3), .lit (.int .u8 4), .lit (.int .u8 9), .lit (.int .u8 10), .lit (.int .u8 14), .lit (.int .u8 15)], .agg [.lit (.int .u8 0), .lit (.int .u8 2), .lit (.int .u8 7), .lit (.int .u8 9), .lit (.int .u8 10), .lit (.int .u8 12), .lit (.int .u8 13)], .agg [.lit (.int .u8 1), .lit (.int .u8 3), .lit (.int .u8 6), .lit (.int .u8 8), .lit (.int .u8 11), .lit (.int .u8 12), .lit (.int .u8 13)], .agg [.lit (.int .u8 0), .lit (.int .u8 1), .lit (.int .u8 4), .lit (.int .u8 7), .lit (.int .u8 10), .lit (.int .u8 13), .lit (.int .u8 15)], .agg [.lit (.int .u8 0), .lit (.int .u8 1), .lit (.int .u8 5), .lit (.int .u8 6), .lit (.int .u8 11), .lit (.int .u8 12), .lit (.int .u8 14)], .agg [.lit (.int .u8 2), .lit (.int .u8 3), .lit (.int .u8 5), .lit (.int .u8 6), .lit (.int .u8 8), .lit (.int .u8 13), .lit (.int .u8 15)], .agg [.lit (.int .u8 2), .lit (.int .u8 3), .lit (.int .u8 4), .lit (.int .u8 7), .lit (.int .u8 9), .lit (.int .u8 12), .lit (.int .u8 14)], .agg [.lit (.int .u8 1), .lit (.int .u8 2), .lit (.int .u8 6), .lit (.int .u8 7), .lit (.int .u8 9), .lit (.int .u8 11), .lit (.int .u8 12)], .agg [.lit (.int .u8 0), .lit (.int .u8 3), .lit (.int .u8 6), .lit (.int .u8 7), .lit (.int .u8 8), .lit (.int .u8 10), .lit (.int .u8 13)], .agg [.lit (.int .u8 0), .lit (.int .u8 3), .lit (.int .u8 4), .lit (.int .u8 5), .lit (.int .u8 9), .lit (.int .u8 11), .lit (.int .u8 14)], .agg [.lit (.int .u8 1), .lit (.int .u8 2), .lit (.int .u8 4), .lit (.int .u8 5), .lit (.int .u8 8), .lit (.int .u8 10), .lit (.int .u8 15)]]
def laid_scrim_aria_constants {H : Type} : DataW H := .agg [.agg [.lit (.int .u64 5871781006564002452), .lit (.int .u64 18308165927316385504)], .agg [.lit (.int .u64 7904181063698728992), .lit (.int .u64 18386141011142107824)], .agg [.lit (.int .u64 15821769039155751280), .lit (.int .u64 226472410124699918)]]
def laid_scrim_aria_turns {H : Type} : DataW H := .agg [.lit (.int .i64 (-19)), .lit (.int .i64 (-31)), .lit (.int .i64 61), .lit (.int .i64 31), .lit (.int .i64 19)]
def laid_scrim_twofish_rows {H : Type} : DataW H := .agg [.agg [.lit (.int .u64 9330736263711026340), .lit (.int .u64 17057403611612868765), .lit (.int .u64 13429291607479493745), .lit (.int .u64 15561082878731257290)], .agg [.lit (.int .u64 2935774584765680325), .lit (.int .u64 2173915046082902280), .lit (.int .u64 5509334570087492415), .lit (.int .u64 13353669730066440330)]]
def laid_scrim_twofish_orders {H : Type} : DataW H := .agg [.agg [.lit (.int .i64 1), .lit (.int .i64 0), .lit (.int .i64 1), .lit (.int .i64 0)], .agg [.lit (.int .i64 0), .lit (.int .i64 0), .lit (.int .i64 1), .lit (.int .i64 1)], .agg [.lit (.int .i64 0), .lit (.int .i64 1), .lit (.int .i64 0), .lit (.int .i64 1)], .agg [.lit (.int .i64 1), .lit (.int .i64 1), .lit (.int .i64 0), .lit (.int .i64 0)], .agg [.lit (.int .i64 1), .lit (.int .i64 0), .lit (.int .i64 0), .lit (.int .i64 1)]]
def laid_scrim_twofish_mixRows {H : Type} : DataW H := .agg [.agg [.lit (.int .u8 1), .lit (.int .u8 239), .lit (.int .u8 91), .lit (.int .u8 91)], .agg [.lit (.int .u8 91), .lit (.int .u8 239), .lit (.int .u8 239), .lit (.int .u8 1)], .agg [.lit (.int .u8 239), .lit (.int .u8 91), .lit (.int .u8 1), .lit (.int .u8 239)], .agg [.lit (.int .u8 239), .lit (.int .u8 1), .lit (.int .u8 239), .lit (.int .u8 91)]]
def laid_scrim_twofish_shrinkRows {H : Type} : DataW H := .agg [.agg [.lit (.int .u8 1), .lit (.int .u8 164), .lit (.int .u8 85), .lit (.int .u8 135), .lit (.int .u8 90), .lit (.int .u8 88), .lit (.int .u8 219), .lit (.int .u8 158)], .agg [.lit (.int .u8 164), .lit (.int .u8 86), .lit (.int .u8 130), .lit (.int .u8 243), .lit (.int .u8 30), .lit (.int .u8 198), .lit (.int .u8 104), .lit (.int .u8 229)], .agg [.lit (.int .u8 2), .lit (.int .u8 161), .lit (.int .u8 252), .lit (.int .u8 193), .lit (.int .u8 71), .lit (.int .u8 174), .lit (.int .u8 61), .lit (.int .u8 25)], .agg [.lit (.int .u8 164), .lit (.int .u8 85), .lit (.int .u8 135), .lit (.int .u8 90), .lit (.int .u8 88), .lit (.int .u8 219), .lit (.int .u8 158), .lit (.int .u8 3)]]
def laid_scrim_cipher_shapes {H : Type} : DataW H := .agg [.agg [.lit (.int .i64 0), .lit (.int .i64 0), .lit (.int .i64 0)], .agg [.lit (.int .i64 8), .lit (.int .i64 8), .lit (.int .i64 1)], .agg [.lit (.int .i64 8), .lit (.int .i64 16), .lit (.int .i64 2)], .agg [.lit (.int .i64 8), .lit (.int .i64 16), .lit (.int .i64 1)], .agg [.lit (.int .i64 8), .lit (.int .i64 16), .lit (.int .i64 1)], .agg [.lit (.int .i64 8), .lit (.int .i64 32), .lit (.int .i64 1)], .agg [.lit (.int .i64 16), .lit (.int .i64 16), .lit (.int .i64 3)], .agg [.lit (.int .i64 16), .lit (.int .i64 16), .lit (.int .i64 3)], .agg [.lit (.int .i64 8), .lit (.int .i64 16), .lit (.int .i64 1)]]

/-- 'scrimlaw13.StealTails': WHATEVER THE INPUT: true; the input reads as it did. -/
def stealTailsSpec : ChangeSpec := { name := "stealTails", fn := fun _ => fun
  | [d1, d2, d3, d4, d5, d6, d7] => { results := [.lit (.bool true)], args := [d1, d2, d3, d4, d5, d6, d7] }
  | _ => none }
def stealTailsRow : OpenClaim := { program := "ytokbbmngfogbbaagreatdoor", sum := "150e4638b43bdf9c0f8aa29d2e1b9e103d3b6a606e9443f24bd8426d42171b7a", func := "scrim/scrimlaw13.StealTails", spec := "stealTails", unfollowed := true, recurses := true, named := ["scrim/cipher.shapes", "scrim/twofish.shrinkRows", "scrim/twofish.orders", "scrim/twofish.rows", "scrim/twofish.mixRows", "scrim/aria.rows1", "scrim/aria.rows2", "scrim/box.odd", "scrim/aria.turns", "scrim/aria.constants", "scrim/aria.sevens"], apart := false, laid := [("scrim/box.odd", laid_scrim_box_odd), ("scrim/aria.rows1", laid_scrim_aria_rows1), ("scrim/aria.rows2", laid_scrim_aria_rows2), ("scrim/aria.sevens", laid_scrim_aria_sevens), ("scrim/aria.constants", laid_scrim_aria_constants), ("scrim/aria.turns", laid_scrim_aria_turns), ("scrim/twofish.rows", laid_scrim_twofish_rows), ("scrim/twofish.orders", laid_scrim_twofish_orders), ("scrim/twofish.mixRows", laid_scrim_twofish_mixRows), ("scrim/twofish.shrinkRows", laid_scrim_twofish_shrinkRows), ("scrim/cipher.shapes", laid_scrim_cipher_shapes)] }
def StealTailsSaid : Prop := stealTailsRow.holds Tryz.pinned (OpenSpec.ofChange stealTailsSpec)

/-- ITS FALSE NEIGHBOUR: 'it returns false'. Refute it at one input. -/
def stealTailsWrong : ChangeSpec := { name := "stealTails", fn := fun _ => fun
  | [d1, d2, d3, d4, d5, d6, d7] => { results := [.lit (.bool false)], args := [d1, d2, d3, d4, d5, d6, d7] }
  | _ => none }
def StealTailsWrongFalsely : Prop := stealTailsRow.holds Tryz.pinned (OpenSpec.ofChange stealTailsWrong)

/-- 'scrimlaw13.StealBack': WHATEVER THE INPUT: true; the input reads as it did. -/
def stealBackSpec : ChangeSpec := { name := "stealBack", fn := fun _ => fun
  | [d1, d2, d3, d4, d5, d6, d7] => { results := [.lit (.bool true)], args := [d1, d2, d3, d4, d5, d6, d7] }
  | _ => none }
def stealBackRow : OpenClaim := { program := "ytokbbmngfogbbaagreatdoor", sum := "150e4638b43bdf9c0f8aa29d2e1b9e103d3b6a606e9443f24bd8426d42171b7a", func := "scrim/scrimlaw13.StealBack", spec := "stealBack", unfollowed := true, recurses := true, named := ["scrim/cipher.shapes", "scrim/twofish.shrinkRows", "scrim/twofish.orders", "scrim/twofish.rows", "scrim/twofish.mixRows", "scrim/aria.rows1", "scrim/aria.rows2", "scrim/box.odd", "scrim/aria.turns", "scrim/aria.constants", "scrim/aria.sevens"], apart := false, laid := [("scrim/box.odd", laid_scrim_box_odd), ("scrim/aria.rows1", laid_scrim_aria_rows1), ("scrim/aria.rows2", laid_scrim_aria_rows2), ("scrim/aria.sevens", laid_scrim_aria_sevens), ("scrim/aria.constants", laid_scrim_aria_constants), ("scrim/aria.turns", laid_scrim_aria_turns), ("scrim/twofish.rows", laid_scrim_twofish_rows), ("scrim/twofish.orders", laid_scrim_twofish_orders), ("scrim/twofish.mixRows", laid_scrim_twofish_mixRows), ("scrim/twofish.shrinkRows", laid_scrim_twofish_shrinkRows), ("scrim/cipher.shapes", laid_scrim_cipher_shapes)] }
def StealBackSaid : Prop := stealBackRow.holds Tryz.pinned (OpenSpec.ofChange stealBackSpec)

/-- ITS FALSE NEIGHBOUR: 'it returns false'. Refute it at one input. -/
def stealBackWrong : ChangeSpec := { name := "stealBack", fn := fun _ => fun
  | [d1, d2, d3, d4, d5, d6, d7] => { results := [.lit (.bool false)], args := [d1, d2, d3, d4, d5, d6, d7] }
  | _ => none }
def StealBackWrongFalsely : Prop := stealBackRow.holds Tryz.pinned (OpenSpec.ofChange stealBackWrong)

/-- 'scrimlaw13.StealErrs': WHATEVER THE INPUT: true; the input reads as it did. -/
def stealErrsSpec : ChangeSpec := { name := "stealErrs", fn := fun _ => fun
  | [d1, d2, d3, d4, d5, d6] => { results := [.lit (.bool true)], args := [d1, d2, d3, d4, d5, d6] }
  | _ => none }
def stealErrsRow : OpenClaim := { program := "ytokbbmngfogbbaagreatdoor", sum := "150e4638b43bdf9c0f8aa29d2e1b9e103d3b6a606e9443f24bd8426d42171b7a", func := "scrim/scrimlaw13.StealErrs", spec := "stealErrs", unfollowed := true, recurses := true, named := ["scrim/cipher.shapes", "scrim/twofish.shrinkRows", "scrim/twofish.orders", "scrim/twofish.rows", "scrim/twofish.mixRows", "scrim/aria.rows1", "scrim/aria.rows2", "scrim/box.odd", "scrim/aria.turns", "scrim/aria.constants", "scrim/aria.sevens"], apart := false, laid := [("scrim/box.odd", laid_scrim_box_odd), ("scrim/aria.rows1", laid_scrim_aria_rows1), ("scrim/aria.rows2", laid_scrim_aria_rows2), ("scrim/aria.sevens", laid_scrim_aria_sevens), ("scrim/aria.constants", laid_scrim_aria_constants), ("scrim/aria.turns", laid_scrim_aria_turns), ("scrim/twofish.rows", laid_scrim_twofish_rows), ("scrim/twofish.orders", laid_scrim_twofish_orders), ("scrim/twofish.mixRows", laid_scrim_twofish_mixRows), ("scrim/twofish.shrinkRows", laid_scrim_twofish_shrinkRows), ("scrim/cipher.shapes", laid_scrim_cipher_shapes)] }
def StealErrsSaid : Prop := stealErrsRow.holds Tryz.pinned (OpenSpec.ofChange stealErrsSpec)

/-- ITS FALSE NEIGHBOUR: 'it returns false'. Refute it at one input. -/
def stealErrsWrong : ChangeSpec := { name := "stealErrs", fn := fun _ => fun
  | [d1, d2, d3, d4, d5, d6] => { results := [.lit (.bool false)], args := [d1, d2, d3, d4, d5, d6] }
  | _ => none }
def StealErrsWrongFalsely : Prop := stealErrsRow.holds Tryz.pinned (OpenSpec.ofChange stealErrsWrong)

/-- 'scrimlaw13.StealOrder': WHATEVER THE INPUT: true; the input reads as it did. -/
def stealOrderSpec : ChangeSpec := { name := "stealOrder", fn := fun _ => fun
  | [d1, d2, d3, d4, d5, d6] => { results := [.lit (.bool true)], args := [d1, d2, d3, d4, d5, d6] }
  | _ => none }
def stealOrderRow : OpenClaim := { program := "ytokbbmngfogbbaagreatdoor", sum := "150e4638b43bdf9c0f8aa29d2e1b9e103d3b6a606e9443f24bd8426d42171b7a", func := "scrim/scrimlaw13.StealOrder", spec := "stealOrder", unfollowed := true, recurses := true, named := ["scrim/cipher.shapes", "scrim/twofish.shrinkRows", "scrim/twofish.orders", "scrim/twofish.rows", "scrim/twofish.mixRows", "scrim/aria.rows1", "scrim/aria.rows2", "scrim/box.odd", "scrim/aria.turns", "scrim/aria.constants", "scrim/aria.sevens"], apart := false, laid := [("scrim/box.odd", laid_scrim_box_odd), ("scrim/aria.rows1", laid_scrim_aria_rows1), ("scrim/aria.rows2", laid_scrim_aria_rows2), ("scrim/aria.sevens", laid_scrim_aria_sevens), ("scrim/aria.constants", laid_scrim_aria_constants), ("scrim/aria.turns", laid_scrim_aria_turns), ("scrim/twofish.rows", laid_scrim_twofish_rows), ("scrim/twofish.orders", laid_scrim_twofish_orders), ("scrim/twofish.mixRows", laid_scrim_twofish_mixRows), ("scrim/twofish.shrinkRows", laid_scrim_twofish_shrinkRows), ("scrim/cipher.shapes", laid_scrim_cipher_shapes)] }
def StealOrderSaid : Prop := stealOrderRow.holds Tryz.pinned (OpenSpec.ofChange stealOrderSpec)

/-- ITS FALSE NEIGHBOUR: 'it returns false'. Refute it at one input. -/
def stealOrderWrong : ChangeSpec := { name := "stealOrder", fn := fun _ => fun
  | [d1, d2, d3, d4, d5, d6] => { results := [.lit (.bool false)], args := [d1, d2, d3, d4, d5, d6] }
  | _ => none }
def StealOrderWrongFalsely : Prop := stealOrderRow.holds Tryz.pinned (OpenSpec.ofChange stealOrderWrong)

/-- 'scrimlaw13.StealOne': WHATEVER THE INPUT: true; the input reads as it did. -/
def stealOneSpec : ChangeSpec := { name := "stealOne", fn := fun _ => fun
  | [d1, d2, d3, d4, d5] => { results := [.lit (.bool true)], args := [d1, d2, d3, d4, d5] }
  | _ => none }
def stealOneRow : OpenClaim := { program := "ytokbbmngfogbbaagreatdoor", sum := "150e4638b43bdf9c0f8aa29d2e1b9e103d3b6a606e9443f24bd8426d42171b7a", func := "scrim/scrimlaw13.StealOne", spec := "stealOne", unfollowed := true, recurses := true, named := ["scrim/cipher.shapes", "scrim/twofish.shrinkRows", "scrim/twofish.orders", "scrim/twofish.rows", "scrim/twofish.mixRows", "scrim/aria.rows1", "scrim/aria.rows2", "scrim/box.odd", "scrim/aria.turns", "scrim/aria.constants", "scrim/aria.sevens"], apart := false, laid := [("scrim/box.odd", laid_scrim_box_odd), ("scrim/aria.rows1", laid_scrim_aria_rows1), ("scrim/aria.rows2", laid_scrim_aria_rows2), ("scrim/aria.sevens", laid_scrim_aria_sevens), ("scrim/aria.constants", laid_scrim_aria_constants), ("scrim/aria.turns", laid_scrim_aria_turns), ("scrim/twofish.rows", laid_scrim_twofish_rows), ("scrim/twofish.orders", laid_scrim_twofish_orders), ("scrim/twofish.mixRows", laid_scrim_twofish_mixRows), ("scrim/twofish.shrinkRows", laid_scrim_twofish_shrinkRows), ("scrim/cipher.shapes", laid_scrim_cipher_shapes)] }
def StealOneSaid : Prop := stealOneRow.holds Tryz.pinned (OpenSpec.ofChange stealOneSpec)

/-- ITS FALSE NEIGHBOUR: 'it returns false'. Refute it at one input. -/
def stealOneWrong : ChangeSpec := { name := "stealOne", fn := fun _ => fun
  | [d1, d2, d3, d4, d5] => { results := [.lit (.bool false)], args := [d1, d2, d3, d4, d5] }
  | _ => none }
def StealOneWrongFalsely : Prop := stealOneRow.holds Tryz.pinned (OpenSpec.ofChange stealOneWrong)

/-- 'scrimlaw13.StealTurns': WHATEVER THE INPUT: true; the input reads as it did. -/
def stealTurnsSpec : ChangeSpec := { name := "stealTurns", fn := fun _ => fun
  | [d1, d2, d3, d4, d5, d6] => { results := [.lit (.bool true)], args := [d1, d2, d3, d4, d5, d6] }
  | _ => none }
def stealTurnsRow : OpenClaim := { program := "ytokbbmngfogbbaagreatdoor", sum := "150e4638b43bdf9c0f8aa29d2e1b9e103d3b6a606e9443f24bd8426d42171b7a", func := "scrim/scrimlaw13.StealTurns", spec := "stealTurns", unfollowed := true, recurses := true, named := ["scrim/cipher.shapes", "scrim/twofish.shrinkRows", "scrim/twofish.orders", "scrim/twofish.rows", "scrim/twofish.mixRows", "scrim/aria.rows1", "scrim/aria.rows2", "scrim/box.odd", "scrim/aria.turns", "scrim/aria.constants", "scrim/aria.sevens"], apart := false, laid := [("scrim/box.odd", laid_scrim_box_odd), ("scrim/aria.rows1", laid_scrim_aria_rows1), ("scrim/aria.rows2", laid_scrim_aria_rows2), ("scrim/aria.sevens", laid_scrim_aria_sevens), ("scrim/aria.constants", laid_scrim_aria_constants), ("scrim/aria.turns", laid_scrim_aria_turns), ("scrim/twofish.rows", laid_scrim_twofish_rows), ("scrim/twofish.orders", laid_scrim_twofish_orders), ("scrim/twofish.mixRows", laid_scrim_twofish_mixRows), ("scrim/twofish.shrinkRows", laid_scrim_twofish_shrinkRows), ("scrim/cipher.shapes", laid_scrim_cipher_shapes)] }
def StealTurnsSaid : Prop := stealTurnsRow.holds Tryz.pinned (OpenSpec.ofChange stealTurnsSpec)

/-- ITS FALSE NEIGHBOUR: 'it returns false'. Refute it at one input. -/
def stealTurnsWrong : ChangeSpec := { name := "stealTurns", fn := fun _ => fun
  | [d1, d2, d3, d4, d5, d6] => { results := [.lit (.bool false)], args := [d1, d2, d3, d4, d5, d6] }
  | _ => none }
def StealTurnsWrongFalsely : Prop := stealTurnsRow.holds Tryz.pinned (OpenSpec.ofChange stealTurnsWrong)

/-- 'scrimlaw13.StealSpoilt': WHATEVER THE INPUT: true; the input reads as it did. -/
def stealSpoiltSpec : ChangeSpec := { name := "stealSpoilt", fn := fun _ => fun
  | [d1, d2, d3, d4, d5, d6, d7, d8] => { results := [.lit (.bool true)], args := [d1, d2, d3, d4, d5, d6, d7, d8] }
  | _ => none }
def stealSpoiltRow : OpenClaim := { program := "ytokbbmngfogbbaagreatdoor", sum := "150e4638b43bdf9c0f8aa29d2e1b9e103d3b6a606e9443f24bd8426d42171b7a", func := "scrim/scrimlaw13.StealSpoilt", spec := "stealSpoilt", unfollowed := true, recurses := true, named := ["scrim/cipher.shapes", "scrim/twofish.shrinkRows", "scrim/twofish.orders", "scrim/twofish.rows", "scrim/twofish.mixRows", "scrim/aria.rows1", "scrim/aria.rows2", "scrim/box.odd", "scrim/aria.turns", "scrim/aria.constants", "scrim/aria.sevens"], apart := false, laid := [("scrim/box.odd", laid_scrim_box_odd), ("scrim/aria.rows1", laid_scrim_aria_rows1), ("scrim/aria.rows2", laid_scrim_aria_rows2), ("scrim/aria.sevens", laid_scrim_aria_sevens), ("scrim/aria.constants", laid_scrim_aria_constants), ("scrim/aria.turns", laid_scrim_aria_turns), ("scrim/twofish.rows", laid_scrim_twofish_rows), ("scrim/twofish.orders", laid_scrim_twofish_orders), ("scrim/twofish.mixRows", laid_scrim_twofish_mixRows), ("scrim/twofish.shrinkRows", laid_scrim_twofish_shrinkRows), ("scrim/cipher.shapes", laid_scrim_cipher_shapes)] }
def StealSpoiltSaid : Prop := stealSpoiltRow.holds Tryz.pinned (OpenSpec.ofChange stealSpoiltSpec)

/-- ITS FALSE NEIGHBOUR: 'it returns false'. Refute it at one input. -/
def stealSpoiltWrong : ChangeSpec := { name := "stealSpoilt", fn := fun _ => fun
  | [d1, d2, d3, d4, d5, d6, d7, d8] => { results := [.lit (.bool false)], args := [d1, d2, d3, d4, d5, d6, d7, d8] }
  | _ => none }
def StealSpoiltWrongFalsely : Prop := stealSpoiltRow.holds Tryz.pinned (OpenSpec.ofChange stealSpoiltWrong)

/- THE SECOND FORM. 'bulk': how many values and letters a reading holds, each counted each time it is reached (what is shared counts as often as it is met; a slice's spare places count too). A statement '..UptoSaid' is the law's where the arguments, and the package variables that the reading takes, are together of bulk at most 1048576: NARROWER than '..Said'. Prove '..Said' where nothing that the law and all that it calls make is longer than what came in: it says more and counts as full. Else prove '..UptoSaid'. A law counts once. -/
mutual
def uptoBulk {H : Type} : DataW H → Nat
  | .lit (.string bytes) => bytes.length + 1
  | .lit _ => 1
  | .nil => 1
  | .ptr d => uptoBulk d + 1
  | .slice elems spare => uptoBulkAll elems + uptoBulkAll spare + 1
  | .agg parts => uptoBulkAll parts + 1
  | .iface _ d => uptoBulk d + 1
  | .map entries => uptoBulkEntries entries + 1
  | .held _ => 1
def uptoBulkAll {H : Type} : List (DataW H) → Nat
  | [] => 0
  | d :: r => uptoBulk d + uptoBulkAll r
def uptoBulkEntries {H : Type} : List (Lit × DataW H) → Nat
  | [] => 0
  | x :: r => uptoBulkEntry x + uptoBulkEntries r
def uptoBulkEntry {H : Type} : Lit × DataW H → Nat
  | (.string bytes, d) => bytes.length + uptoBulk d + 1
  | (_, d) => uptoBulk d + 1
 end
def uptoSmall : (H : Type) → List (DataW H) → Bool := fun _ ds => decide (uptoBulkAll ds ≤ 1048576)
def OpenSpec.upto (s : _root_.Go.ChangeSpec) : _root_.Go.OpenSpec := { _root_.Go.OpenSpec.ofChange s with cond := some uptoSmall }

/-- 'scrimlaw13.StealTails', WHERE WHAT IT READS IS OF BULK AT MOST 1048576: true; the input reads as it did. -/
def stealTailsUptoRow : OpenClaim := { program := "ytokbbmngfogbbaagreatdoor", sum := "150e4638b43bdf9c0f8aa29d2e1b9e103d3b6a606e9443f24bd8426d42171b7a", func := "scrim/scrimlaw13.StealTails", spec := "stealTails", unfollowed := true, recurses := true, named := ["scrim/cipher.shapes", "scrim/twofish.shrinkRows", "scrim/twofish.orders", "scrim/twofish.rows", "scrim/twofish.mixRows", "scrim/aria.rows1", "scrim/aria.rows2", "scrim/box.odd", "scrim/aria.turns", "scrim/aria.constants", "scrim/aria.sevens"], apart := false, laid := [("scrim/box.odd", laid_scrim_box_odd), ("scrim/aria.rows1", laid_scrim_aria_rows1), ("scrim/aria.rows2", laid_scrim_aria_rows2), ("scrim/aria.sevens", laid_scrim_aria_sevens), ("scrim/aria.constants", laid_scrim_aria_constants), ("scrim/aria.turns", laid_scrim_aria_turns), ("scrim/twofish.rows", laid_scrim_twofish_rows), ("scrim/twofish.orders", laid_scrim_twofish_orders), ("scrim/twofish.mixRows", laid_scrim_twofish_mixRows), ("scrim/twofish.shrinkRows", laid_scrim_twofish_shrinkRows), ("scrim/cipher.shapes", laid_scrim_cipher_shapes)], narrowed := true }
def StealTailsUptoSaid : Prop := stealTailsUptoRow.holds Tryz.pinned (OpenSpec.upto stealTailsSpec)

/-- 'scrimlaw13.StealBack', WHERE WHAT IT READS IS OF BULK AT MOST 1048576: true; the input reads as it did. -/
def stealBackUptoRow : OpenClaim := { program := "ytokbbmngfogbbaagreatdoor", sum := "150e4638b43bdf9c0f8aa29d2e1b9e103d3b6a606e9443f24bd8426d42171b7a", func := "scrim/scrimlaw13.StealBack", spec := "stealBack", unfollowed := true, recurses := true, named := ["scrim/cipher.shapes", "scrim/twofish.shrinkRows", "scrim/twofish.orders", "scrim/twofish.rows", "scrim/twofish.mixRows", "scrim/aria.rows1", "scrim/aria.rows2", "scrim/box.odd", "scrim/aria.turns", "scrim/aria.constants", "scrim/aria.sevens"], apart := false, laid := [("scrim/box.odd", laid_scrim_box_odd), ("scrim/aria.rows1", laid_scrim_aria_rows1), ("scrim/aria.rows2", laid_scrim_aria_rows2), ("scrim/aria.sevens", laid_scrim_aria_sevens), ("scrim/aria.constants", laid_scrim_aria_constants), ("scrim/aria.turns", laid_scrim_aria_turns), ("scrim/twofish.rows", laid_scrim_twofish_rows), ("scrim/twofish.orders", laid_scrim_twofish_orders), ("scrim/twofish.mixRows", laid_scrim_twofish_mixRows), ("scrim/twofish.shrinkRows", laid_scrim_twofish_shrinkRows), ("scrim/cipher.shapes", laid_scrim_cipher_shapes)], narrowed := true }
def StealBackUptoSaid : Prop := stealBackUptoRow.holds Tryz.pinned (OpenSpec.upto stealBackSpec)

/-- 'scrimlaw13.StealErrs', WHERE WHAT IT READS IS OF BULK AT MOST 1048576: true; the input reads as it did. -/
def stealErrsUptoRow : OpenClaim := { program := "ytokbbmngfogbbaagreatdoor", sum := "150e4638b43bdf9c0f8aa29d2e1b9e103d3b6a606e9443f24bd8426d42171b7a", func := "scrim/scrimlaw13.StealErrs", spec := "stealErrs", unfollowed := true, recurses := true, named := ["scrim/cipher.shapes", "scrim/twofish.shrinkRows", "scrim/twofish.orders", "scrim/twofish.rows", "scrim/twofish.mixRows", "scrim/aria.rows1", "scrim/aria.rows2", "scrim/box.odd", "scrim/aria.turns", "scrim/aria.constants", "scrim/aria.sevens"], apart := false, laid := [("scrim/box.odd", laid_scrim_box_odd), ("scrim/aria.rows1", laid_scrim_aria_rows1), ("scrim/aria.rows2", laid_scrim_aria_rows2), ("scrim/aria.sevens", laid_scrim_aria_sevens), ("scrim/aria.constants", laid_scrim_aria_constants), ("scrim/aria.turns", laid_scrim_aria_turns), ("scrim/twofish.rows", laid_scrim_twofish_rows), ("scrim/twofish.orders", laid_scrim_twofish_orders), ("scrim/twofish.mixRows", laid_scrim_twofish_mixRows), ("scrim/twofish.shrinkRows", laid_scrim_twofish_shrinkRows), ("scrim/cipher.shapes", laid_scrim_cipher_shapes)], narrowed := true }
def StealErrsUptoSaid : Prop := stealErrsUptoRow.holds Tryz.pinned (OpenSpec.upto stealErrsSpec)

/-- 'scrimlaw13.StealOrder', WHERE WHAT IT READS IS OF BULK AT MOST 1048576: true; the input reads as it did. -/
def stealOrderUptoRow : OpenClaim := { program := "ytokbbmngfogbbaagreatdoor", sum := "150e4638b43bdf9c0f8aa29d2e1b9e103d3b6a606e9443f24bd8426d42171b7a", func := "scrim/scrimlaw13.StealOrder", spec := "stealOrder", unfollowed := true, recurses := true, named := ["scrim/cipher.shapes", "scrim/twofish.shrinkRows", "scrim/twofish.orders", "scrim/twofish.rows", "scrim/twofish.mixRows", "scrim/aria.rows1", "scrim/aria.rows2", "scrim/box.odd", "scrim/aria.turns", "scrim/aria.constants", "scrim/aria.sevens"], apart := false, laid := [("scrim/box.odd", laid_scrim_box_odd), ("scrim/aria.rows1", laid_scrim_aria_rows1), ("scrim/aria.rows2", laid_scrim_aria_rows2), ("scrim/aria.sevens", laid_scrim_aria_sevens), ("scrim/aria.constants", laid_scrim_aria_constants), ("scrim/aria.turns", laid_scrim_aria_turns), ("scrim/twofish.rows", laid_scrim_twofish_rows), ("scrim/twofish.orders", laid_scrim_twofish_orders), ("scrim/twofish.mixRows", laid_scrim_twofish_mixRows), ("scrim/twofish.shrinkRows", laid_scrim_twofish_shrinkRows), ("scrim/cipher.shapes", laid_scrim_cipher_shapes)], narrowed := true }
def StealOrderUptoSaid : Prop := stealOrderUptoRow.holds Tryz.pinned (OpenSpec.upto stealOrderSpec)

/-- 'scrimlaw13.StealOne', WHERE WHAT IT READS IS OF BULK AT MOST 1048576: true; the input reads as it did. -/
def stealOneUptoRow : OpenClaim := { program := "ytokbbmngfogbbaagreatdoor", sum := "150e4638b43bdf9c0f8aa29d2e1b9e103d3b6a606e9443f24bd8426d42171b7a", func := "scrim/scrimlaw13.StealOne", spec := "stealOne", unfollowed := true, recurses := true, named := ["scrim/cipher.shapes", "scrim/twofish.shrinkRows", "scrim/twofish.orders", "scrim/twofish.rows", "scrim/twofish.mixRows", "scrim/aria.rows1", "scrim/aria.rows2", "scrim/box.odd", "scrim/aria.turns", "scrim/aria.constants", "scrim/aria.sevens"], apart := false, laid := [("scrim/box.odd", laid_scrim_box_odd), ("scrim/aria.rows1", laid_scrim_aria_rows1), ("scrim/aria.rows2", laid_scrim_aria_rows2), ("scrim/aria.sevens", laid_scrim_aria_sevens), ("scrim/aria.constants", laid_scrim_aria_constants), ("scrim/aria.turns", laid_scrim_aria_turns), ("scrim/twofish.rows", laid_scrim_twofish_rows), ("scrim/twofish.orders", laid_scrim_twofish_orders), ("scrim/twofish.mixRows", laid_scrim_twofish_mixRows), ("scrim/twofish.shrinkRows", laid_scrim_twofish_shrinkRows), ("scrim/cipher.shapes", laid_scrim_cipher_shapes)], narrowed := true }
def StealOneUptoSaid : Prop := stealOneUptoRow.holds Tryz.pinned (OpenSpec.upto stealOneSpec)

/-- 'scrimlaw13.StealTurns', WHERE WHAT IT READS IS OF BULK AT MOST 1048576: true; the input reads as it did. -/
def stealTurnsUptoRow : OpenClaim := { program := "ytokbbmngfogbbaagreatdoor", sum := "150e4638b43bdf9c0f8aa29d2e1b9e103d3b6a606e9443f24bd8426d42171b7a", func := "scrim/scrimlaw13.StealTurns", spec := "stealTurns", unfollowed := true, recurses := true, named := ["scrim/cipher.shapes", "scrim/twofish.shrinkRows", "scrim/twofish.orders", "scrim/twofish.rows", "scrim/twofish.mixRows", "scrim/aria.rows1", "scrim/aria.rows2", "scrim/box.odd", "scrim/aria.turns", "scrim/aria.constants", "scrim/aria.sevens"], apart := false, laid := [("scrim/box.odd", laid_scrim_box_odd), ("scrim/aria.rows1", laid_scrim_aria_rows1), ("scrim/aria.rows2", laid_scrim_aria_rows2), ("scrim/aria.sevens", laid_scrim_aria_sevens), ("scrim/aria.constants", laid_scrim_aria_constants), ("scrim/aria.turns", laid_scrim_aria_turns), ("scrim/twofish.rows", laid_scrim_twofish_rows), ("scrim/twofish.orders", laid_scrim_twofish_orders), ("scrim/twofish.mixRows", laid_scrim_twofish_mixRows), ("scrim/twofish.shrinkRows", laid_scrim_twofish_shrinkRows), ("scrim/cipher.shapes", laid_scrim_cipher_shapes)], narrowed := true }
def StealTurnsUptoSaid : Prop := stealTurnsUptoRow.holds Tryz.pinned (OpenSpec.upto stealTurnsSpec)

/-- 'scrimlaw13.StealSpoilt', WHERE WHAT IT READS IS OF BULK AT MOST 1048576: true; the input reads as it did. -/
def stealSpoiltUptoRow : OpenClaim := { program := "ytokbbmngfogbbaagreatdoor", sum := "150e4638b43bdf9c0f8aa29d2e1b9e103d3b6a606e9443f24bd8426d42171b7a", func := "scrim/scrimlaw13.StealSpoilt", spec := "stealSpoilt", unfollowed := true, recurses := true, named := ["scrim/cipher.shapes", "scrim/twofish.shrinkRows", "scrim/twofish.orders", "scrim/twofish.rows", "scrim/twofish.mixRows", "scrim/aria.rows1", "scrim/aria.rows2", "scrim/box.odd", "scrim/aria.turns", "scrim/aria.constants", "scrim/aria.sevens"], apart := false, laid := [("scrim/box.odd", laid_scrim_box_odd), ("scrim/aria.rows1", laid_scrim_aria_rows1), ("scrim/aria.rows2", laid_scrim_aria_rows2), ("scrim/aria.sevens", laid_scrim_aria_sevens), ("scrim/aria.constants", laid_scrim_aria_constants), ("scrim/aria.turns", laid_scrim_aria_turns), ("scrim/twofish.rows", laid_scrim_twofish_rows), ("scrim/twofish.orders", laid_scrim_twofish_orders), ("scrim/twofish.mixRows", laid_scrim_twofish_mixRows), ("scrim/twofish.shrinkRows", laid_scrim_twofish_shrinkRows), ("scrim/cipher.shapes", laid_scrim_cipher_shapes)], narrowed := true }
def StealSpoiltUptoSaid : Prop := stealSpoiltUptoRow.holds Tryz.pinned (OpenSpec.upto stealSpoiltSpec)

end Rows
end Go.Proofs.YtokbbmngfogbbaaGreatDoor
