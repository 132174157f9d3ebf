/-
  NARROWER THAN 'FOR EVERY INPUT', by the rows' own cells (each row's printed sentence says how): TwofishKeys: laid · TwofishQ: laid · TwofishH: laid · TwofishRounds: laid · TwofishWords: laid.
  DERIVED. THE GIVEN ROWS OF THIS SEAT. 5 by the template 'for every input the law returns true; each argument reads behind the call as it read before'; 0 by the template 'total and deterministic' (their statements: YtbdncalllfpodaaDoorTotals.lean).
  GIVEN WITH THE SEED: the statements are not yours to turn. If you find one false, say at which input.
  Laid BY PROGRAM, IN A SANDBOX (cutbox-rows.mjs): the forced cells as the released guide's own fill.sh prints them over the translation 56bd7889ab891d69… (all of the seat's roots in one cut). By AI agents, Wed Nov 11 2026. No macro, syntax, notation, axiom, sorry.
-/
import Derived.Test.YtbdncalllfpodaaDoorChecked
import GoSem.Claim
import GoSem.ClaimJoined
import GoSem.ClaimMapViews
import Derived.JoinedTies
import Derived.KernelRfl
namespace Go.Proofs.YtbdncalllfpodaaDoor
/- THE CELL 'sum', in the pinned program and in every row, IS THE sha256 OF THE DUMP (.gsa) THAT YtbdncalllfpodaaDoorProg.lean LOADS. Nothing in Lean hashes anything: it is a label: what it is worth is what the hold of that sum in a sandbox is worth. -/
noncomputable def Tryd.pinned : Pinned := { name := "ytbdncalllfpodaadoor", sum := "56bd7889ab891d69952f9bc1c94b7f132b46fb00f8b435b72102474e671a6a35", checked := Tryd.checked }
namespace Rows
def none {H : Type} : Left H := { results := [], args := [] }

/- WHAT THE LISTED PACKAGE-LEVEL VARIABLES READ AS WHEN THE CALL BEGINS. Each datum BY PROGRAM (the guide's laid-datum.mjs) off the statement by which the dump's own 'gosem.cut.vars' lays the variable. In a bare row this is a premise. The card (YtbdncalllfpodaaDoorCards.lean) ties it to the program's text. -/
def laid_scrim_twofish_rows {H : Type} : DataW H := .agg [.agg [.lit (.int .u64 9330736263711026340), .lit (.int .u64 17057403611612868765), .lit (.int .u64 13429291607479493745), .lit (.int .u64 15561082878731257290)], .agg [.lit (.int .u64 2935774584765680325), .lit (.int .u64 2173915046082902280), .lit (.int .u64 5509334570087492415), .lit (.int .u64 13353669730066440330)]]
def laid_scrim_twofish_orders {H : Type} : DataW H := .agg [.agg [.lit (.int .i64 1), .lit (.int .i64 0), .lit (.int .i64 1), .lit (.int .i64 0)], .agg [.lit (.int .i64 0), .lit (.int .i64 0), .lit (.int .i64 1), .lit (.int .i64 1)], .agg [.lit (.int .i64 0), .lit (.int .i64 1), .lit (.int .i64 0), .lit (.int .i64 1)], .agg [.lit (.int .i64 1), .lit (.int .i64 1), .lit (.int .i64 0), .lit (.int .i64 0)], .agg [.lit (.int .i64 1), .lit (.int .i64 0), .lit (.int .i64 0), .lit (.int .i64 1)]]
def laid_scrim_twofish_mixRows {H : Type} : DataW H := .agg [.agg [.lit (.int .u8 1), .lit (.int .u8 239), .lit (.int .u8 91), .lit (.int .u8 91)], .agg [.lit (.int .u8 91), .lit (.int .u8 239), .lit (.int .u8 239), .lit (.int .u8 1)], .agg [.lit (.int .u8 239), .lit (.int .u8 91), .lit (.int .u8 1), .lit (.int .u8 239)], .agg [.lit (.int .u8 239), .lit (.int .u8 1), .lit (.int .u8 239), .lit (.int .u8 91)]]
def laid_scrim_twofish_shrinkRows {H : Type} : DataW H := .agg [.agg [.lit (.int .u8 1), .lit (.int .u8 164), .lit (.int .u8 85), .lit (.int .u8 135), .lit (.int .u8 90), .lit (.int .u8 88), .lit (.int .u8 219), .lit (.int .u8 158)], .agg [.lit (.int .u8 164), .lit (.int .u8 86), .lit (.int .u8 130), .lit (.int .u8 243), .lit (.int .u8 30), .lit (.int .u8 198), .lit (.int .u8 104), .lit (.int .u8 229)], .agg [.lit (.int .u8 2), .lit (.int .u8 161), .lit (.int .u8 252), .lit (.int .u8 193), .lit (.int .u8 71), .lit (.int .u8 174), .lit (.int .u8 61), .lit (.int .u8 25)], .agg [.lit (.int .u8 164), .lit (.int .u8 85), .lit (.int .u8 135), .lit (.int .u8 90), .lit (.int .u8 88), .lit (.int .u8 219), .lit (.int .u8 158), .lit (.int .u8 3)]]

/-- 'scrimlaw9.TwofishKeys': WHATEVER THE INPUT: true; the input reads as it did. -/
def twofishKeysSpec : ChangeSpec := { name := "twofishKeys", fn := fun _ => fun
  | [d1, d2, d3] => { results := [.lit (.bool true)], args := [d1, d2, d3] }
  | _ => none }
def twofishKeysRow : OpenClaim := { program := "ytbdncalllfpodaadoor", sum := "56bd7889ab891d69952f9bc1c94b7f132b46fb00f8b435b72102474e671a6a35", func := "scrim/scrimlaw9.TwofishKeys", spec := "twofishKeys", unfollowed := true, recurses := true, named := ["scrim/twofish.shrinkRows", "scrim/twofish.orders", "scrim/twofish.rows", "scrim/twofish.mixRows"], apart := false, laid := [("scrim/twofish.rows", laid_scrim_twofish_rows), ("scrim/twofish.orders", laid_scrim_twofish_orders), ("scrim/twofish.mixRows", laid_scrim_twofish_mixRows), ("scrim/twofish.shrinkRows", laid_scrim_twofish_shrinkRows)] }
def TwofishKeysSaid : Prop := twofishKeysRow.holds Tryd.pinned (OpenSpec.ofChange twofishKeysSpec)

/-- ITS FALSE NEIGHBOUR: 'it returns false'. Refute it at one input. -/
def twofishKeysWrong : ChangeSpec := { name := "twofishKeys", fn := fun _ => fun
  | [d1, d2, d3] => { results := [.lit (.bool false)], args := [d1, d2, d3] }
  | _ => none }
def TwofishKeysWrongFalsely : Prop := twofishKeysRow.holds Tryd.pinned (OpenSpec.ofChange twofishKeysWrong)

/-- 'scrimlaw9.TwofishQ': WHATEVER THE INPUT: true; the input reads as it did. -/
def twofishQSpec : ChangeSpec := { name := "twofishQ", fn := fun _ => fun
  | [d1, d2] => { results := [.lit (.bool true)], args := [d1, d2] }
  | _ => none }
def twofishQRow : OpenClaim := { program := "ytbdncalllfpodaadoor", sum := "56bd7889ab891d69952f9bc1c94b7f132b46fb00f8b435b72102474e671a6a35", func := "scrim/scrimlaw9.TwofishQ", spec := "twofishQ", unfollowed := true, recurses := true, named := ["scrim/twofish.shrinkRows", "scrim/twofish.orders", "scrim/twofish.rows", "scrim/twofish.mixRows"], apart := false, laid := [("scrim/twofish.rows", laid_scrim_twofish_rows), ("scrim/twofish.orders", laid_scrim_twofish_orders), ("scrim/twofish.mixRows", laid_scrim_twofish_mixRows), ("scrim/twofish.shrinkRows", laid_scrim_twofish_shrinkRows)] }
def TwofishQSaid : Prop := twofishQRow.holds Tryd.pinned (OpenSpec.ofChange twofishQSpec)

/-- ITS FALSE NEIGHBOUR: 'it returns false'. Refute it at one input. -/
def twofishQWrong : ChangeSpec := { name := "twofishQ", fn := fun _ => fun
  | [d1, d2] => { results := [.lit (.bool false)], args := [d1, d2] }
  | _ => none }
def TwofishQWrongFalsely : Prop := twofishQRow.holds Tryd.pinned (OpenSpec.ofChange twofishQWrong)

/-- 'scrimlaw9.TwofishH': WHATEVER THE INPUT: true; the input reads as it did. -/
def twofishHSpec : ChangeSpec := { name := "twofishH", fn := fun _ => fun
  | [d1, d2, d3, d4, d5] => { results := [.lit (.bool true)], args := [d1, d2, d3, d4, d5] }
  | _ => none }
def twofishHRow : OpenClaim := { program := "ytbdncalllfpodaadoor", sum := "56bd7889ab891d69952f9bc1c94b7f132b46fb00f8b435b72102474e671a6a35", func := "scrim/scrimlaw9.TwofishH", spec := "twofishH", unfollowed := true, recurses := true, named := ["scrim/twofish.shrinkRows", "scrim/twofish.orders", "scrim/twofish.rows", "scrim/twofish.mixRows"], apart := false, laid := [("scrim/twofish.rows", laid_scrim_twofish_rows), ("scrim/twofish.orders", laid_scrim_twofish_orders), ("scrim/twofish.mixRows", laid_scrim_twofish_mixRows), ("scrim/twofish.shrinkRows", laid_scrim_twofish_shrinkRows)] }
def TwofishHSaid : Prop := twofishHRow.holds Tryd.pinned (OpenSpec.ofChange twofishHSpec)

/-- ITS FALSE NEIGHBOUR: 'it returns false'. Refute it at one input. -/
def twofishHWrong : ChangeSpec := { name := "twofishH", fn := fun _ => fun
  | [d1, d2, d3, d4, d5] => { results := [.lit (.bool false)], args := [d1, d2, d3, d4, d5] }
  | _ => none }
def TwofishHWrongFalsely : Prop := twofishHRow.holds Tryd.pinned (OpenSpec.ofChange twofishHWrong)

/-- 'scrimlaw9.TwofishRounds': WHATEVER THE INPUT: true; the input reads as it did. -/
def twofishRoundsSpec : ChangeSpec := { name := "twofishRounds", fn := fun _ => fun
  | [d1, d2, d3] => { results := [.lit (.bool true)], args := [d1, d2, d3] }
  | _ => none }
def twofishRoundsRow : OpenClaim := { program := "ytbdncalllfpodaadoor", sum := "56bd7889ab891d69952f9bc1c94b7f132b46fb00f8b435b72102474e671a6a35", func := "scrim/scrimlaw9.TwofishRounds", spec := "twofishRounds", unfollowed := true, recurses := true, named := ["scrim/twofish.shrinkRows", "scrim/twofish.orders", "scrim/twofish.rows", "scrim/twofish.mixRows"], apart := false, laid := [("scrim/twofish.rows", laid_scrim_twofish_rows), ("scrim/twofish.orders", laid_scrim_twofish_orders), ("scrim/twofish.mixRows", laid_scrim_twofish_mixRows), ("scrim/twofish.shrinkRows", laid_scrim_twofish_shrinkRows)] }
def TwofishRoundsSaid : Prop := twofishRoundsRow.holds Tryd.pinned (OpenSpec.ofChange twofishRoundsSpec)

/-- ITS FALSE NEIGHBOUR: 'it returns false'. Refute it at one input. -/
def twofishRoundsWrong : ChangeSpec := { name := "twofishRounds", fn := fun _ => fun
  | [d1, d2, d3] => { results := [.lit (.bool false)], args := [d1, d2, d3] }
  | _ => none }
def TwofishRoundsWrongFalsely : Prop := twofishRoundsRow.holds Tryd.pinned (OpenSpec.ofChange twofishRoundsWrong)

/-- 'scrimlaw9.TwofishWords': WHATEVER THE INPUT: true; the input reads as it did. -/
def twofishWordsSpec : ChangeSpec := { name := "twofishWords", fn := fun _ => fun
  | [d1, d2, d3, d4] => { results := [.lit (.bool true)], args := [d1, d2, d3, d4] }
  | _ => none }
def twofishWordsRow : OpenClaim := { program := "ytbdncalllfpodaadoor", sum := "56bd7889ab891d69952f9bc1c94b7f132b46fb00f8b435b72102474e671a6a35", func := "scrim/scrimlaw9.TwofishWords", spec := "twofishWords", unfollowed := true, recurses := true, named := ["scrim/twofish.shrinkRows", "scrim/twofish.orders", "scrim/twofish.rows", "scrim/twofish.mixRows"], apart := false, laid := [("scrim/twofish.rows", laid_scrim_twofish_rows), ("scrim/twofish.orders", laid_scrim_twofish_orders), ("scrim/twofish.mixRows", laid_scrim_twofish_mixRows), ("scrim/twofish.shrinkRows", laid_scrim_twofish_shrinkRows)] }
def TwofishWordsSaid : Prop := twofishWordsRow.holds Tryd.pinned (OpenSpec.ofChange twofishWordsSpec)

/-- ITS FALSE NEIGHBOUR: 'it returns false'. Refute it at one input. -/
def twofishWordsWrong : ChangeSpec := { name := "twofishWords", fn := fun _ => fun
  | [d1, d2, d3, d4] => { results := [.lit (.bool false)], args := [d1, d2, d3, d4] }
  | _ => none }
def TwofishWordsWrongFalsely : Prop := twofishWordsRow.holds Tryd.pinned (OpenSpec.ofChange twofishWordsWrong)

/- THE SECOND FORM. 'bulk': how many values and letters a reading holds, each counted each time it is reached (what is shared counts as often as it is met; a slice's spare places count too). A statement '..UptoSaid' is the law's where the arguments, and the package variables that the reading takes, are together of bulk at most 1048576: NARROWER than '..Said'. Prove '..Said' where nothing that the law and all that it calls make is longer than what came in: it says more and counts as full. Else prove '..UptoSaid'. A law counts once. -/
mutual
def uptoBulk {H : Type} : DataW H → Nat
  | .lit (.string bytes) => bytes.length + 1
  | .lit _ => 1
  | .nil => 1
  | .ptr d => uptoBulk d + 1
  | .slice elems spare => uptoBulkAll elems + uptoBulkAll spare + 1
  | .agg parts => uptoBulkAll parts + 1
  | .iface _ d => uptoBulk d + 1
  | .map entries => uptoBulkEntries entries + 1
  | .held _ => 1
def uptoBulkAll {H : Type} : List (DataW H) → Nat
  | [] => 0
  | d :: r => uptoBulk d + uptoBulkAll r
def uptoBulkEntries {H : Type} : List (Lit × DataW H) → Nat
  | [] => 0
  | x :: r => uptoBulkEntry x + uptoBulkEntries r
def uptoBulkEntry {H : Type} : Lit × DataW H → Nat
  | (.string bytes, d) => bytes.length + uptoBulk d + 1
  | (_, d) => uptoBulk d + 1
 end
def uptoSmall : (H : Type) → List (DataW H) → Bool := fun _ ds => decide (uptoBulkAll ds ≤ 1048576)
def OpenSpec.upto (s : _root_.Go.ChangeSpec) : _root_.Go.OpenSpec := { _root_.Go.OpenSpec.ofChange s with cond := some uptoSmall }

/-- 'scrimlaw9.TwofishKeys', WHERE WHAT IT READS IS OF BULK AT MOST 1048576: true; the input reads as it did. -/
def twofishKeysUptoRow : OpenClaim := { program := "ytbdncalllfpodaadoor", sum := "56bd7889ab891d69952f9bc1c94b7f132b46fb00f8b435b72102474e671a6a35", func := "scrim/scrimlaw9.TwofishKeys", spec := "twofishKeys", unfollowed := true, recurses := true, named := ["scrim/twofish.shrinkRows", "scrim/twofish.orders", "scrim/twofish.rows", "scrim/twofish.mixRows"], apart := false, laid := [("scrim/twofish.rows", laid_scrim_twofish_rows), ("scrim/twofish.orders", laid_scrim_twofish_orders), ("scrim/twofish.mixRows", laid_scrim_twofish_mixRows), ("scrim/twofish.shrinkRows", laid_scrim_twofish_shrinkRows)], narrowed := true }
def TwofishKeysUptoSaid : Prop := twofishKeysUptoRow.holds Tryd.pinned (OpenSpec.upto twofishKeysSpec)

/-- 'scrimlaw9.TwofishQ', WHERE WHAT IT READS IS OF BULK AT MOST 1048576: true; the input reads as it did. -/
def twofishQUptoRow : OpenClaim := { program := "ytbdncalllfpodaadoor", sum := "56bd7889ab891d69952f9bc1c94b7f132b46fb00f8b435b72102474e671a6a35", func := "scrim/scrimlaw9.TwofishQ", spec := "twofishQ", unfollowed := true, recurses := true, named := ["scrim/twofish.shrinkRows", "scrim/twofish.orders", "scrim/twofish.rows", "scrim/twofish.mixRows"], apart := false, laid := [("scrim/twofish.rows", laid_scrim_twofish_rows), ("scrim/twofish.orders", laid_scrim_twofish_orders), ("scrim/twofish.mixRows", laid_scrim_twofish_mixRows), ("scrim/twofish.shrinkRows", laid_scrim_twofish_shrinkRows)], narrowed := true }
def TwofishQUptoSaid : Prop := twofishQUptoRow.holds Tryd.pinned (OpenSpec.upto twofishQSpec)

/-- 'scrimlaw9.TwofishH', WHERE WHAT IT READS IS OF BULK AT MOST 1048576: true; the input reads as it did. -/
def twofishHUptoRow : OpenClaim := { program := "ytbdncalllfpodaadoor", sum := "56bd7889ab891d69952f9bc1c94b7f132b46fb00f8b435b72102474e671a6a35", func := "scrim/scrimlaw9.TwofishH", spec := "twofishH", unfollowed := true, recurses := true, named := ["scrim/twofish.shrinkRows", "scrim/twofish.orders", "scrim/twofish.rows", "scrim/twofish.mixRows"], apart := false, laid := [("scrim/twofish.rows", laid_scrim_twofish_rows), ("scrim/twofish.orders", laid_scrim_twofish_orders), ("scrim/twofish.mixRows", laid_scrim_twofish_mixRows), ("scrim/twofish.shrinkRows", laid_scrim_twofish_shrinkRows)], narrowed := true }
def TwofishHUptoSaid : Prop := twofishHUptoRow.holds Tryd.pinned (OpenSpec.upto twofishHSpec)

/-- 'scrimlaw9.TwofishRounds', WHERE WHAT IT READS IS OF BULK AT MOST 1048576: true; the input reads as it did. -/
def twofishRoundsUptoRow : OpenClaim := { program := "ytbdncalllfpodaadoor", sum := "56bd7889ab891d69952f9bc1c94b7f132b46fb00f8b435b72102474e671a6a35", func := "scrim/scrimlaw9.TwofishRounds", spec := "twofishRounds", unfollowed := true, recurses := true, named := ["scrim/twofish.shrinkRows", "scrim/twofish.orders", "scrim/twofish.rows", "scrim/twofish.mixRows"], apart := false, laid := [("scrim/twofish.rows", laid_scrim_twofish_rows), ("scrim/twofish.orders", laid_scrim_twofish_orders), ("scrim/twofish.mixRows", laid_scrim_twofish_mixRows), ("scrim/twofish.shrinkRows", laid_scrim_twofish_shrinkRows)], narrowed := true }
def TwofishRoundsUptoSaid : Prop := twofishRoundsUptoRow.holds Tryd.pinned (OpenSpec.upto twofishRoundsSpec)

/-- 'scrimlaw9.TwofishWords', WHERE WHAT IT READS IS OF BULK AT MOST 1048576: true; the input reads as it did. -/
def twofishWordsUptoRow : OpenClaim := { program := "ytbdncalllfpodaadoor", sum := "56bd7889ab891d69952f9bc1c94b7f132b46fb00f8b435b72102474e671a6a35", func := "scrim/scrimlaw9.TwofishWords", spec := "twofishWords", unfollowed := true, recurses := true, named := ["scrim/twofish.shrinkRows", "scrim/twofish.orders", "scrim/twofish.rows", "scrim/twofish.mixRows"], apart := false, laid := [("scrim/twofish.rows", laid_scrim_twofish_rows), ("scrim/twofish.orders", laid_scrim_twofish_orders), ("scrim/twofish.mixRows", laid_scrim_twofish_mixRows), ("scrim/twofish.shrinkRows", laid_scrim_twofish_shrinkRows)], narrowed := true }
def TwofishWordsUptoSaid : Prop := twofishWordsUptoRow.holds Tryd.pinned (OpenSpec.upto twofishWordsSpec)

end Rows
end Go.Proofs.YtbdncalllfpodaaDoor
