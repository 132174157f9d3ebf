/-
  NARROWER THAN 'FOR EVERY INPUT', by the rows' own cells (each row's printed sentence says how): DesKeys: laid · DesParity: laid · DesThree: laid · DesTurned: laid · DesWeak: laid · DesRounds: laid · DesWide: laid.
  DERIVED. THE GIVEN ROWS OF THIS SEAT. 7 by the template 'for every input the law returns true; each argument reads behind the call as it read before'; 0 by the template 'total and deterministic' (their statements: YthfcndaccfpnmaaDoorTotals.lean).
  GIVEN WITH THE SEED: the statements are not yours to turn. If you find one false, say at which input.
  Laid BY PROGRAM, IN A SANDBOX (cutbox-rows.mjs): the forced cells as the released guide's own fill.sh prints them over the translation 67bc135871dca1b1… (all of the seat's roots in one cut). By AI agents, Wed Nov 11 2026. No macro, syntax, notation, axiom, sorry.
-/
import Derived.Test.YthfcndaccfpnmaaDoorChecked
import GoSem.Claim
import GoSem.ClaimJoined
import GoSem.ClaimMapViews
import Derived.JoinedTies
import Derived.KernelRfl
namespace Go.Proofs.YthfcndaccfpnmaaDoor
/- THE CELL 'sum', in the pinned program and in every row, IS THE sha256 OF THE DUMP (.gsa) THAT YthfcndaccfpnmaaDoorProg.lean LOADS. Nothing in Lean hashes anything: it is a label: what it is worth is what the hold of that sum in a sandbox is worth. -/
noncomputable def Tryd.pinned : Pinned := { name := "ythfcndaccfpnmaadoor", sum := "67bc135871dca1b161217f066bcfc2c20e03cbaaf14ef699e7fa567c8707611c", checked := Tryd.checked }
namespace Rows
def none {H : Type} : Left H := { results := [], args := [] }

/- WHAT THE LISTED PACKAGE-LEVEL VARIABLES READ AS WHEN THE CALL BEGINS. Each datum BY PROGRAM (the guide's laid-datum.mjs) off the statement by which the dump's own 'gosem.cut.vars' lays the variable. In a bare row this is a premise. The card (YthfcndaccfpnmaaDoorCards.lean) ties it to the program's text. -/
def laid_scrim_des_boxes {H : Type} : DataW H := .agg [.agg [.lit (.int .u64 16488012179080763655), .lit (.int .u64 1113764397941757240), .lit (.int .u64 4749281291471895120), .lit (.int .u64 18195185809194131565)], .agg [.lit (.int .u64 17405967483452375130), .lit (.int .u64 4415764654582294965), .lit (.int .u64 1043608957710930735), .lit (.int .u64 15609827339204822505)], .agg [.lit (.int .u64 11573797996806517800), .lit (.int .u64 15494973623493381105), .lit (.int .u64 15441030236710132455), .lit (.int .u64 1932160270023767340)], .agg [.lit (.int .u64 9071101333259795535), .lit (.int .u64 15615509342846720745), .lit (.int .u64 12002316748721115780), .lit (.int .u64 4541495225823774510)], .agg [.lit (.int .u64 3188964935493210345), .lit (.int .u64 16945998462220646790), .lit (.int .u64 4763591765972574990), .lit (.int .u64 13314644003829425235)], .agg [.lit (.int .u64 13956534745840281435), .lit (.int .u64 12628793286134205240), .lit (.int .u64 11454106047154363830), .lit (.int .u64 4840408603680006285)], .agg [.lit (.int .u64 5417531891170892385), .lit (.int .u64 15039569860459507590), .lit (.int .u64 1494565600232998290), .lit (.int .u64 7770983867020730940)], .agg [.lit (.int .u64 15169372253730001095), .lit (.int .u64 2294763732068929170), .lit (.int .u64 8881552434739934040), .lit (.int .u64 2443003296559936875)]]

/-- 'scrimlaw6.DesKeys': WHATEVER THE INPUT: true; the input reads as it did. -/
def desKeysSpec : ChangeSpec := { name := "desKeys", fn := fun _ => fun
  | [d1, d2, d3, d4] => { results := [.lit (.bool true)], args := [d1, d2, d3, d4] }
  | _ => none }
def desKeysRow : OpenClaim := { program := "ythfcndaccfpnmaadoor", sum := "67bc135871dca1b161217f066bcfc2c20e03cbaaf14ef699e7fa567c8707611c", func := "scrim/scrimlaw6.DesKeys", spec := "desKeys", named := ["scrim/des.boxes"], apart := false, laid := [("scrim/des.boxes", laid_scrim_des_boxes)] }
def DesKeysSaid : Prop := desKeysRow.holds Tryd.pinned (OpenSpec.ofChange desKeysSpec)

/-- ITS FALSE NEIGHBOUR: 'it returns false'. Refute it at one input. -/
def desKeysWrong : ChangeSpec := { name := "desKeys", fn := fun _ => fun
  | [d1, d2, d3, d4] => { results := [.lit (.bool false)], args := [d1, d2, d3, d4] }
  | _ => none }
def DesKeysWrongFalsely : Prop := desKeysRow.holds Tryd.pinned (OpenSpec.ofChange desKeysWrong)

/-- 'scrimlaw6.DesParity': WHATEVER THE INPUT: true; the input reads as it did. -/
def desParitySpec : ChangeSpec := { name := "desParity", fn := fun _ => fun
  | [d1, d2, d3, d4] => { results := [.lit (.bool true)], args := [d1, d2, d3, d4] }
  | _ => none }
def desParityRow : OpenClaim := { program := "ythfcndaccfpnmaadoor", sum := "67bc135871dca1b161217f066bcfc2c20e03cbaaf14ef699e7fa567c8707611c", func := "scrim/scrimlaw6.DesParity", spec := "desParity", named := ["scrim/des.boxes"], apart := false, laid := [("scrim/des.boxes", laid_scrim_des_boxes)] }
def DesParitySaid : Prop := desParityRow.holds Tryd.pinned (OpenSpec.ofChange desParitySpec)

/-- ITS FALSE NEIGHBOUR: 'it returns false'. Refute it at one input. -/
def desParityWrong : ChangeSpec := { name := "desParity", fn := fun _ => fun
  | [d1, d2, d3, d4] => { results := [.lit (.bool false)], args := [d1, d2, d3, d4] }
  | _ => none }
def DesParityWrongFalsely : Prop := desParityRow.holds Tryd.pinned (OpenSpec.ofChange desParityWrong)

/-- 'scrimlaw6.DesThree': WHATEVER THE INPUT: true; the input reads as it did. -/
def desThreeSpec : ChangeSpec := { name := "desThree", fn := fun _ => fun
  | [d1, d2, d3, d4] => { results := [.lit (.bool true)], args := [d1, d2, d3, d4] }
  | _ => none }
def desThreeRow : OpenClaim := { program := "ythfcndaccfpnmaadoor", sum := "67bc135871dca1b161217f066bcfc2c20e03cbaaf14ef699e7fa567c8707611c", func := "scrim/scrimlaw6.DesThree", spec := "desThree", named := ["scrim/des.boxes"], apart := false, laid := [("scrim/des.boxes", laid_scrim_des_boxes)] }
def DesThreeSaid : Prop := desThreeRow.holds Tryd.pinned (OpenSpec.ofChange desThreeSpec)

/-- ITS FALSE NEIGHBOUR: 'it returns false'. Refute it at one input. -/
def desThreeWrong : ChangeSpec := { name := "desThree", fn := fun _ => fun
  | [d1, d2, d3, d4] => { results := [.lit (.bool false)], args := [d1, d2, d3, d4] }
  | _ => none }
def DesThreeWrongFalsely : Prop := desThreeRow.holds Tryd.pinned (OpenSpec.ofChange desThreeWrong)

/-- 'scrimlaw6.DesTurned': WHATEVER THE INPUT: true; the input reads as it did. -/
def desTurnedSpec : ChangeSpec := { name := "desTurned", fn := fun _ => fun
  | [d1, d2, d3] => { results := [.lit (.bool true)], args := [d1, d2, d3] }
  | _ => none }
def desTurnedRow : OpenClaim := { program := "ythfcndaccfpnmaadoor", sum := "67bc135871dca1b161217f066bcfc2c20e03cbaaf14ef699e7fa567c8707611c", func := "scrim/scrimlaw6.DesTurned", spec := "desTurned", named := ["scrim/des.boxes"], apart := false, laid := [("scrim/des.boxes", laid_scrim_des_boxes)] }
def DesTurnedSaid : Prop := desTurnedRow.holds Tryd.pinned (OpenSpec.ofChange desTurnedSpec)

/-- ITS FALSE NEIGHBOUR: 'it returns false'. Refute it at one input. -/
def desTurnedWrong : ChangeSpec := { name := "desTurned", fn := fun _ => fun
  | [d1, d2, d3] => { results := [.lit (.bool false)], args := [d1, d2, d3] }
  | _ => none }
def DesTurnedWrongFalsely : Prop := desTurnedRow.holds Tryd.pinned (OpenSpec.ofChange desTurnedWrong)

/-- 'scrimlaw6.DesWeak': WHATEVER THE INPUT: true; the input reads as it did. -/
def desWeakSpec : ChangeSpec := { name := "desWeak", fn := fun _ => fun
  | [d1, d2] => { results := [.lit (.bool true)], args := [d1, d2] }
  | _ => none }
def desWeakRow : OpenClaim := { program := "ythfcndaccfpnmaadoor", sum := "67bc135871dca1b161217f066bcfc2c20e03cbaaf14ef699e7fa567c8707611c", func := "scrim/scrimlaw6.DesWeak", spec := "desWeak", named := ["scrim/des.boxes"], apart := false, laid := [("scrim/des.boxes", laid_scrim_des_boxes)] }
def DesWeakSaid : Prop := desWeakRow.holds Tryd.pinned (OpenSpec.ofChange desWeakSpec)

/-- ITS FALSE NEIGHBOUR: 'it returns false'. Refute it at one input. -/
def desWeakWrong : ChangeSpec := { name := "desWeak", fn := fun _ => fun
  | [d1, d2] => { results := [.lit (.bool false)], args := [d1, d2] }
  | _ => none }
def DesWeakWrongFalsely : Prop := desWeakRow.holds Tryd.pinned (OpenSpec.ofChange desWeakWrong)

/-- 'scrimlaw6.DesRounds': WHATEVER THE INPUT: true; the input reads as it did. -/
def desRoundsSpec : ChangeSpec := { name := "desRounds", fn := fun _ => fun
  | [d1, d2, d3] => { results := [.lit (.bool true)], args := [d1, d2, d3] }
  | _ => none }
def desRoundsRow : OpenClaim := { program := "ythfcndaccfpnmaadoor", sum := "67bc135871dca1b161217f066bcfc2c20e03cbaaf14ef699e7fa567c8707611c", func := "scrim/scrimlaw6.DesRounds", spec := "desRounds", named := ["scrim/des.boxes"], apart := false, laid := [("scrim/des.boxes", laid_scrim_des_boxes)] }
def DesRoundsSaid : Prop := desRoundsRow.holds Tryd.pinned (OpenSpec.ofChange desRoundsSpec)

/-- ITS FALSE NEIGHBOUR: 'it returns false'. Refute it at one input. -/
def desRoundsWrong : ChangeSpec := { name := "desRounds", fn := fun _ => fun
  | [d1, d2, d3] => { results := [.lit (.bool false)], args := [d1, d2, d3] }
  | _ => none }
def DesRoundsWrongFalsely : Prop := desRoundsRow.holds Tryd.pinned (OpenSpec.ofChange desRoundsWrong)

/-- 'scrimlaw6.DesWide': WHATEVER THE INPUT: true; the input reads as it did. -/
def desWideSpec : ChangeSpec := { name := "desWide", fn := fun _ => fun
  | [d1, d2, d3] => { results := [.lit (.bool true)], args := [d1, d2, d3] }
  | _ => none }
def desWideRow : OpenClaim := { program := "ythfcndaccfpnmaadoor", sum := "67bc135871dca1b161217f066bcfc2c20e03cbaaf14ef699e7fa567c8707611c", func := "scrim/scrimlaw6.DesWide", spec := "desWide", named := ["scrim/des.boxes"], apart := false, laid := [("scrim/des.boxes", laid_scrim_des_boxes)] }
def DesWideSaid : Prop := desWideRow.holds Tryd.pinned (OpenSpec.ofChange desWideSpec)

/-- ITS FALSE NEIGHBOUR: 'it returns false'. Refute it at one input. -/
def desWideWrong : ChangeSpec := { name := "desWide", fn := fun _ => fun
  | [d1, d2, d3] => { results := [.lit (.bool false)], args := [d1, d2, d3] }
  | _ => none }
def DesWideWrongFalsely : Prop := desWideRow.holds Tryd.pinned (OpenSpec.ofChange desWideWrong)

/- THE SECOND FORM. 'bulk': how many values and letters a reading holds, each counted each time it is reached (what is shared counts as often as it is met; a slice's spare places count too). A statement '..UptoSaid' is the law's where the arguments, and the package variables that the reading takes, are together of bulk at most 1048576: NARROWER than '..Said'. Prove '..Said' where nothing that the law and all that it calls make is longer than what came in: it says more and counts as full. Else prove '..UptoSaid'. A law counts once. -/
mutual
def uptoBulk {H : Type} : DataW H → Nat
  | .lit (.string bytes) => bytes.length + 1
  | .lit _ => 1
  | .nil => 1
  | .ptr d => uptoBulk d + 1
  | .slice elems spare => uptoBulkAll elems + uptoBulkAll spare + 1
  | .agg parts => uptoBulkAll parts + 1
  | .iface _ d => uptoBulk d + 1
  | .map entries => uptoBulkEntries entries + 1
  | .held _ => 1
def uptoBulkAll {H : Type} : List (DataW H) → Nat
  | [] => 0
  | d :: r => uptoBulk d + uptoBulkAll r
def uptoBulkEntries {H : Type} : List (Lit × DataW H) → Nat
  | [] => 0
  | x :: r => uptoBulkEntry x + uptoBulkEntries r
def uptoBulkEntry {H : Type} : Lit × DataW H → Nat
  | (.string bytes, d) => bytes.length + uptoBulk d + 1
  | (_, d) => uptoBulk d + 1
 end
def uptoSmall : (H : Type) → List (DataW H) → Bool := fun _ ds => decide (uptoBulkAll ds ≤ 1048576)
def OpenSpec.upto (s : _root_.Go.ChangeSpec) : _root_.Go.OpenSpec := { _root_.Go.OpenSpec.ofChange s with cond := some uptoSmall }

/-- 'scrimlaw6.DesKeys', WHERE WHAT IT READS IS OF BULK AT MOST 1048576: true; the input reads as it did. -/
def desKeysUptoRow : OpenClaim := { program := "ythfcndaccfpnmaadoor", sum := "67bc135871dca1b161217f066bcfc2c20e03cbaaf14ef699e7fa567c8707611c", func := "scrim/scrimlaw6.DesKeys", spec := "desKeys", named := ["scrim/des.boxes"], apart := false, laid := [("scrim/des.boxes", laid_scrim_des_boxes)], narrowed := true }
def DesKeysUptoSaid : Prop := desKeysUptoRow.holds Tryd.pinned (OpenSpec.upto desKeysSpec)

/-- 'scrimlaw6.DesParity', WHERE WHAT IT READS IS OF BULK AT MOST 1048576: true; the input reads as it did. -/
def desParityUptoRow : OpenClaim := { program := "ythfcndaccfpnmaadoor", sum := "67bc135871dca1b161217f066bcfc2c20e03cbaaf14ef699e7fa567c8707611c", func := "scrim/scrimlaw6.DesParity", spec := "desParity", named := ["scrim/des.boxes"], apart := false, laid := [("scrim/des.boxes", laid_scrim_des_boxes)], narrowed := true }
def DesParityUptoSaid : Prop := desParityUptoRow.holds Tryd.pinned (OpenSpec.upto desParitySpec)

/-- 'scrimlaw6.DesThree', WHERE WHAT IT READS IS OF BULK AT MOST 1048576: true; the input reads as it did. -/
def desThreeUptoRow : OpenClaim := { program := "ythfcndaccfpnmaadoor", sum := "67bc135871dca1b161217f066bcfc2c20e03cbaaf14ef699e7fa567c8707611c", func := "scrim/scrimlaw6.DesThree", spec := "desThree", named := ["scrim/des.boxes"], apart := false, laid := [("scrim/des.boxes", laid_scrim_des_boxes)], narrowed := true }
def DesThreeUptoSaid : Prop := desThreeUptoRow.holds Tryd.pinned (OpenSpec.upto desThreeSpec)

/-- 'scrimlaw6.DesTurned', WHERE WHAT IT READS IS OF BULK AT MOST 1048576: true; the input reads as it did. -/
def desTurnedUptoRow : OpenClaim := { program := "ythfcndaccfpnmaadoor", sum := "67bc135871dca1b161217f066bcfc2c20e03cbaaf14ef699e7fa567c8707611c", func := "scrim/scrimlaw6.DesTurned", spec := "desTurned", named := ["scrim/des.boxes"], apart := false, laid := [("scrim/des.boxes", laid_scrim_des_boxes)], narrowed := true }
def DesTurnedUptoSaid : Prop := desTurnedUptoRow.holds Tryd.pinned (OpenSpec.upto desTurnedSpec)

/-- 'scrimlaw6.DesWeak', WHERE WHAT IT READS IS OF BULK AT MOST 1048576: true; the input reads as it did. -/
def desWeakUptoRow : OpenClaim := { program := "ythfcndaccfpnmaadoor", sum := "67bc135871dca1b161217f066bcfc2c20e03cbaaf14ef699e7fa567c8707611c", func := "scrim/scrimlaw6.DesWeak", spec := "desWeak", named := ["scrim/des.boxes"], apart := false, laid := [("scrim/des.boxes", laid_scrim_des_boxes)], narrowed := true }
def DesWeakUptoSaid : Prop := desWeakUptoRow.holds Tryd.pinned (OpenSpec.upto desWeakSpec)

/-- 'scrimlaw6.DesRounds', WHERE WHAT IT READS IS OF BULK AT MOST 1048576: true; the input reads as it did. -/
def desRoundsUptoRow : OpenClaim := { program := "ythfcndaccfpnmaadoor", sum := "67bc135871dca1b161217f066bcfc2c20e03cbaaf14ef699e7fa567c8707611c", func := "scrim/scrimlaw6.DesRounds", spec := "desRounds", named := ["scrim/des.boxes"], apart := false, laid := [("scrim/des.boxes", laid_scrim_des_boxes)], narrowed := true }
def DesRoundsUptoSaid : Prop := desRoundsUptoRow.holds Tryd.pinned (OpenSpec.upto desRoundsSpec)

/-- 'scrimlaw6.DesWide', WHERE WHAT IT READS IS OF BULK AT MOST 1048576: true; the input reads as it did. -/
def desWideUptoRow : OpenClaim := { program := "ythfcndaccfpnmaadoor", sum := "67bc135871dca1b161217f066bcfc2c20e03cbaaf14ef699e7fa567c8707611c", func := "scrim/scrimlaw6.DesWide", spec := "desWide", named := ["scrim/des.boxes"], apart := false, laid := [("scrim/des.boxes", laid_scrim_des_boxes)], narrowed := true }
def DesWideUptoSaid : Prop := desWideUptoRow.holds Tryd.pinned (OpenSpec.upto desWideSpec)

end Rows
end Go.Proofs.YthfcndaccfpnmaaDoor
