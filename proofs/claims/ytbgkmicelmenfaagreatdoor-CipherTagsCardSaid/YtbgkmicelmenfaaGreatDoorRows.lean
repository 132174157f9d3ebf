/-
  NARROWER THAN 'FOR EVERY INPUT', by the rows' own cells (each row's printed sentence says how): CipherBlocks: laid · CipherTags: laid · CipherBack: laid · CipherErrs: laid · CipherSame: laid · CipherMany: laid · CipherApart: laid · CipherTable: laid.
  DERIVED. THE GIVEN ROWS OF THIS SEAT. 8 by the template 'for every input the law returns true; each argument reads behind the call as it read before'; 0 by the template 'total and deterministic' (their statements: YtbgkmicelmenfaaGreatDoorTotals.lean).
  GIVEN WITH THE SEED: the statements are not yours to turn. If you find one false, say at which input.
  Laid BY PROGRAM, IN A SANDBOX (cutbox-rows.mjs): the forced cells as the released guide's own fill.sh prints them over the translation a5f3abb649b47b29… (all of the seat's roots in one cut). By AI agents, Wed Nov 11 2026. No macro, syntax, notation, axiom, sorry.
-/
import Derived.Test.YtbgkmicelmenfaaGreatDoorChecked
import GoSem.Claim
import GoSem.ClaimJoined
import GoSem.ClaimMapViews
import Derived.JoinedTies
import Derived.KernelRfl
namespace Go.Proofs.YtbgkmicelmenfaaGreatDoor
/- THE CELL 'sum', in the pinned program and in every row, IS THE sha256 OF THE DUMP (.gsa) THAT YtbgkmicelmenfaaGreatDoorProg.lean LOADS. Nothing in Lean hashes anything: it is a label: what it is worth is what the hold of that sum in a sandbox is worth. -/
noncomputable def Tryz.pinned : Pinned := { name := "ytbgkmicelmenfaagreatdoor", sum := "a5f3abb649b47b299b26e1e0e1e6a8f2e03515dced7a8fb64f9cb20a74941fe1", checked := Tryz.checked }
namespace Rows
def none {H : Type} : Left H := { results := [], args := [] }

/- WHAT THE LISTED PACKAGE-LEVEL VARIABLES READ AS WHEN THE CALL BEGINS. Each datum BY PROGRAM (the guide's laid-datum.mjs) off the statement by which the dump's own 'gosem.cut.vars' lays the variable. In a bare row this is a premise. The card (YtbgkmicelmenfaaGreatDoorCards.lean) ties it to the program's text. -/
def laid_scrim_box_odd {H : Type} : DataW H := .agg [.lit (.int .u8 0), .lit (.int .u8 1), .lit (.int .u8 1), .lit (.int .u8 0), .lit (.int .u8 1), .lit (.int .u8 0), .lit (.int .u8 0), .lit (.int .u8 1), .lit (.int .u8 1), .lit (.int .u8 0), .lit (.int .u8 0), .lit (.int .u8 1), .lit (.int .u8 0), .lit (.int .u8 1), .lit (.int .u8 1), .lit (.int .u8 0)]
def laid_scrim_aria_rows1 {H : Type} : DataW H := .agg [.lit (.int .u8 241), .lit (.int .u8 227), .lit (.int .u8 199), .lit (.int .u8 143), .lit (.int .u8 31), .lit (.int .u8 62), .lit (.int .u8 124), .lit (.int .u8 248)]
def laid_scrim_aria_rows2 {H : Type} : DataW H := .agg [.lit (.int .u8 122), .lit (.int .u8 188), .lit (.int .u8 235), .lit (.int .u8 185), .lit (.int .u8 52), .lit (.int .u8 129), .lit (.int .u8 186), .lit (.int .u8 203)]
def laid_scrim_aria_sevens {H : Type} : DataW H := .agg [.agg [.lit (.int .u8 3), .lit (.int .u8 4), .lit (.int .u8 6), .lit (.int .u8 8), .lit (.int .u8 9), .lit (.int .u8 13), .lit (.int .u8 14)], .agg [.lit (.int .u8 2), .lit (.int .u8 5), .lit (.int .u8 7), .lit (.int .u8 8), .lit (.int .u8 9), .lit (.int .u8 12), .lit (.int .u8 15)], .agg [.lit (.int .u8 1), .lit (.int .u8 4), .lit (.int .u8 6), .lit (.int .u8 10), .lit (.int .u8 11), .lit (.int .u8 12), .lit (.int .u8 15)], .agg [.lit (.int .u8 0), .lit (.int .u8 5), .lit (.int .u8 7), .lit (.int .u8 10), .lit (.int .u8 11), .lit (.int .u8 13), .lit (.int .u8 14)], .agg [.lit (.int .u8 0), .lit (.int .u8 2), .lit (.int .u8 5), .lit (.int .u8 8), .lit (.int .u8 11), .lit (.int .u8 14), .lit (.int .u8 15)], .agg [.lit (.int .u8 1), .lit (.int .u8 3), .lit (.int .u8 4), .lit (.int .u8 9), .lit (.int .u8 10), .lit (.int .u8 14), .lit (.int .u8 15)], .agg [.lit (.int .u8 0), .lit (.int .u8 2), .lit (.int .u8 7), .lit (.int .u8 9), .lit (.int .u8 10), .lit (.int .u8 12), .lit (.int .u8 13)], .agg [.lit (.int .u8 1), .lit (.int .u8 3), .lit (.int .u8 6), .lit (.int .u8 8), .lit (.int .u8 11), .lit (.int .u8 12), .lit (.int .u8 13)], .agg [.lit (.int .u8 0), .lit (.int .u8 1), .lit (.int .u8 4), .lit (.int .u8 7), .lit (.int .u8 10), .lit (.int .u8 13), .lit (.int .u8 15)], .agg [.lit (.int .u8 0), .lit (.int .u8 1), .lit (.int .u8 5), .lit (.int .u8 6), .lit (.int .u8 11), .lit (.int .u8 12), .lit (.int .u8 14)], .agg [.lit (.int .u8 2), .lit (.int .u8 3), .lit (.int .u8 5), .lit (.int .u8 6), .lit (.int .u8 8), .lit (.int .u8 13), .lit (.int .u8 15)], .agg [.lit (.int .u8 2), .lit (.int .u8 3), .lit (.int .u8 4), .lit (.int .u8 7), .lit (.int .u8 9), .lit (.int .u8 12), .lit (.int .u8 14)], .agg [.lit (.int .u8 1), .lit (.int .u8 2), .lit (.int .u8 6), .lit (.int .u8 7), .lit (.int .u8 9), .lit (.int .u8 11), .lit (.int .u8 12)], .agg [.lit (.int .u8 0), .lit (.int .u8 3), .lit (.int .u8 6), .lit (.int .u8 7), .lit (.int .u8 8), .lit (.int .u8 10), .lit (.int .u8 13)], .agg [.lit (.int .u8 0), .lit (.int .u8 3), .lit (.int .u8 4), .lit (.int .u8 5), .lit (.int .u8 9), .lit (.int .u8 11), .lit (.int .u8 14)], .agg [.lit (.int .u8 1), .lit (.int .u8 2), .lit (.int .u8 4), .lit (.int .u8 5), .lit (.int .u8 8), .lit (.int .u8 10), .lit (.int .u8 15)]]
def laid_scrim_aria_constants {H : Type} : DataW H := .agg [.agg [.lit (.int .u64 5871781006564002452), .lit (.int .u64 18308165927316385504)], .agg [.lit (.int .u64 7904181063698728992), .lit (.int .u64 18386141011142107824)], .agg [.lit (.int .u64 15821769039155751280), .lit (.int .u64 226472410124699918)]]
def laid_scrim_aria_turns {H : Type} : DataW H := .agg [.lit (.int .i64 (-19)), .lit (.int .i64 (-31)), .lit (.int .i64 61), .lit (.int .i64 31), .lit (.int .i64 19)]
def laid_scrim_twofish_rows {H : Type} : DataW H := .agg [.agg [.lit (.int .u64 9330736263711026340), .lit (.int .u64 17057403611612868765), .lit (.int .u64 13429291607479493745), .lit (.int .u64 15561082878731257290)], .agg [.lit (.int .u64 2935774584765680325), .lit (.int .u64 2173915046082902280), .lit (.int .u64 5509334570087492415), .lit (.int .u64 13353669730066440330)]]
def laid_scrim_twofish_orders {H : Type} : DataW H := .agg [.agg [.lit (.int .i64 1), .lit (.int .i64 0), .lit (.int .i64 1), .lit (.int .i64 0)], .agg [.lit (.int .i64 0), .lit (.int .i64 0), .lit (.int .i64 1), .lit (.int .i64 1)], .agg [.lit (.int .i64 0), .lit (.int .i64 1), .lit (.int .i64 0), .lit (.int .i64 1)], .agg [.lit (.int .i64 1), .lit (.int .i64 1), .lit (.int .i64 0), .lit (.int .i64 0)], .agg [.lit (.int .i64 1), .lit (.int .i64 0), .lit (.int .i64 0), .lit (.int .i64 1)]]
def laid_scrim_twofish_mixRows {H : Type} : DataW H := .agg [.agg [.lit (.int .u8 1), .lit (.int .u8 239), .lit (.int .u8 91), .lit (.int .u8 91)], .agg [.lit (.int .u8 91), .lit (.int .u8 239), .lit (.int .u8 239), .lit (.int .u8 1)], .agg [.lit (.int .u8 239), .lit (.int .u8 91), .lit (.int .u8 1), .lit (.int .u8 239)], .agg [.lit (.int .u8 239), .lit (.int .u8 1), .lit (.int .u8 239), .lit (.int .u8 91)]]
def laid_scrim_twofish_shrinkRows {H : Type} : DataW H := .agg [.agg [.lit (.int .u8 1), .lit (.int .u8 164), .lit (.int .u8 85), .lit (.int .u8 135), .lit (.int .u8 90), .lit (.int .u8 88), .lit (.int .u8 219), .lit (.int .u8 158)], .agg [.lit (.int .u8 164), .lit (.int .u8 86), .lit (.int .u8 130), .lit (.int .u8 243), .lit (.int .u8 30), .lit (.int .u8 198), .lit (.int .u8 104), .lit (.int .u8 229)], .agg [.lit (.int .u8 2), .lit (.int .u8 161), .lit (.int .u8 252), .lit (.int .u8 193), .lit (.int .u8 71), .lit (.int .u8 174), .lit (.int .u8 61), .lit (.int .u8 25)], .agg [.lit (.int .u8 164), .lit (.int .u8 85), .lit (.int .u8 135), .lit (.int .u8 90), .lit (.int .u8 88), .lit (.int .u8 219), .lit (.int .u8 158), .lit (.int .u8 3)]]
def laid_scrim_cipher_shapes {H : Type} : DataW H := .agg [.agg [.lit (.int .i64 0), .lit (.int .i64 0), .lit (.int .i64 0)], .agg [.lit (.int .i64 8), .lit (.int .i64 8), .lit (.int .i64 1)], .agg [.lit (.int .i64 8), .lit (.int .i64 16), .lit (.int .i64 2)], .agg [.lit (.int .i64 8), .lit (.int .i64 16), .lit (.int .i64 1)], .agg [.lit (.int .i64 8), .lit (.int .i64 16), .lit (.int .i64 1)], .agg [.lit (.int .i64 8), .lit (.int .i64 32), .lit (.int .i64 1)], .agg [.lit (.int .i64 16), .lit (.int .i64 16), .lit (.int .i64 3)], .agg [.lit (.int .i64 16), .lit (.int .i64 16), .lit (.int .i64 3)], .agg [.lit (.int .i64 8), .lit (.int .i64 16), .lit (.int .i64 1)]]
def laid_scrim_small_rows {H : Type} : DataW H := .agg [.lit (.int .u64 14151055197045457905), .lit (.int .u64 7504011124565064975), .lit (.int .u64 12923131554598013280), .lit (.int .u64 14421041636733959835), .lit (.int .u64 9176789496027329580), .lit (.int .u64 6770760489157870560), .lit (.int .u64 10242708500609292855), .lit (.int .u64 1724040293887941810)]
def laid_scrim_des_boxes {H : Type} : DataW H := .agg [.agg [.lit (.int .u64 16488012179080763655), .lit (.int .u64 1113764397941757240), .lit (.int .u64 4749281291471895120), .lit (.int .u64 18195185809194131565)], .agg [.lit (.int .u64 17405967483452375130), .lit (.int .u64 4415764654582294965), .lit (.int .u64 1043608957710930735), .lit (.int .u64 15609827339204822505)], .agg [.lit (.int .u64 11573797996806517800), .lit (.int .u64 15494973623493381105), .lit (.int .u64 15441030236710132455), .lit (.int .u64 1932160270023767340)], .agg [.lit (.int .u64 9071101333259795535), .lit (.int .u64 15615509342846720745), .lit (.int .u64 12002316748721115780), .lit (.int .u64 4541495225823774510)], .agg [.lit (.int .u64 3188964935493210345), .lit (.int .u64 16945998462220646790), .lit (.int .u64 4763591765972574990), .lit (.int .u64 13314644003829425235)], .agg [.lit (.int .u64 13956534745840281435), .lit (.int .u64 12628793286134205240), .lit (.int .u64 11454106047154363830), .lit (.int .u64 4840408603680006285)], .agg [.lit (.int .u64 5417531891170892385), .lit (.int .u64 15039569860459507590), .lit (.int .u64 1494565600232998290), .lit (.int .u64 7770983867020730940)], .agg [.lit (.int .u64 15169372253730001095), .lit (.int .u64 2294763732068929170), .lit (.int .u64 8881552434739934040), .lit (.int .u64 2443003296559936875)]]

/-- 'scrimlaw11.CipherBlocks': WHATEVER THE INPUT: true; the input reads as it did. -/
def cipherBlocksSpec : ChangeSpec := { name := "cipherBlocks", fn := fun _ => fun
  | [d1, d2, d3, d4] => { results := [.lit (.bool true)], args := [d1, d2, d3, d4] }
  | _ => none }
def cipherBlocksRow : OpenClaim := { program := "ytbgkmicelmenfaagreatdoor", sum := "a5f3abb649b47b299b26e1e0e1e6a8f2e03515dced7a8fb64f9cb20a74941fe1", func := "scrim/scrimlaw11.CipherBlocks", spec := "cipherBlocks", unfollowed := true, recurses := true, named := ["scrim/cipher.shapes", "scrim/twofish.shrinkRows", "scrim/twofish.orders", "scrim/twofish.rows", "scrim/twofish.mixRows", "scrim/aria.rows1", "scrim/aria.rows2", "scrim/box.odd", "scrim/aria.turns", "scrim/aria.constants", "scrim/aria.sevens"], apart := false, laid := [("scrim/box.odd", laid_scrim_box_odd), ("scrim/aria.rows1", laid_scrim_aria_rows1), ("scrim/aria.rows2", laid_scrim_aria_rows2), ("scrim/aria.sevens", laid_scrim_aria_sevens), ("scrim/aria.constants", laid_scrim_aria_constants), ("scrim/aria.turns", laid_scrim_aria_turns), ("scrim/twofish.rows", laid_scrim_twofish_rows), ("scrim/twofish.orders", laid_scrim_twofish_orders), ("scrim/twofish.mixRows", laid_scrim_twofish_mixRows), ("scrim/twofish.shrinkRows", laid_scrim_twofish_shrinkRows), ("scrim/cipher.shapes", laid_scrim_cipher_shapes)] }
def CipherBlocksSaid : Prop := cipherBlocksRow.holds Tryz.pinned (OpenSpec.ofChange cipherBlocksSpec)

/-- ITS FALSE NEIGHBOUR: 'it returns false'. Refute it at one input. -/
def cipherBlocksWrong : ChangeSpec := { name := "cipherBlocks", fn := fun _ => fun
  | [d1, d2, d3, d4] => { results := [.lit (.bool false)], args := [d1, d2, d3, d4] }
  | _ => none }
def CipherBlocksWrongFalsely : Prop := cipherBlocksRow.holds Tryz.pinned (OpenSpec.ofChange cipherBlocksWrong)

/-- 'scrimlaw11.CipherTags': WHATEVER THE INPUT: true; the input reads as it did. -/
def cipherTagsSpec : ChangeSpec := { name := "cipherTags", fn := fun _ => fun
  | [d1, d2, d3] => { results := [.lit (.bool true)], args := [d1, d2, d3] }
  | _ => none }
def cipherTagsRow : OpenClaim := { program := "ytbgkmicelmenfaagreatdoor", sum := "a5f3abb649b47b299b26e1e0e1e6a8f2e03515dced7a8fb64f9cb20a74941fe1", func := "scrim/scrimlaw11.CipherTags", spec := "cipherTags", unfollowed := true, recurses := true, named := ["scrim/cipher.shapes", "scrim/twofish.shrinkRows", "scrim/twofish.orders", "scrim/twofish.rows", "scrim/twofish.mixRows", "scrim/aria.rows1", "scrim/aria.rows2", "scrim/box.odd", "scrim/aria.turns", "scrim/aria.constants", "scrim/aria.sevens"], apart := false, laid := [("scrim/box.odd", laid_scrim_box_odd), ("scrim/aria.rows1", laid_scrim_aria_rows1), ("scrim/aria.rows2", laid_scrim_aria_rows2), ("scrim/aria.sevens", laid_scrim_aria_sevens), ("scrim/aria.constants", laid_scrim_aria_constants), ("scrim/aria.turns", laid_scrim_aria_turns), ("scrim/twofish.rows", laid_scrim_twofish_rows), ("scrim/twofish.orders", laid_scrim_twofish_orders), ("scrim/twofish.mixRows", laid_scrim_twofish_mixRows), ("scrim/twofish.shrinkRows", laid_scrim_twofish_shrinkRows), ("scrim/cipher.shapes", laid_scrim_cipher_shapes)] }
def CipherTagsSaid : Prop := cipherTagsRow.holds Tryz.pinned (OpenSpec.ofChange cipherTagsSpec)

/-- ITS FALSE NEIGHBOUR: 'it returns false'. Refute it at one input. -/
def cipherTagsWrong : ChangeSpec := { name := "cipherTags", fn := fun _ => fun
  | [d1, d2, d3] => { results := [.lit (.bool false)], args := [d1, d2, d3] }
  | _ => none }
def CipherTagsWrongFalsely : Prop := cipherTagsRow.holds Tryz.pinned (OpenSpec.ofChange cipherTagsWrong)

/-- 'scrimlaw11.CipherBack': WHATEVER THE INPUT: true; the input reads as it did. -/
def cipherBackSpec : ChangeSpec := { name := "cipherBack", fn := fun _ => fun
  | [d1, d2, d3, d4, d5] => { results := [.lit (.bool true)], args := [d1, d2, d3, d4, d5] }
  | _ => none }
def cipherBackRow : OpenClaim := { program := "ytbgkmicelmenfaagreatdoor", sum := "a5f3abb649b47b299b26e1e0e1e6a8f2e03515dced7a8fb64f9cb20a74941fe1", func := "scrim/scrimlaw11.CipherBack", spec := "cipherBack", unfollowed := true, recurses := true, named := ["scrim/cipher.shapes", "scrim/twofish.shrinkRows", "scrim/twofish.orders", "scrim/twofish.rows", "scrim/twofish.mixRows", "scrim/aria.rows1", "scrim/aria.rows2", "scrim/box.odd", "scrim/aria.turns", "scrim/aria.constants", "scrim/aria.sevens"], apart := false, laid := [("scrim/box.odd", laid_scrim_box_odd), ("scrim/aria.rows1", laid_scrim_aria_rows1), ("scrim/aria.rows2", laid_scrim_aria_rows2), ("scrim/aria.sevens", laid_scrim_aria_sevens), ("scrim/aria.constants", laid_scrim_aria_constants), ("scrim/aria.turns", laid_scrim_aria_turns), ("scrim/twofish.rows", laid_scrim_twofish_rows), ("scrim/twofish.orders", laid_scrim_twofish_orders), ("scrim/twofish.mixRows", laid_scrim_twofish_mixRows), ("scrim/twofish.shrinkRows", laid_scrim_twofish_shrinkRows), ("scrim/cipher.shapes", laid_scrim_cipher_shapes)] }
def CipherBackSaid : Prop := cipherBackRow.holds Tryz.pinned (OpenSpec.ofChange cipherBackSpec)

/-- ITS FALSE NEIGHBOUR: 'it returns false'. Refute it at one input. -/
def cipherBackWrong : ChangeSpec := { name := "cipherBack", fn := fun _ => fun
  | [d1, d2, d3, d4, d5] => { results := [.lit (.bool false)], args := [d1, d2, d3, d4, d5] }
  | _ => none }
def CipherBackWrongFalsely : Prop := cipherBackRow.holds Tryz.pinned (OpenSpec.ofChange cipherBackWrong)

/-- 'scrimlaw11.CipherErrs': WHATEVER THE INPUT: true; the input reads as it did. -/
def cipherErrsSpec : ChangeSpec := { name := "cipherErrs", fn := fun _ => fun
  | [d1, d2, d3, d4] => { results := [.lit (.bool true)], args := [d1, d2, d3, d4] }
  | _ => none }
def cipherErrsRow : OpenClaim := { program := "ytbgkmicelmenfaagreatdoor", sum := "a5f3abb649b47b299b26e1e0e1e6a8f2e03515dced7a8fb64f9cb20a74941fe1", func := "scrim/scrimlaw11.CipherErrs", spec := "cipherErrs", unfollowed := true, recurses := true, named := ["scrim/cipher.shapes", "scrim/twofish.shrinkRows", "scrim/twofish.orders", "scrim/twofish.rows", "scrim/twofish.mixRows", "scrim/aria.rows1", "scrim/aria.rows2", "scrim/box.odd", "scrim/aria.turns", "scrim/aria.constants", "scrim/aria.sevens"], apart := false, laid := [("scrim/box.odd", laid_scrim_box_odd), ("scrim/aria.rows1", laid_scrim_aria_rows1), ("scrim/aria.rows2", laid_scrim_aria_rows2), ("scrim/aria.sevens", laid_scrim_aria_sevens), ("scrim/aria.constants", laid_scrim_aria_constants), ("scrim/aria.turns", laid_scrim_aria_turns), ("scrim/twofish.rows", laid_scrim_twofish_rows), ("scrim/twofish.orders", laid_scrim_twofish_orders), ("scrim/twofish.mixRows", laid_scrim_twofish_mixRows), ("scrim/twofish.shrinkRows", laid_scrim_twofish_shrinkRows), ("scrim/cipher.shapes", laid_scrim_cipher_shapes)] }
def CipherErrsSaid : Prop := cipherErrsRow.holds Tryz.pinned (OpenSpec.ofChange cipherErrsSpec)

/-- ITS FALSE NEIGHBOUR: 'it returns false'. Refute it at one input. -/
def cipherErrsWrong : ChangeSpec := { name := "cipherErrs", fn := fun _ => fun
  | [d1, d2, d3, d4] => { results := [.lit (.bool false)], args := [d1, d2, d3, d4] }
  | _ => none }
def CipherErrsWrongFalsely : Prop := cipherErrsRow.holds Tryz.pinned (OpenSpec.ofChange cipherErrsWrong)

/-- 'scrimlaw11.CipherSame': WHATEVER THE INPUT: true; the input reads as it did. -/
def cipherSameSpec : ChangeSpec := { name := "cipherSame", fn := fun _ => fun
  | [d1, d2, d3, d4] => { results := [.lit (.bool true)], args := [d1, d2, d3, d4] }
  | _ => none }
def cipherSameRow : OpenClaim := { program := "ytbgkmicelmenfaagreatdoor", sum := "a5f3abb649b47b299b26e1e0e1e6a8f2e03515dced7a8fb64f9cb20a74941fe1", func := "scrim/scrimlaw11.CipherSame", spec := "cipherSame", unfollowed := true, recurses := true, named := ["scrim/cipher.shapes", "scrim/twofish.shrinkRows", "scrim/twofish.orders", "scrim/twofish.rows", "scrim/twofish.mixRows", "scrim/aria.rows1", "scrim/aria.rows2", "scrim/box.odd", "scrim/aria.turns", "scrim/aria.constants", "scrim/aria.sevens", "scrim/des.boxes", "scrim/small.rows"], apart := false, laid := [("scrim/box.odd", laid_scrim_box_odd), ("scrim/aria.rows1", laid_scrim_aria_rows1), ("scrim/aria.rows2", laid_scrim_aria_rows2), ("scrim/aria.sevens", laid_scrim_aria_sevens), ("scrim/aria.constants", laid_scrim_aria_constants), ("scrim/aria.turns", laid_scrim_aria_turns), ("scrim/small.rows", laid_scrim_small_rows), ("scrim/twofish.rows", laid_scrim_twofish_rows), ("scrim/twofish.orders", laid_scrim_twofish_orders), ("scrim/twofish.mixRows", laid_scrim_twofish_mixRows), ("scrim/twofish.shrinkRows", laid_scrim_twofish_shrinkRows), ("scrim/des.boxes", laid_scrim_des_boxes), ("scrim/cipher.shapes", laid_scrim_cipher_shapes)] }
def CipherSameSaid : Prop := cipherSameRow.holds Tryz.pinned (OpenSpec.ofChange cipherSameSpec)

/-- ITS FALSE NEIGHBOUR: 'it returns false'. Refute it at one input. -/
def cipherSameWrong : ChangeSpec := { name := "cipherSame", fn := fun _ => fun
  | [d1, d2, d3, d4] => { results := [.lit (.bool false)], args := [d1, d2, d3, d4] }
  | _ => none }
def CipherSameWrongFalsely : Prop := cipherSameRow.holds Tryz.pinned (OpenSpec.ofChange cipherSameWrong)

/-- 'scrimlaw11.CipherMany': WHATEVER THE INPUT: true; the input reads as it did. -/
def cipherManySpec : ChangeSpec := { name := "cipherMany", fn := fun _ => fun
  | [d1, d2, d3, d4, d5] => { results := [.lit (.bool true)], args := [d1, d2, d3, d4, d5] }
  | _ => none }
def cipherManyRow : OpenClaim := { program := "ytbgkmicelmenfaagreatdoor", sum := "a5f3abb649b47b299b26e1e0e1e6a8f2e03515dced7a8fb64f9cb20a74941fe1", func := "scrim/scrimlaw11.CipherMany", spec := "cipherMany", unfollowed := true, recurses := true, named := ["scrim/cipher.shapes", "scrim/twofish.shrinkRows", "scrim/twofish.orders", "scrim/twofish.rows", "scrim/twofish.mixRows", "scrim/aria.rows1", "scrim/aria.rows2", "scrim/box.odd", "scrim/aria.turns", "scrim/aria.constants", "scrim/aria.sevens"], apart := false, laid := [("scrim/box.odd", laid_scrim_box_odd), ("scrim/aria.rows1", laid_scrim_aria_rows1), ("scrim/aria.rows2", laid_scrim_aria_rows2), ("scrim/aria.sevens", laid_scrim_aria_sevens), ("scrim/aria.constants", laid_scrim_aria_constants), ("scrim/aria.turns", laid_scrim_aria_turns), ("scrim/twofish.rows", laid_scrim_twofish_rows), ("scrim/twofish.orders", laid_scrim_twofish_orders), ("scrim/twofish.mixRows", laid_scrim_twofish_mixRows), ("scrim/twofish.shrinkRows", laid_scrim_twofish_shrinkRows), ("scrim/cipher.shapes", laid_scrim_cipher_shapes)] }
def CipherManySaid : Prop := cipherManyRow.holds Tryz.pinned (OpenSpec.ofChange cipherManySpec)

/-- ITS FALSE NEIGHBOUR: 'it returns false'. Refute it at one input. -/
def cipherManyWrong : ChangeSpec := { name := "cipherMany", fn := fun _ => fun
  | [d1, d2, d3, d4, d5] => { results := [.lit (.bool false)], args := [d1, d2, d3, d4, d5] }
  | _ => none }
def CipherManyWrongFalsely : Prop := cipherManyRow.holds Tryz.pinned (OpenSpec.ofChange cipherManyWrong)

/-- 'scrimlaw11.CipherApart': WHATEVER THE INPUT: true; the input reads as it did. -/
def cipherApartSpec : ChangeSpec := { name := "cipherApart", fn := fun _ => fun
  | [d1, d2, d3, d4, d5, d6] => { results := [.lit (.bool true)], args := [d1, d2, d3, d4, d5, d6] }
  | _ => none }
def cipherApartRow : OpenClaim := { program := "ytbgkmicelmenfaagreatdoor", sum := "a5f3abb649b47b299b26e1e0e1e6a8f2e03515dced7a8fb64f9cb20a74941fe1", func := "scrim/scrimlaw11.CipherApart", spec := "cipherApart", unfollowed := true, recurses := true, named := ["scrim/cipher.shapes", "scrim/twofish.shrinkRows", "scrim/twofish.orders", "scrim/twofish.rows", "scrim/twofish.mixRows", "scrim/aria.rows1", "scrim/aria.rows2", "scrim/box.odd", "scrim/aria.turns", "scrim/aria.constants", "scrim/aria.sevens"], apart := false, laid := [("scrim/box.odd", laid_scrim_box_odd), ("scrim/aria.rows1", laid_scrim_aria_rows1), ("scrim/aria.rows2", laid_scrim_aria_rows2), ("scrim/aria.sevens", laid_scrim_aria_sevens), ("scrim/aria.constants", laid_scrim_aria_constants), ("scrim/aria.turns", laid_scrim_aria_turns), ("scrim/twofish.rows", laid_scrim_twofish_rows), ("scrim/twofish.orders", laid_scrim_twofish_orders), ("scrim/twofish.mixRows", laid_scrim_twofish_mixRows), ("scrim/twofish.shrinkRows", laid_scrim_twofish_shrinkRows), ("scrim/cipher.shapes", laid_scrim_cipher_shapes)] }
def CipherApartSaid : Prop := cipherApartRow.holds Tryz.pinned (OpenSpec.ofChange cipherApartSpec)

/-- ITS FALSE NEIGHBOUR: 'it returns false'. Refute it at one input. -/
def cipherApartWrong : ChangeSpec := { name := "cipherApart", fn := fun _ => fun
  | [d1, d2, d3, d4, d5, d6] => { results := [.lit (.bool false)], args := [d1, d2, d3, d4, d5, d6] }
  | _ => none }
def CipherApartWrongFalsely : Prop := cipherApartRow.holds Tryz.pinned (OpenSpec.ofChange cipherApartWrong)

/-- 'scrimlaw11.CipherTable': WHATEVER THE INPUT: true; the input reads as it did. -/
def cipherTableSpec : ChangeSpec := { name := "cipherTable", fn := fun _ => fun
  | [d] => { results := [.lit (.bool true)], args := [d] }
  | _ => none }
def cipherTableRow : OpenClaim := { program := "ytbgkmicelmenfaagreatdoor", sum := "a5f3abb649b47b299b26e1e0e1e6a8f2e03515dced7a8fb64f9cb20a74941fe1", func := "scrim/scrimlaw11.CipherTable", spec := "cipherTable", unfollowed := true, recurses := true, named := ["scrim/cipher.shapes", "scrim/twofish.shrinkRows", "scrim/twofish.orders", "scrim/twofish.rows", "scrim/twofish.mixRows", "scrim/aria.rows1", "scrim/aria.rows2", "scrim/box.odd", "scrim/aria.turns", "scrim/aria.constants", "scrim/aria.sevens"], apart := false, laid := [("scrim/box.odd", laid_scrim_box_odd), ("scrim/aria.rows1", laid_scrim_aria_rows1), ("scrim/aria.rows2", laid_scrim_aria_rows2), ("scrim/aria.sevens", laid_scrim_aria_sevens), ("scrim/aria.constants", laid_scrim_aria_constants), ("scrim/aria.turns", laid_scrim_aria_turns), ("scrim/twofish.rows", laid_scrim_twofish_rows), ("scrim/twofish.orders", laid_scrim_twofish_orders), ("scrim/twofish.mixRows", laid_scrim_twofish_mixRows), ("scrim/twofish.shrinkRows", laid_scrim_twofish_shrinkRows), ("scrim/cipher.shapes", laid_scrim_cipher_shapes)] }
def CipherTableSaid : Prop := cipherTableRow.holds Tryz.pinned (OpenSpec.ofChange cipherTableSpec)

/-- ITS FALSE NEIGHBOUR: 'it returns false'. Refute it at one input. -/
def cipherTableWrong : ChangeSpec := { name := "cipherTable", fn := fun _ => fun
  | [d] => { results := [.lit (.bool false)], args := [d] }
  | _ => none }
def CipherTableWrongFalsely : Prop := cipherTableRow.holds Tryz.pinned (OpenSpec.ofChange cipherTableWrong)

/- THE SECOND FORM. 'bulk': how many values and letters a reading holds, each counted each time it is reached (what is shared counts as often as it is met; a slice's spare places count too). A statement '..UptoSaid' is the law's where the arguments, and the package variables that the reading takes, are together of bulk at most 1048576: NARROWER than '..Said'. Prove '..Said' where nothing that the law and all that it calls make is longer than what came in: it says more and counts as full. Else prove '..UptoSaid'. A law counts once. -/
mutual
def uptoBulk {H : Type} : DataW H → Nat
  | .lit (.string bytes) => bytes.length + 1
  | .lit _ => 1
  | .nil => 1
  | .ptr d => uptoBulk d + 1
  | .slice elems spare => uptoBulkAll elems + uptoBulkAll spare + 1
  | .agg parts => uptoBulkAll parts + 1
  | .iface _ d => uptoBulk d + 1
  | .map entries => uptoBulkEntries entries + 1
  | .held _ => 1
def uptoBulkAll {H : Type} : List (DataW H) → Nat
  | [] => 0
  | d :: r => uptoBulk d + uptoBulkAll r
def uptoBulkEntries {H : Type} : List (Lit × DataW H) → Nat
  | [] => 0
  | x :: r => uptoBulkEntry x + uptoBulkEntries r
def uptoBulkEntry {H : Type} : Lit × DataW H → Nat
  | (.string bytes, d) => bytes.length + uptoBulk d + 1
  | (_, d) => uptoBulk d + 1
 end
def uptoSmall : (H : Type) → List (DataW H) → Bool := fun _ ds => decide (uptoBulkAll ds ≤ 1048576)
def OpenSpec.upto (s : _root_.Go.ChangeSpec) : _root_.Go.OpenSpec := { _root_.Go.OpenSpec.ofChange s with cond := some uptoSmall }

/-- 'scrimlaw11.CipherBlocks', WHERE WHAT IT READS IS OF BULK AT MOST 1048576: true; the input reads as it did. -/
def cipherBlocksUptoRow : OpenClaim := { program := "ytbgkmicelmenfaagreatdoor", sum := "a5f3abb649b47b299b26e1e0e1e6a8f2e03515dced7a8fb64f9cb20a74941fe1", func := "scrim/scrimlaw11.CipherBlocks", spec := "cipherBlocks", unfollowed := true, recurses := true, named := ["scrim/cipher.shapes", "scrim/twofish.shrinkRows", "scrim/twofish.orders", "scrim/twofish.rows", "scrim/twofish.mixRows", "scrim/aria.rows1", "scrim/aria.rows2", "scrim/box.odd", "scrim/aria.turns", "scrim/aria.constants", "scrim/aria.sevens"], apart := false, laid := [("scrim/box.odd", laid_scrim_box_odd), ("scrim/aria.rows1", laid_scrim_aria_rows1), ("scrim/aria.rows2", laid_scrim_aria_rows2), ("scrim/aria.sevens", laid_scrim_aria_sevens), ("scrim/aria.constants", laid_scrim_aria_constants), ("scrim/aria.turns", laid_scrim_aria_turns), ("scrim/twofish.rows", laid_scrim_twofish_rows), ("scrim/twofish.orders", laid_scrim_twofish_orders), ("scrim/twofish.mixRows", laid_scrim_twofish_mixRows), ("scrim/twofish.shrinkRows", laid_scrim_twofish_shrinkRows), ("scrim/cipher.shapes", laid_scrim_cipher_shapes)], narrowed := true }
def CipherBlocksUptoSaid : Prop := cipherBlocksUptoRow.holds Tryz.pinned (OpenSpec.upto cipherBlocksSpec)

/-- 'scrimlaw11.CipherTags', WHERE WHAT IT READS IS OF BULK AT MOST 1048576: true; the input reads as it did. -/
def cipherTagsUptoRow : OpenClaim := { program := "ytbgkmicelmenfaagreatdoor", sum := "a5f3abb649b47b299b26e1e0e1e6a8f2e03515dced7a8fb64f9cb20a74941fe1", func := "scrim/scrimlaw11.CipherTags", spec := "cipherTags", unfollowed := true, recurses := true, named := ["scrim/cipher.shapes", "scrim/twofish.shrinkRows", "scrim/twofish.orders", "scrim/twofish.rows", "scrim/twofish.mixRows", "scrim/aria.rows1", "scrim/aria.rows2", "scrim/box.odd", "scrim/aria.turns", "scrim/aria.constants", "scrim/aria.sevens"], apart := false, laid := [("scrim/box.odd", laid_scrim_box_odd), ("scrim/aria.rows1", laid_scrim_aria_rows1), ("scrim/aria.rows2", laid_scrim_aria_rows2), ("scrim/aria.sevens", laid_scrim_aria_sevens), ("scrim/aria.constants", laid_scrim_aria_constants), ("scrim/aria.turns", laid_scrim_aria_turns), ("scrim/twofish.rows", laid_scrim_twofish_rows), ("scrim/twofish.orders", laid_scrim_twofish_orders), ("scrim/twofish.mixRows", laid_scrim_twofish_mixRows), ("scrim/twofish.shrinkRows", laid_scrim_twofish_shrinkRows), ("scrim/cipher.shapes", laid_scrim_cipher_shapes)], narrowed := true }
def CipherTagsUptoSaid : Prop := cipherTagsUptoRow.holds Tryz.pinned (OpenSpec.upto cipherTagsSpec)

/-- 'scrimlaw11.CipherBack', WHERE WHAT IT READS IS OF BULK AT MOST 1048576: true; the input reads as it did. -/
def cipherBackUptoRow : OpenClaim := { program := "ytbgkmicelmenfaagreatdoor", sum := "a5f3abb649b47b299b26e1e0e1e6a8f2e03515dced7a8fb64f9cb20a74941fe1", func := "scrim/scrimlaw11.CipherBack", spec := "cipherBack", unfollowed := true, recurses := true, named := ["scrim/cipher.shapes", "scrim/twofish.shrinkRows", "scrim/twofish.orders", "scrim/twofish.rows", "scrim/twofish.mixRows", "scrim/aria.rows1", "scrim/aria.rows2", "scrim/box.odd", "scrim/aria.turns", "scrim/aria.constants", "scrim/aria.sevens"], apart := false, laid := [("scrim/box.odd", laid_scrim_box_odd), ("scrim/aria.rows1", laid_scrim_aria_rows1), ("scrim/aria.rows2", laid_scrim_aria_rows2), ("scrim/aria.sevens", laid_scrim_aria_sevens), ("scrim/aria.constants", laid_scrim_aria_constants), ("scrim/aria.turns", laid_scrim_aria_turns), ("scrim/twofish.rows", laid_scrim_twofish_rows), ("scrim/twofish.orders", laid_scrim_twofish_orders), ("scrim/twofish.mixRows", laid_scrim_twofish_mixRows), ("scrim/twofish.shrinkRows", laid_scrim_twofish_shrinkRows), ("scrim/cipher.shapes", laid_scrim_cipher_shapes)], narrowed := true }
def CipherBackUptoSaid : Prop := cipherBackUptoRow.holds Tryz.pinned (OpenSpec.upto cipherBackSpec)

/-- 'scrimlaw11.CipherErrs', WHERE WHAT IT READS IS OF BULK AT MOST 1048576: true; the input reads as it did. -/
def cipherErrsUptoRow : OpenClaim := { program := "ytbgkmicelmenfaagreatdoor", sum := "a5f3abb649b47b299b26e1e0e1e6a8f2e03515dced7a8fb64f9cb20a74941fe1", func := "scrim/scrimlaw11.CipherErrs", spec := "cipherErrs", unfollowed := true, recurses := true, named := ["scrim/cipher.shapes", "scrim/twofish.shrinkRows", "scrim/twofish.orders", "scrim/twofish.rows", "scrim/twofish.mixRows", "scrim/aria.rows1", "scrim/aria.rows2", "scrim/box.odd", "scrim/aria.turns", "scrim/aria.constants", "scrim/aria.sevens"], apart := false, laid := [("scrim/box.odd", laid_scrim_box_odd), ("scrim/aria.rows1", laid_scrim_aria_rows1), ("scrim/aria.rows2", laid_scrim_aria_rows2), ("scrim/aria.sevens", laid_scrim_aria_sevens), ("scrim/aria.constants", laid_scrim_aria_constants), ("scrim/aria.turns", laid_scrim_aria_turns), ("scrim/twofish.rows", laid_scrim_twofish_rows), ("scrim/twofish.orders", laid_scrim_twofish_orders), ("scrim/twofish.mixRows", laid_scrim_twofish_mixRows), ("scrim/twofish.shrinkRows", laid_scrim_twofish_shrinkRows), ("scrim/cipher.shapes", laid_scrim_cipher_shapes)], narrowed := true }
def CipherErrsUptoSaid : Prop := cipherErrsUptoRow.holds Tryz.pinned (OpenSpec.upto cipherErrsSpec)

/-- 'scrimlaw11.CipherSame', WHERE WHAT IT READS IS OF BULK AT MOST 1048576: true; the input reads as it did. -/
def cipherSameUptoRow : OpenClaim := { program := "ytbgkmicelmenfaagreatdoor", sum := "a5f3abb649b47b299b26e1e0e1e6a8f2e03515dced7a8fb64f9cb20a74941fe1", func := "scrim/scrimlaw11.CipherSame", spec := "cipherSame", unfollowed := true, recurses := true, named := ["scrim/cipher.shapes", "scrim/twofish.shrinkRows", "scrim/twofish.orders", "scrim/twofish.rows", "scrim/twofish.mixRows", "scrim/aria.rows1", "scrim/aria.rows2", "scrim/box.odd", "scrim/aria.turns", "scrim/aria.constants", "scrim/aria.sevens", "scrim/des.boxes", "scrim/small.rows"], apart := false, laid := [("scrim/box.odd", laid_scrim_box_odd), ("scrim/aria.rows1", laid_scrim_aria_rows1), ("scrim/aria.rows2", laid_scrim_aria_rows2), ("scrim/aria.sevens", laid_scrim_aria_sevens), ("scrim/aria.constants", laid_scrim_aria_constants), ("scrim/aria.turns", laid_scrim_aria_turns), ("scrim/small.rows", laid_scrim_small_rows), ("scrim/twofish.rows", laid_scrim_twofish_rows), ("scrim/twofish.orders", laid_scrim_twofish_orders), ("scrim/twofish.mixRows", laid_scrim_twofish_mixRows), ("scrim/twofish.shrinkRows", laid_scrim_twofish_shrinkRows), ("scrim/des.boxes", laid_scrim_des_boxes), ("scrim/cipher.shapes", laid_scrim_cipher_shapes)], narrowed := true }
def CipherSameUptoSaid : Prop := cipherSameUptoRow.holds Tryz.pinned (OpenSpec.upto cipherSameSpec)

/-- 'scrimlaw11.CipherMany', WHERE WHAT IT READS IS OF BULK AT MOST 1048576: true; the input reads as it did. -/
def cipherManyUptoRow : OpenClaim := { program := "ytbgkmicelmenfaagreatdoor", sum := "a5f3abb649b47b299b26e1e0e1e6a8f2e03515dced7a8fb64f9cb20a74941fe1", func := "scrim/scrimlaw11.CipherMany", spec := "cipherMany", unfollowed := true, recurses := true, named := ["scrim/cipher.shapes", "scrim/twofish.shrinkRows", "scrim/twofish.orders", "scrim/twofish.rows", "scrim/twofish.mixRows", "scrim/aria.rows1", "scrim/aria.rows2", "scrim/box.odd", "scrim/aria.turns", "scrim/aria.constants", "scrim/aria.sevens"], apart := false, laid := [("scrim/box.odd", laid_scrim_box_odd), ("scrim/aria.rows1", laid_scrim_aria_rows1), ("scrim/aria.rows2", laid_scrim_aria_rows2), ("scrim/aria.sevens", laid_scrim_aria_sevens), ("scrim/aria.constants", laid_scrim_aria_constants), ("scrim/aria.turns", laid_scrim_aria_turns), ("scrim/twofish.rows", laid_scrim_twofish_rows), ("scrim/twofish.orders", laid_scrim_twofish_orders), ("scrim/twofish.mixRows", laid_scrim_twofish_mixRows), ("scrim/twofish.shrinkRows", laid_scrim_twofish_shrinkRows), ("scrim/cipher.shapes", laid_scrim_cipher_shapes)], narrowed := true }
def CipherManyUptoSaid : Prop := cipherManyUptoRow.holds Tryz.pinned (OpenSpec.upto cipherManySpec)

/-- 'scrimlaw11.CipherApart', WHERE WHAT IT READS IS OF BULK AT MOST 1048576: true; the input reads as it did. -/
def cipherApartUptoRow : OpenClaim := { program := "ytbgkmicelmenfaagreatdoor", sum := "a5f3abb649b47b299b26e1e0e1e6a8f2e03515dced7a8fb64f9cb20a74941fe1", func := "scrim/scrimlaw11.CipherApart", spec := "cipherApart", unfollowed := true, recurses := true, named := ["scrim/cipher.shapes", "scrim/twofish.shrinkRows", "scrim/twofish.orders", "scrim/twofish.rows", "scrim/twofish.mixRows", "scrim/aria.rows1", "scrim/aria.rows2", "scrim/box.odd", "scrim/aria.turns", "scrim/aria.constants", "scrim/aria.sevens"], apart := false, laid := [("scrim/box.odd", laid_scrim_box_odd), ("scrim/aria.rows1", laid_scrim_aria_rows1), ("scrim/aria.rows2", laid_scrim_aria_rows2), ("scrim/aria.sevens", laid_scrim_aria_sevens), ("scrim/aria.constants", laid_scrim_aria_constants), ("scrim/aria.turns", laid_scrim_aria_turns), ("scrim/twofish.rows", laid_scrim_twofish_rows), ("scrim/twofish.orders", laid_scrim_twofish_orders), ("scrim/twofish.mixRows", laid_scrim_twofish_mixRows), ("scrim/twofish.shrinkRows", laid_scrim_twofish_shrinkRows), ("scrim/cipher.shapes", laid_scrim_cipher_shapes)], narrowed := true }
def CipherApartUptoSaid : Prop := cipherApartUptoRow.holds Tryz.pinned (OpenSpec.upto cipherApartSpec)

/-- 'scrimlaw11.CipherTable', WHERE WHAT IT READS IS OF BULK AT MOST 1048576: true; the input reads as it did. -/
def cipherTableUptoRow : OpenClaim := { program := "ytbgkmicelmenfaagreatdoor", sum := "a5f3abb649b47b299b26e1e0e1e6a8f2e03515dced7a8fb64f9cb20a74941fe1", func := "scrim/scrimlaw11.CipherTable", spec := "cipherTable", unfollowed := true, recurses := true, named := ["scrim/cipher.shapes", "scrim/twofish.shrinkRows", "scrim/twofish.orders", "scrim/twofish.rows", "scrim/twofish.mixRows", "scrim/aria.rows1", "scrim/aria.rows2", "scrim/box.odd", "scrim/aria.turns", "scrim/aria.constants", "scrim/aria.sevens"], apart := false, laid := [("scrim/box.odd", laid_scrim_box_odd), ("scrim/aria.rows1", laid_scrim_aria_rows1), ("scrim/aria.rows2", laid_scrim_aria_rows2), ("scrim/aria.sevens", laid_scrim_aria_sevens), ("scrim/aria.constants", laid_scrim_aria_constants), ("scrim/aria.turns", laid_scrim_aria_turns), ("scrim/twofish.rows", laid_scrim_twofish_rows), ("scrim/twofish.orders", laid_scrim_twofish_orders), ("scrim/twofish.mixRows", laid_scrim_twofish_mixRows), ("scrim/twofish.shrinkRows", laid_scrim_twofish_shrinkRows), ("scrim/cipher.shapes", laid_scrim_cipher_shapes)], narrowed := true }
def CipherTableUptoSaid : Prop := cipherTableUptoRow.holds Tryz.pinned (OpenSpec.upto cipherTableSpec)

end Rows
end Go.Proofs.YtbgkmicelmenfaaGreatDoor
