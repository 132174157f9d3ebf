/-
  DERIVED. GIVEN WITH THE SEED: THE PROGRAM's TIES (one call each: nine closed facts by the kernel) AND EACH ROW's TIE, after the 31st guide's Derived/Test/Toyas{Tie, Card}.lean. No idea stands in it: it is a product of the set-up. Laid BY PROGRAM, IN A SANDBOX (cutbox-door.mjs). By AI agents, Wed Nov 11 2026. No macro, syntax, notation, axiom, sorry.
-/
import Derived.Test.YtiajebbfgpnenaaGreatDoorRows
import Derived.LaidByTextLater
import Derived.SevenTiedAt
import Derived.LaidSub
import Derived.LaidOnce
namespace Go.Proofs.YtiajebbfgpnenaaGreatDoor
open Go
set_option maxRecDepth 100000
theorem seatTie1 : Tryz.prog.laidByTextLater [("scrim/box.odd", Rows.laid_scrim_box_odd), ("scrim/aria.rows1", Rows.laid_scrim_aria_rows1), ("scrim/aria.rows2", Rows.laid_scrim_aria_rows2), ("scrim/aria.sevens", Rows.laid_scrim_aria_sevens), ("scrim/aria.constants", Rows.laid_scrim_aria_constants), ("scrim/aria.turns", Rows.laid_scrim_aria_turns), ("scrim/twofish.rows", Rows.laid_scrim_twofish_rows), ("scrim/twofish.orders", Rows.laid_scrim_twofish_orders), ("scrim/twofish.mixRows", Rows.laid_scrim_twofish_mixRows), ("scrim/twofish.shrinkRows", Rows.laid_scrim_twofish_shrinkRows), ("scrim/cipher.shapes", Rows.laid_scrim_cipher_shapes)] [.data, .data, .data, .data, .data, .data, .data, .data, .data, .data, .data] true :=
  Program.laidByTextLater_by_one 124 8 113 (by kernel_rfl) (by kernel_rfl) (by kernel_rfl) (by kernel_rfl) (by kernel_rfl) (by kernel_rfl) (fun _ _ => by kernel_rfl)
theorem noOwnUnsafe : Tryz.pinned.checked.prog.headLifts.contains "ownunsafe" = false := by kernel_rfl
theorem tie : Tryz.prog.laidByTextLater [("scrim/box.odd", Rows.laid_scrim_box_odd), ("scrim/aria.rows1", Rows.laid_scrim_aria_rows1), ("scrim/aria.rows2", Rows.laid_scrim_aria_rows2), ("scrim/aria.sevens", Rows.laid_scrim_aria_sevens), ("scrim/aria.constants", Rows.laid_scrim_aria_constants), ("scrim/aria.turns", Rows.laid_scrim_aria_turns), ("scrim/twofish.rows", Rows.laid_scrim_twofish_rows), ("scrim/twofish.orders", Rows.laid_scrim_twofish_orders), ("scrim/twofish.mixRows", Rows.laid_scrim_twofish_mixRows), ("scrim/twofish.shrinkRows", Rows.laid_scrim_twofish_shrinkRows), ("scrim/cipher.shapes", Rows.laid_scrim_cipher_shapes)] [.data, .data, .data, .data, .data, .data, .data, .data, .data, .data, .data] true :=
  Program.laidByTextLater.sub seatTie1 ["scrim/box.odd", "scrim/aria.rows1", "scrim/aria.rows2", "scrim/aria.sevens", "scrim/aria.constants", "scrim/aria.turns", "scrim/twofish.rows", "scrim/twofish.orders", "scrim/twofish.mixRows", "scrim/twofish.shrinkRows", "scrim/cipher.shapes"] (by kernel_rfl) (by kernel_rfl)
theorem modesSteps_row_tie : Rows.modesStepsRow.laidByTextAt .later Tryz.pinned [.data, .data, .data, .data, .data, .data, .data, .data, .data, .data, .data] true :=
  OpenClaim.laidByTextAt_later rfl rfl tie noOwnUnsafe
theorem modesCut_row_tie : Rows.modesCutRow.laidByTextAt .later Tryz.pinned [.data, .data, .data, .data, .data, .data, .data, .data, .data, .data, .data] true :=
  OpenClaim.laidByTextAt_later rfl rfl tie noOwnUnsafe
theorem modesBack_row_tie : Rows.modesBackRow.laidByTextAt .later Tryz.pinned [.data, .data, .data, .data, .data, .data, .data, .data, .data, .data, .data] true :=
  OpenClaim.laidByTextAt_later rfl rfl tie noOwnUnsafe
theorem modesErrs_row_tie : Rows.modesErrsRow.laidByTextAt .later Tryz.pinned [.data, .data, .data, .data, .data, .data, .data, .data, .data, .data, .data] true :=
  OpenClaim.laidByTextAt_later rfl rfl tie noOwnUnsafe
theorem modesStreams_row_tie : Rows.modesStreamsRow.laidByTextAt .later Tryz.pinned [.data, .data, .data, .data, .data, .data, .data, .data, .data, .data, .data] true :=
  OpenClaim.laidByTextAt_later rfl rfl tie noOwnUnsafe
theorem modesCounts_row_tie : Rows.modesCountsRow.laidByTextAt .later Tryz.pinned [.data, .data, .data, .data, .data, .data, .data, .data, .data, .data, .data] true :=
  OpenClaim.laidByTextAt_later rfl rfl tie noOwnUnsafe
theorem modesHeals_row_tie : Rows.modesHealsRow.laidByTextAt .later Tryz.pinned [.data, .data, .data, .data, .data, .data, .data, .data, .data, .data, .data] true :=
  OpenClaim.laidByTextAt_later rfl rfl tie noOwnUnsafe
theorem modesEmpty_row_tie : Rows.modesEmptyRow.laidByTextAt .later Tryz.pinned [.data, .data, .data, .data, .data, .data, .data, .data, .data, .data, .data] true :=
  OpenClaim.laidByTextAt_later rfl rfl tie noOwnUnsafe
theorem modesOfb_row_tie : Rows.modesOfbRow.laidByTextAt .later Tryz.pinned [.data, .data, .data, .data, .data, .data, .data, .data, .data, .data, .data] true :=
  OpenClaim.laidByTextAt_later rfl rfl tie noOwnUnsafe
theorem modesCfb_row_tie : Rows.modesCfbRow.laidByTextAt .later Tryz.pinned [.data, .data, .data, .data, .data, .data, .data, .data, .data, .data, .data] true :=
  OpenClaim.laidByTextAt_later rfl rfl tie noOwnUnsafe
theorem modesCbc_row_tie : Rows.modesCbcRow.laidByTextAt .later Tryz.pinned [.data, .data, .data, .data, .data, .data, .data, .data, .data, .data, .data] true :=
  OpenClaim.laidByTextAt_later rfl rfl tie noOwnUnsafe
theorem modesStepsUpto_row_tie : Rows.modesStepsUptoRow.laidByTextAt .later Tryz.pinned [.data, .data, .data, .data, .data, .data, .data, .data, .data, .data, .data] true :=
  OpenClaim.laidByTextAt_later rfl rfl tie noOwnUnsafe
theorem modesCutUpto_row_tie : Rows.modesCutUptoRow.laidByTextAt .later Tryz.pinned [.data, .data, .data, .data, .data, .data, .data, .data, .data, .data, .data] true :=
  OpenClaim.laidByTextAt_later rfl rfl tie noOwnUnsafe
theorem modesBackUpto_row_tie : Rows.modesBackUptoRow.laidByTextAt .later Tryz.pinned [.data, .data, .data, .data, .data, .data, .data, .data, .data, .data, .data] true :=
  OpenClaim.laidByTextAt_later rfl rfl tie noOwnUnsafe
theorem modesErrsUpto_row_tie : Rows.modesErrsUptoRow.laidByTextAt .later Tryz.pinned [.data, .data, .data, .data, .data, .data, .data, .data, .data, .data, .data] true :=
  OpenClaim.laidByTextAt_later rfl rfl tie noOwnUnsafe
theorem modesStreamsUpto_row_tie : Rows.modesStreamsUptoRow.laidByTextAt .later Tryz.pinned [.data, .data, .data, .data, .data, .data, .data, .data, .data, .data, .data] true :=
  OpenClaim.laidByTextAt_later rfl rfl tie noOwnUnsafe
theorem modesCountsUpto_row_tie : Rows.modesCountsUptoRow.laidByTextAt .later Tryz.pinned [.data, .data, .data, .data, .data, .data, .data, .data, .data, .data, .data] true :=
  OpenClaim.laidByTextAt_later rfl rfl tie noOwnUnsafe
theorem modesHealsUpto_row_tie : Rows.modesHealsUptoRow.laidByTextAt .later Tryz.pinned [.data, .data, .data, .data, .data, .data, .data, .data, .data, .data, .data] true :=
  OpenClaim.laidByTextAt_later rfl rfl tie noOwnUnsafe
theorem modesEmptyUpto_row_tie : Rows.modesEmptyUptoRow.laidByTextAt .later Tryz.pinned [.data, .data, .data, .data, .data, .data, .data, .data, .data, .data, .data] true :=
  OpenClaim.laidByTextAt_later rfl rfl tie noOwnUnsafe
theorem modesOfbUpto_row_tie : Rows.modesOfbUptoRow.laidByTextAt .later Tryz.pinned [.data, .data, .data, .data, .data, .data, .data, .data, .data, .data, .data] true :=
  OpenClaim.laidByTextAt_later rfl rfl tie noOwnUnsafe
theorem modesCfbUpto_row_tie : Rows.modesCfbUptoRow.laidByTextAt .later Tryz.pinned [.data, .data, .data, .data, .data, .data, .data, .data, .data, .data, .data] true :=
  OpenClaim.laidByTextAt_later rfl rfl tie noOwnUnsafe
theorem modesCbcUpto_row_tie : Rows.modesCbcUptoRow.laidByTextAt .later Tryz.pinned [.data, .data, .data, .data, .data, .data, .data, .data, .data, .data, .data] true :=
  OpenClaim.laidByTextAt_later rfl rfl tie noOwnUnsafe
end Go.Proofs.YtiajebbfgpnenaaGreatDoor
