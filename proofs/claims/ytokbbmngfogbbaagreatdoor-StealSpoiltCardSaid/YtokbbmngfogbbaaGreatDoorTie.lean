/-
  DERIVED. GIVEN WITH THE SEED: THE PROGRAM's TIES (one call each: nine closed facts by the kernel) AND EACH ROW's TIE, after the 31st guide's Derived/Test/Toyas{Tie, Card}.lean. No idea stands in it: it is a product of the set-up. Laid BY PROGRAM, IN A SANDBOX (cutbox-door.mjs). By AI agents, Wed Nov 11 2026. No macro, syntax, notation, axiom, sorry.
-/
import Derived.Test.YtokbbmngfogbbaaGreatDoorRows
import Derived.LaidByTextLater
import Derived.SevenTiedAt
import Derived.LaidSub
import Derived.LaidOnce
namespace Go.Proofs.YtokbbmngfogbbaaGreatDoor
open Go
set_option maxRecDepth 100000
theorem seatTie1 : Tryz.prog.laidByTextLater [("scrim/box.odd", Rows.laid_scrim_box_odd), ("scrim/aria.rows1", Rows.laid_scrim_aria_rows1), ("scrim/aria.rows2", Rows.laid_scrim_aria_rows2), ("scrim/aria.sevens", Rows.laid_scrim_aria_sevens), ("scrim/aria.constants", Rows.laid_scrim_aria_constants), ("scrim/aria.turns", Rows.laid_scrim_aria_turns), ("scrim/twofish.rows", Rows.laid_scrim_twofish_rows), ("scrim/twofish.orders", Rows.laid_scrim_twofish_orders), ("scrim/twofish.mixRows", Rows.laid_scrim_twofish_mixRows), ("scrim/twofish.shrinkRows", Rows.laid_scrim_twofish_shrinkRows), ("scrim/cipher.shapes", Rows.laid_scrim_cipher_shapes)] [.data, .data, .data, .data, .data, .data, .data, .data, .data, .data, .data] true :=
  Program.laidByTextLater_by_one 124 8 113 (by kernel_rfl) (by kernel_rfl) (by kernel_rfl) (by kernel_rfl) (by kernel_rfl) (by kernel_rfl) (fun _ _ => by kernel_rfl)
theorem noOwnUnsafe : Tryz.pinned.checked.prog.headLifts.contains "ownunsafe" = false := by kernel_rfl
theorem tie : Tryz.prog.laidByTextLater [("scrim/box.odd", Rows.laid_scrim_box_odd), ("scrim/aria.rows1", Rows.laid_scrim_aria_rows1), ("scrim/aria.rows2", Rows.laid_scrim_aria_rows2), ("scrim/aria.sevens", Rows.laid_scrim_aria_sevens), ("scrim/aria.constants", Rows.laid_scrim_aria_constants), ("scrim/aria.turns", Rows.laid_scrim_aria_turns), ("scrim/twofish.rows", Rows.laid_scrim_twofish_rows), ("scrim/twofish.orders", Rows.laid_scrim_twofish_orders), ("scrim/twofish.mixRows", Rows.laid_scrim_twofish_mixRows), ("scrim/twofish.shrinkRows", Rows.laid_scrim_twofish_shrinkRows), ("scrim/cipher.shapes", Rows.laid_scrim_cipher_shapes)] [.data, .data, .data, .data, .data, .data, .data, .data, .data, .data, .data] true :=
  Program.laidByTextLater.sub seatTie1 ["scrim/box.odd", "scrim/aria.rows1", "scrim/aria.rows2", "scrim/aria.sevens", "scrim/aria.constants", "scrim/aria.turns", "scrim/twofish.rows", "scrim/twofish.orders", "scrim/twofish.mixRows", "scrim/twofish.shrinkRows", "scrim/cipher.shapes"] (by kernel_rfl) (by kernel_rfl)
theorem stealTails_row_tie : Rows.stealTailsRow.laidByTextAt .later Tryz.pinned [.data, .data, .data, .data, .data, .data, .data, .data, .data, .data, .data] true :=
  OpenClaim.laidByTextAt_later rfl rfl tie noOwnUnsafe
theorem stealBack_row_tie : Rows.stealBackRow.laidByTextAt .later Tryz.pinned [.data, .data, .data, .data, .data, .data, .data, .data, .data, .data, .data] true :=
  OpenClaim.laidByTextAt_later rfl rfl tie noOwnUnsafe
theorem stealErrs_row_tie : Rows.stealErrsRow.laidByTextAt .later Tryz.pinned [.data, .data, .data, .data, .data, .data, .data, .data, .data, .data, .data] true :=
  OpenClaim.laidByTextAt_later rfl rfl tie noOwnUnsafe
theorem stealOrder_row_tie : Rows.stealOrderRow.laidByTextAt .later Tryz.pinned [.data, .data, .data, .data, .data, .data, .data, .data, .data, .data, .data] true :=
  OpenClaim.laidByTextAt_later rfl rfl tie noOwnUnsafe
theorem stealOne_row_tie : Rows.stealOneRow.laidByTextAt .later Tryz.pinned [.data, .data, .data, .data, .data, .data, .data, .data, .data, .data, .data] true :=
  OpenClaim.laidByTextAt_later rfl rfl tie noOwnUnsafe
theorem stealTurns_row_tie : Rows.stealTurnsRow.laidByTextAt .later Tryz.pinned [.data, .data, .data, .data, .data, .data, .data, .data, .data, .data, .data] true :=
  OpenClaim.laidByTextAt_later rfl rfl tie noOwnUnsafe
theorem stealSpoilt_row_tie : Rows.stealSpoiltRow.laidByTextAt .later Tryz.pinned [.data, .data, .data, .data, .data, .data, .data, .data, .data, .data, .data] true :=
  OpenClaim.laidByTextAt_later rfl rfl tie noOwnUnsafe
theorem stealTailsUpto_row_tie : Rows.stealTailsUptoRow.laidByTextAt .later Tryz.pinned [.data, .data, .data, .data, .data, .data, .data, .data, .data, .data, .data] true :=
  OpenClaim.laidByTextAt_later rfl rfl tie noOwnUnsafe
theorem stealBackUpto_row_tie : Rows.stealBackUptoRow.laidByTextAt .later Tryz.pinned [.data, .data, .data, .data, .data, .data, .data, .data, .data, .data, .data] true :=
  OpenClaim.laidByTextAt_later rfl rfl tie noOwnUnsafe
theorem stealErrsUpto_row_tie : Rows.stealErrsUptoRow.laidByTextAt .later Tryz.pinned [.data, .data, .data, .data, .data, .data, .data, .data, .data, .data, .data] true :=
  OpenClaim.laidByTextAt_later rfl rfl tie noOwnUnsafe
theorem stealOrderUpto_row_tie : Rows.stealOrderUptoRow.laidByTextAt .later Tryz.pinned [.data, .data, .data, .data, .data, .data, .data, .data, .data, .data, .data] true :=
  OpenClaim.laidByTextAt_later rfl rfl tie noOwnUnsafe
theorem stealOneUpto_row_tie : Rows.stealOneUptoRow.laidByTextAt .later Tryz.pinned [.data, .data, .data, .data, .data, .data, .data, .data, .data, .data, .data] true :=
  OpenClaim.laidByTextAt_later rfl rfl tie noOwnUnsafe
theorem stealTurnsUpto_row_tie : Rows.stealTurnsUptoRow.laidByTextAt .later Tryz.pinned [.data, .data, .data, .data, .data, .data, .data, .data, .data, .data, .data] true :=
  OpenClaim.laidByTextAt_later rfl rfl tie noOwnUnsafe
theorem stealSpoiltUpto_row_tie : Rows.stealSpoiltUptoRow.laidByTextAt .later Tryz.pinned [.data, .data, .data, .data, .data, .data, .data, .data, .data, .data, .data] true :=
  OpenClaim.laidByTextAt_later rfl rfl tie noOwnUnsafe
end Go.Proofs.YtokbbmngfogbbaaGreatDoor
