/-
  DERIVED. GIVEN WITH THE SEED: THE PROGRAM's TIES (one call each: nine closed facts by the kernel) AND EACH ROW's TIE, after the 31st guide's Derived/Test/Toyas{Tie, Card}.lean. No idea stands in it: it is a product of the set-up. Laid BY PROGRAM, IN A SANDBOX (cutbox-door.mjs). By AI agents, Wed Nov 11 2026. No macro, syntax, notation, axiom, sorry.
-/
import Derived.Test.YtbgkmicelmenfaaGreatDoorRows
import Derived.LaidByTextLater
import Derived.SevenTiedAt
import Derived.LaidSub
import Derived.LaidOnce
namespace Go.Proofs.YtbgkmicelmenfaaGreatDoor
open Go
set_option maxRecDepth 100000
theorem seatTie1 : Tryz.prog.laidByTextLater [("scrim/box.odd", Rows.laid_scrim_box_odd), ("scrim/aria.rows1", Rows.laid_scrim_aria_rows1), ("scrim/aria.rows2", Rows.laid_scrim_aria_rows2), ("scrim/aria.sevens", Rows.laid_scrim_aria_sevens), ("scrim/aria.constants", Rows.laid_scrim_aria_constants), ("scrim/aria.turns", Rows.laid_scrim_aria_turns), ("scrim/twofish.rows", Rows.laid_scrim_twofish_rows), ("scrim/twofish.orders", Rows.laid_scrim_twofish_orders), ("scrim/twofish.mixRows", Rows.laid_scrim_twofish_mixRows), ("scrim/twofish.shrinkRows", Rows.laid_scrim_twofish_shrinkRows), ("scrim/cipher.shapes", Rows.laid_scrim_cipher_shapes)] [.data, .data, .data, .data, .data, .data, .data, .data, .data, .data, .data] true :=
  Program.laidByTextLater_by_one 124 8 113 (by kernel_rfl) (by kernel_rfl) (by kernel_rfl) (by kernel_rfl) (by kernel_rfl) (by kernel_rfl) (fun _ _ => by kernel_rfl)
theorem seatTie2 : Tryz.prog.laidByTextLater [("scrim/box.odd", Rows.laid_scrim_box_odd), ("scrim/aria.rows1", Rows.laid_scrim_aria_rows1), ("scrim/aria.rows2", Rows.laid_scrim_aria_rows2), ("scrim/aria.sevens", Rows.laid_scrim_aria_sevens), ("scrim/aria.constants", Rows.laid_scrim_aria_constants), ("scrim/aria.turns", Rows.laid_scrim_aria_turns), ("scrim/small.rows", Rows.laid_scrim_small_rows), ("scrim/twofish.rows", Rows.laid_scrim_twofish_rows), ("scrim/twofish.orders", Rows.laid_scrim_twofish_orders), ("scrim/twofish.mixRows", Rows.laid_scrim_twofish_mixRows), ("scrim/twofish.shrinkRows", Rows.laid_scrim_twofish_shrinkRows), ("scrim/des.boxes", Rows.laid_scrim_des_boxes), ("scrim/cipher.shapes", Rows.laid_scrim_cipher_shapes)] [.data, .data, .data, .data, .data, .data, .data, .data, .data, .data, .data, .data, .data] true :=
  Program.laidByTextLater_by_one 124 8 113 (by kernel_rfl) (by kernel_rfl) (by kernel_rfl) (by kernel_rfl) (by kernel_rfl) (by kernel_rfl) (fun _ _ => by kernel_rfl)
theorem noOwnUnsafe : Tryz.pinned.checked.prog.headLifts.contains "ownunsafe" = false := by kernel_rfl
theorem tie : Tryz.prog.laidByTextLater [("scrim/box.odd", Rows.laid_scrim_box_odd), ("scrim/aria.rows1", Rows.laid_scrim_aria_rows1), ("scrim/aria.rows2", Rows.laid_scrim_aria_rows2), ("scrim/aria.sevens", Rows.laid_scrim_aria_sevens), ("scrim/aria.constants", Rows.laid_scrim_aria_constants), ("scrim/aria.turns", Rows.laid_scrim_aria_turns), ("scrim/twofish.rows", Rows.laid_scrim_twofish_rows), ("scrim/twofish.orders", Rows.laid_scrim_twofish_orders), ("scrim/twofish.mixRows", Rows.laid_scrim_twofish_mixRows), ("scrim/twofish.shrinkRows", Rows.laid_scrim_twofish_shrinkRows), ("scrim/cipher.shapes", Rows.laid_scrim_cipher_shapes)] [.data, .data, .data, .data, .data, .data, .data, .data, .data, .data, .data] true :=
  Program.laidByTextLater.sub seatTie1 ["scrim/box.odd", "scrim/aria.rows1", "scrim/aria.rows2", "scrim/aria.sevens", "scrim/aria.constants", "scrim/aria.turns", "scrim/twofish.rows", "scrim/twofish.orders", "scrim/twofish.mixRows", "scrim/twofish.shrinkRows", "scrim/cipher.shapes"] (by kernel_rfl) (by kernel_rfl)
theorem cipherBlocks_row_tie : Rows.cipherBlocksRow.laidByTextAt .later Tryz.pinned [.data, .data, .data, .data, .data, .data, .data, .data, .data, .data, .data] true :=
  OpenClaim.laidByTextAt_later rfl rfl tie noOwnUnsafe
theorem cipherTags_row_tie : Rows.cipherTagsRow.laidByTextAt .later Tryz.pinned [.data, .data, .data, .data, .data, .data, .data, .data, .data, .data, .data] true :=
  OpenClaim.laidByTextAt_later rfl rfl tie noOwnUnsafe
theorem cipherBack_row_tie : Rows.cipherBackRow.laidByTextAt .later Tryz.pinned [.data, .data, .data, .data, .data, .data, .data, .data, .data, .data, .data] true :=
  OpenClaim.laidByTextAt_later rfl rfl tie noOwnUnsafe
theorem cipherErrs_row_tie : Rows.cipherErrsRow.laidByTextAt .later Tryz.pinned [.data, .data, .data, .data, .data, .data, .data, .data, .data, .data, .data] true :=
  OpenClaim.laidByTextAt_later rfl rfl tie noOwnUnsafe
theorem cipherMany_row_tie : Rows.cipherManyRow.laidByTextAt .later Tryz.pinned [.data, .data, .data, .data, .data, .data, .data, .data, .data, .data, .data] true :=
  OpenClaim.laidByTextAt_later rfl rfl tie noOwnUnsafe
theorem cipherApart_row_tie : Rows.cipherApartRow.laidByTextAt .later Tryz.pinned [.data, .data, .data, .data, .data, .data, .data, .data, .data, .data, .data] true :=
  OpenClaim.laidByTextAt_later rfl rfl tie noOwnUnsafe
theorem cipherTable_row_tie : Rows.cipherTableRow.laidByTextAt .later Tryz.pinned [.data, .data, .data, .data, .data, .data, .data, .data, .data, .data, .data] true :=
  OpenClaim.laidByTextAt_later rfl rfl tie noOwnUnsafe
theorem tie2 : Tryz.prog.laidByTextLater [("scrim/box.odd", Rows.laid_scrim_box_odd), ("scrim/aria.rows1", Rows.laid_scrim_aria_rows1), ("scrim/aria.rows2", Rows.laid_scrim_aria_rows2), ("scrim/aria.sevens", Rows.laid_scrim_aria_sevens), ("scrim/aria.constants", Rows.laid_scrim_aria_constants), ("scrim/aria.turns", Rows.laid_scrim_aria_turns), ("scrim/small.rows", Rows.laid_scrim_small_rows), ("scrim/twofish.rows", Rows.laid_scrim_twofish_rows), ("scrim/twofish.orders", Rows.laid_scrim_twofish_orders), ("scrim/twofish.mixRows", Rows.laid_scrim_twofish_mixRows), ("scrim/twofish.shrinkRows", Rows.laid_scrim_twofish_shrinkRows), ("scrim/des.boxes", Rows.laid_scrim_des_boxes), ("scrim/cipher.shapes", Rows.laid_scrim_cipher_shapes)] [.data, .data, .data, .data, .data, .data, .data, .data, .data, .data, .data, .data, .data] true :=
  Program.laidByTextLater.sub seatTie2 ["scrim/box.odd", "scrim/aria.rows1", "scrim/aria.rows2", "scrim/aria.sevens", "scrim/aria.constants", "scrim/aria.turns", "scrim/small.rows", "scrim/twofish.rows", "scrim/twofish.orders", "scrim/twofish.mixRows", "scrim/twofish.shrinkRows", "scrim/des.boxes", "scrim/cipher.shapes"] (by kernel_rfl) (by kernel_rfl)
theorem cipherSame_row_tie : Rows.cipherSameRow.laidByTextAt .later Tryz.pinned [.data, .data, .data, .data, .data, .data, .data, .data, .data, .data, .data, .data, .data] true :=
  OpenClaim.laidByTextAt_later rfl rfl tie2 noOwnUnsafe
theorem cipherBlocksUpto_row_tie : Rows.cipherBlocksUptoRow.laidByTextAt .later Tryz.pinned [.data, .data, .data, .data, .data, .data, .data, .data, .data, .data, .data] true :=
  OpenClaim.laidByTextAt_later rfl rfl tie noOwnUnsafe
theorem cipherTagsUpto_row_tie : Rows.cipherTagsUptoRow.laidByTextAt .later Tryz.pinned [.data, .data, .data, .data, .data, .data, .data, .data, .data, .data, .data] true :=
  OpenClaim.laidByTextAt_later rfl rfl tie noOwnUnsafe
theorem cipherBackUpto_row_tie : Rows.cipherBackUptoRow.laidByTextAt .later Tryz.pinned [.data, .data, .data, .data, .data, .data, .data, .data, .data, .data, .data] true :=
  OpenClaim.laidByTextAt_later rfl rfl tie noOwnUnsafe
theorem cipherErrsUpto_row_tie : Rows.cipherErrsUptoRow.laidByTextAt .later Tryz.pinned [.data, .data, .data, .data, .data, .data, .data, .data, .data, .data, .data] true :=
  OpenClaim.laidByTextAt_later rfl rfl tie noOwnUnsafe
theorem cipherSameUpto_row_tie : Rows.cipherSameUptoRow.laidByTextAt .later Tryz.pinned [.data, .data, .data, .data, .data, .data, .data, .data, .data, .data, .data, .data, .data] true :=
  OpenClaim.laidByTextAt_later rfl rfl tie2 noOwnUnsafe
theorem cipherManyUpto_row_tie : Rows.cipherManyUptoRow.laidByTextAt .later Tryz.pinned [.data, .data, .data, .data, .data, .data, .data, .data, .data, .data, .data] true :=
  OpenClaim.laidByTextAt_later rfl rfl tie noOwnUnsafe
theorem cipherApartUpto_row_tie : Rows.cipherApartUptoRow.laidByTextAt .later Tryz.pinned [.data, .data, .data, .data, .data, .data, .data, .data, .data, .data, .data] true :=
  OpenClaim.laidByTextAt_later rfl rfl tie noOwnUnsafe
theorem cipherTableUpto_row_tie : Rows.cipherTableUptoRow.laidByTextAt .later Tryz.pinned [.data, .data, .data, .data, .data, .data, .data, .data, .data, .data, .data] true :=
  OpenClaim.laidByTextAt_later rfl rfl tie noOwnUnsafe
end Go.Proofs.YtbgkmicelmenfaaGreatDoor
