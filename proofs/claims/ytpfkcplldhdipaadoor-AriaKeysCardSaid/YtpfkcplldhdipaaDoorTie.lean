/-
  DERIVED. GIVEN WITH THE SEED: THE PROGRAM's TIES (one call each: nine closed facts by the kernel) AND EACH ROW's TIE, after the 31st guide's Derived/Test/Toyas{Tie, Card}.lean. No idea stands in it: it is a product of the set-up. Laid BY PROGRAM, IN A SANDBOX (cutbox-door.mjs). By AI agents, Wed Nov 11 2026. No macro, syntax, notation, axiom, sorry.
-/
import Derived.Test.YtpfkcplldhdipaaDoorRows
import Derived.LaidByTextLater
import Derived.SevenTiedAt
import Derived.LaidSub
import Derived.LaidOnce
namespace Go.Proofs.YtpfkcplldhdipaaDoor
open Go
set_option maxRecDepth 100000
theorem seatTie1 : Tryd.prog.laidByTextLater [("scrim/box.odd", Rows.laid_scrim_box_odd), ("scrim/aria.rows1", Rows.laid_scrim_aria_rows1), ("scrim/aria.rows2", Rows.laid_scrim_aria_rows2), ("scrim/aria.sevens", Rows.laid_scrim_aria_sevens), ("scrim/aria.constants", Rows.laid_scrim_aria_constants), ("scrim/aria.turns", Rows.laid_scrim_aria_turns)] [.data, .data, .data, .data, .data, .data] true :=
  Program.laidByTextLater_by_one 58 8 113 (by kernel_rfl) (by kernel_rfl) (by kernel_rfl) (by kernel_rfl) (by kernel_rfl) (by kernel_rfl) (fun _ _ => by kernel_rfl)
theorem noOwnUnsafe : Tryd.pinned.checked.prog.headLifts.contains "ownunsafe" = false := by kernel_rfl
theorem tie : Tryd.prog.laidByTextLater [("scrim/box.odd", Rows.laid_scrim_box_odd), ("scrim/aria.rows1", Rows.laid_scrim_aria_rows1), ("scrim/aria.rows2", Rows.laid_scrim_aria_rows2), ("scrim/aria.sevens", Rows.laid_scrim_aria_sevens), ("scrim/aria.constants", Rows.laid_scrim_aria_constants), ("scrim/aria.turns", Rows.laid_scrim_aria_turns)] [.data, .data, .data, .data, .data, .data] true :=
  Program.laidByTextLater.sub seatTie1 ["scrim/box.odd", "scrim/aria.rows1", "scrim/aria.rows2", "scrim/aria.sevens", "scrim/aria.constants", "scrim/aria.turns"] (by kernel_rfl) (by kernel_rfl)
theorem ariaKeys_row_tie : Rows.ariaKeysRow.laidByTextAt .later Tryd.pinned [.data, .data, .data, .data, .data, .data] true :=
  OpenClaim.laidByTextAt_later rfl rfl tie noOwnUnsafe
theorem ariaMix_row_tie : Rows.ariaMixRow.laidByTextAt .later Tryd.pinned [.data, .data, .data, .data, .data, .data] true :=
  OpenClaim.laidByTextAt_later rfl rfl tie noOwnUnsafe
theorem ariaSum_row_tie : Rows.ariaSumRow.laidByTextAt .later Tryd.pinned [.data, .data, .data, .data, .data, .data] true :=
  OpenClaim.laidByTextAt_later rfl rfl tie noOwnUnsafe
theorem ariaOne_row_tie : Rows.ariaOneRow.laidByTextAt .later Tryd.pinned [.data, .data, .data, .data, .data, .data] true :=
  OpenClaim.laidByTextAt_later rfl rfl tie noOwnUnsafe
theorem ariaRounds_row_tie : Rows.ariaRoundsRow.laidByTextAt .later Tryd.pinned [.data, .data, .data, .data, .data, .data] true :=
  OpenClaim.laidByTextAt_later rfl rfl tie noOwnUnsafe
theorem ariaHow_row_tie : Rows.ariaHowRow.laidByTextAt .later Tryd.pinned [.data, .data, .data, .data, .data, .data] true :=
  OpenClaim.laidByTextAt_later rfl rfl tie noOwnUnsafe
theorem ariaKeysUpto_row_tie : Rows.ariaKeysUptoRow.laidByTextAt .later Tryd.pinned [.data, .data, .data, .data, .data, .data] true :=
  OpenClaim.laidByTextAt_later rfl rfl tie noOwnUnsafe
theorem ariaMixUpto_row_tie : Rows.ariaMixUptoRow.laidByTextAt .later Tryd.pinned [.data, .data, .data, .data, .data, .data] true :=
  OpenClaim.laidByTextAt_later rfl rfl tie noOwnUnsafe
theorem ariaSumUpto_row_tie : Rows.ariaSumUptoRow.laidByTextAt .later Tryd.pinned [.data, .data, .data, .data, .data, .data] true :=
  OpenClaim.laidByTextAt_later rfl rfl tie noOwnUnsafe
theorem ariaOneUpto_row_tie : Rows.ariaOneUptoRow.laidByTextAt .later Tryd.pinned [.data, .data, .data, .data, .data, .data] true :=
  OpenClaim.laidByTextAt_later rfl rfl tie noOwnUnsafe
theorem ariaRoundsUpto_row_tie : Rows.ariaRoundsUptoRow.laidByTextAt .later Tryd.pinned [.data, .data, .data, .data, .data, .data] true :=
  OpenClaim.laidByTextAt_later rfl rfl tie noOwnUnsafe
theorem ariaHowUpto_row_tie : Rows.ariaHowUptoRow.laidByTextAt .later Tryd.pinned [.data, .data, .data, .data, .data, .data] true :=
  OpenClaim.laidByTextAt_later rfl rfl tie noOwnUnsafe
end Go.Proofs.YtpfkcplldhdipaaDoor
