/-
  DERIVED. GIVEN WITH THE SEED: THE PROGRAM's TIES (one call each: nine closed facts by the kernel) AND EACH ROW's TIE, after the 31st guide's Derived/Test/Toyas{Tie, Card}.lean. No idea stands in it: it is a product of the set-up. Laid BY PROGRAM, IN A SANDBOX (cutbox-door.mjs). By AI agents, Wed Nov 11 2026. No macro, syntax, notation, axiom, sorry.
-/
import Derived.Test.YtbdncalllfpodaaDoorRows
import Derived.LaidByTextLater
import Derived.SevenTiedAt
import Derived.LaidSub
import Derived.LaidOnce
namespace Go.Proofs.YtbdncalllfpodaaDoor
open Go
set_option maxRecDepth 100000
theorem seatTie1 : Tryd.prog.laidByTextLater [("scrim/twofish.rows", Rows.laid_scrim_twofish_rows), ("scrim/twofish.orders", Rows.laid_scrim_twofish_orders), ("scrim/twofish.mixRows", Rows.laid_scrim_twofish_mixRows), ("scrim/twofish.shrinkRows", Rows.laid_scrim_twofish_shrinkRows)] [.data, .data, .data, .data] true :=
  Program.laidByTextLater_by_one 44 8 33 (by kernel_rfl) (by kernel_rfl) (by kernel_rfl) (by kernel_rfl) (by kernel_rfl) (by kernel_rfl) (fun _ _ => by kernel_rfl)
theorem noOwnUnsafe : Tryd.pinned.checked.prog.headLifts.contains "ownunsafe" = false := by kernel_rfl
theorem tie : Tryd.prog.laidByTextLater [("scrim/twofish.rows", Rows.laid_scrim_twofish_rows), ("scrim/twofish.orders", Rows.laid_scrim_twofish_orders), ("scrim/twofish.mixRows", Rows.laid_scrim_twofish_mixRows), ("scrim/twofish.shrinkRows", Rows.laid_scrim_twofish_shrinkRows)] [.data, .data, .data, .data] true :=
  Program.laidByTextLater.sub seatTie1 ["scrim/twofish.rows", "scrim/twofish.orders", "scrim/twofish.mixRows", "scrim/twofish.shrinkRows"] (by kernel_rfl) (by kernel_rfl)
theorem twofishKeys_row_tie : Rows.twofishKeysRow.laidByTextAt .later Tryd.pinned [.data, .data, .data, .data] true :=
  OpenClaim.laidByTextAt_later rfl rfl tie noOwnUnsafe
theorem twofishQ_row_tie : Rows.twofishQRow.laidByTextAt .later Tryd.pinned [.data, .data, .data, .data] true :=
  OpenClaim.laidByTextAt_later rfl rfl tie noOwnUnsafe
theorem twofishH_row_tie : Rows.twofishHRow.laidByTextAt .later Tryd.pinned [.data, .data, .data, .data] true :=
  OpenClaim.laidByTextAt_later rfl rfl tie noOwnUnsafe
theorem twofishRounds_row_tie : Rows.twofishRoundsRow.laidByTextAt .later Tryd.pinned [.data, .data, .data, .data] true :=
  OpenClaim.laidByTextAt_later rfl rfl tie noOwnUnsafe
theorem twofishWords_row_tie : Rows.twofishWordsRow.laidByTextAt .later Tryd.pinned [.data, .data, .data, .data] true :=
  OpenClaim.laidByTextAt_later rfl rfl tie noOwnUnsafe
theorem twofishKeysUpto_row_tie : Rows.twofishKeysUptoRow.laidByTextAt .later Tryd.pinned [.data, .data, .data, .data] true :=
  OpenClaim.laidByTextAt_later rfl rfl tie noOwnUnsafe
theorem twofishQUpto_row_tie : Rows.twofishQUptoRow.laidByTextAt .later Tryd.pinned [.data, .data, .data, .data] true :=
  OpenClaim.laidByTextAt_later rfl rfl tie noOwnUnsafe
theorem twofishHUpto_row_tie : Rows.twofishHUptoRow.laidByTextAt .later Tryd.pinned [.data, .data, .data, .data] true :=
  OpenClaim.laidByTextAt_later rfl rfl tie noOwnUnsafe
theorem twofishRoundsUpto_row_tie : Rows.twofishRoundsUptoRow.laidByTextAt .later Tryd.pinned [.data, .data, .data, .data] true :=
  OpenClaim.laidByTextAt_later rfl rfl tie noOwnUnsafe
theorem twofishWordsUpto_row_tie : Rows.twofishWordsUptoRow.laidByTextAt .later Tryd.pinned [.data, .data, .data, .data] true :=
  OpenClaim.laidByTextAt_later rfl rfl tie noOwnUnsafe
end Go.Proofs.YtbdncalllfpodaaDoor
