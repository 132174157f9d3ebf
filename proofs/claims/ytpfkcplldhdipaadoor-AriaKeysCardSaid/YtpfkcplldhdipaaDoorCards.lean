/-
  DERIVED. GIVEN WITH THE SEED: THE CARDS: each row of YtpfkcplldhdipaaDoorRows.lean that lists a variable, with what it lists TIED to the program's text (the seventh form; the later family's looks); each row that meets fmt, with fmt's text TOLD by the authors' own Lean function (tested against real Go, not proved from fmt's source: count such statements apart). THE CARD IS WHAT COUNTS. Prove the row's statement (the work); the ties are given (YtpfkcplldhdipaaDoorTie.lean); close each card by the builder's one call (the guide's Derived/Test/ToyasCard.lean, 'card_holds'). Laid BY PROGRAM, IN A SANDBOX (cutbox-door.mjs). By AI agents, Wed Nov 11 2026. No macro, syntax, notation, axiom, sorry.
-/
import Derived.Test.YtpfkcplldhdipaaDoorRows
import GoSem.ClaimSeven
namespace Go.Proofs.YtpfkcplldhdipaaDoor
namespace Rows

/-- THE TIED CARD OF 'scrimlaw10.AriaKeys'. -/
def ariaKeysCard : Claim7 := { stood := { row := ariaKeysRow, standIns := [], harness := (true, "778b73fba4688132ca67a4ea949e8d1f80f43221b5a12f29519b7c36c2c9b628"), looks := false }, kinds := [], alts := [], laidByText := true, laidKinds := [.data, .data, .data, .data, .data, .data], laidTests := true, laidLooks := .later }
def AriaKeysCardSaid : Prop := Claim7.holds Tryd.pinned (.plain (OpenSpec.ofChange ariaKeysSpec)) ariaKeysCard

/-- THE TIED CARD OF 'scrimlaw10.AriaMix'. -/
def ariaMixCard : Claim7 := { stood := { row := ariaMixRow, standIns := [], harness := (true, "778b73fba4688132ca67a4ea949e8d1f80f43221b5a12f29519b7c36c2c9b628"), looks := false }, kinds := [], alts := [], laidByText := true, laidKinds := [.data, .data, .data, .data, .data, .data], laidTests := true, laidLooks := .later }
def AriaMixCardSaid : Prop := Claim7.holds Tryd.pinned (.plain (OpenSpec.ofChange ariaMixSpec)) ariaMixCard

/-- THE TIED CARD OF 'scrimlaw10.AriaSum'. -/
def ariaSumCard : Claim7 := { stood := { row := ariaSumRow, standIns := [], harness := (true, "778b73fba4688132ca67a4ea949e8d1f80f43221b5a12f29519b7c36c2c9b628"), looks := false }, kinds := [], alts := [], laidByText := true, laidKinds := [.data, .data, .data, .data, .data, .data], laidTests := true, laidLooks := .later }
def AriaSumCardSaid : Prop := Claim7.holds Tryd.pinned (.plain (OpenSpec.ofChange ariaSumSpec)) ariaSumCard

/-- THE TIED CARD OF 'scrimlaw10.AriaOne'. -/
def ariaOneCard : Claim7 := { stood := { row := ariaOneRow, standIns := [], harness := (true, "778b73fba4688132ca67a4ea949e8d1f80f43221b5a12f29519b7c36c2c9b628"), looks := false }, kinds := [], alts := [], laidByText := true, laidKinds := [.data, .data, .data, .data, .data, .data], laidTests := true, laidLooks := .later }
def AriaOneCardSaid : Prop := Claim7.holds Tryd.pinned (.plain (OpenSpec.ofChange ariaOneSpec)) ariaOneCard

/-- THE TIED CARD OF 'scrimlaw10.AriaRounds'. -/
def ariaRoundsCard : Claim7 := { stood := { row := ariaRoundsRow, standIns := [], harness := (true, "778b73fba4688132ca67a4ea949e8d1f80f43221b5a12f29519b7c36c2c9b628"), looks := false }, kinds := [], alts := [], laidByText := true, laidKinds := [.data, .data, .data, .data, .data, .data], laidTests := true, laidLooks := .later }
def AriaRoundsCardSaid : Prop := Claim7.holds Tryd.pinned (.plain (OpenSpec.ofChange ariaRoundsSpec)) ariaRoundsCard

/-- THE TIED CARD OF 'scrimlaw10.AriaHow'. -/
def ariaHowCard : Claim7 := { stood := { row := ariaHowRow, standIns := [], harness := (true, "778b73fba4688132ca67a4ea949e8d1f80f43221b5a12f29519b7c36c2c9b628"), looks := false }, kinds := [], alts := [], laidByText := true, laidKinds := [.data, .data, .data, .data, .data, .data], laidTests := true, laidLooks := .later }
def AriaHowCardSaid : Prop := Claim7.holds Tryd.pinned (.plain (OpenSpec.ofChange ariaHowSpec)) ariaHowCard

/-- THE SECOND FORM's CARD OF 'scrimlaw10.AriaKeys'. -/
def ariaKeysUptoCard : Claim7 := { stood := { row := ariaKeysUptoRow, standIns := [], harness := (true, "778b73fba4688132ca67a4ea949e8d1f80f43221b5a12f29519b7c36c2c9b628"), looks := false }, kinds := [], alts := [], laidByText := true, laidKinds := [.data, .data, .data, .data, .data, .data], laidTests := true, laidLooks := .later }
def AriaKeysUptoCardSaid : Prop := Claim7.holds Tryd.pinned (.plain (OpenSpec.upto ariaKeysSpec)) ariaKeysUptoCard

/-- THE SECOND FORM's CARD OF 'scrimlaw10.AriaMix'. -/
def ariaMixUptoCard : Claim7 := { stood := { row := ariaMixUptoRow, standIns := [], harness := (true, "778b73fba4688132ca67a4ea949e8d1f80f43221b5a12f29519b7c36c2c9b628"), looks := false }, kinds := [], alts := [], laidByText := true, laidKinds := [.data, .data, .data, .data, .data, .data], laidTests := true, laidLooks := .later }
def AriaMixUptoCardSaid : Prop := Claim7.holds Tryd.pinned (.plain (OpenSpec.upto ariaMixSpec)) ariaMixUptoCard

/-- THE SECOND FORM's CARD OF 'scrimlaw10.AriaSum'. -/
def ariaSumUptoCard : Claim7 := { stood := { row := ariaSumUptoRow, standIns := [], harness := (true, "778b73fba4688132ca67a4ea949e8d1f80f43221b5a12f29519b7c36c2c9b628"), looks := false }, kinds := [], alts := [], laidByText := true, laidKinds := [.data, .data, .data, .data, .data, .data], laidTests := true, laidLooks := .later }
def AriaSumUptoCardSaid : Prop := Claim7.holds Tryd.pinned (.plain (OpenSpec.upto ariaSumSpec)) ariaSumUptoCard

/-- THE SECOND FORM's CARD OF 'scrimlaw10.AriaOne'. -/
def ariaOneUptoCard : Claim7 := { stood := { row := ariaOneUptoRow, standIns := [], harness := (true, "778b73fba4688132ca67a4ea949e8d1f80f43221b5a12f29519b7c36c2c9b628"), looks := false }, kinds := [], alts := [], laidByText := true, laidKinds := [.data, .data, .data, .data, .data, .data], laidTests := true, laidLooks := .later }
def AriaOneUptoCardSaid : Prop := Claim7.holds Tryd.pinned (.plain (OpenSpec.upto ariaOneSpec)) ariaOneUptoCard

/-- THE SECOND FORM's CARD OF 'scrimlaw10.AriaRounds'. -/
def ariaRoundsUptoCard : Claim7 := { stood := { row := ariaRoundsUptoRow, standIns := [], harness := (true, "778b73fba4688132ca67a4ea949e8d1f80f43221b5a12f29519b7c36c2c9b628"), looks := false }, kinds := [], alts := [], laidByText := true, laidKinds := [.data, .data, .data, .data, .data, .data], laidTests := true, laidLooks := .later }
def AriaRoundsUptoCardSaid : Prop := Claim7.holds Tryd.pinned (.plain (OpenSpec.upto ariaRoundsSpec)) ariaRoundsUptoCard

/-- THE SECOND FORM's CARD OF 'scrimlaw10.AriaHow'. -/
def ariaHowUptoCard : Claim7 := { stood := { row := ariaHowUptoRow, standIns := [], harness := (true, "778b73fba4688132ca67a4ea949e8d1f80f43221b5a12f29519b7c36c2c9b628"), looks := false }, kinds := [], alts := [], laidByText := true, laidKinds := [.data, .data, .data, .data, .data, .data], laidTests := true, laidLooks := .later }
def AriaHowUptoCardSaid : Prop := Claim7.holds Tryd.pinned (.plain (OpenSpec.upto ariaHowSpec)) ariaHowUptoCard
end Rows
end Go.Proofs.YtpfkcplldhdipaaDoor
