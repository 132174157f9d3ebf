/-
  DERIVED. GIVEN WITH THE SEED: THE CARDS: each row of YthfcndaccfpnmaaDoorRows.lean that lists a variable, with what it lists TIED to the program's text (the seventh form; the later family's looks); each row that meets fmt, with fmt's text TOLD by the authors' own Lean function (tested against real Go, not proved from fmt's source: count such statements apart). THE CARD IS WHAT COUNTS. Prove the row's statement (the work); the ties are given (YthfcndaccfpnmaaDoorTie.lean); close each card by the builder's one call (the guide's Derived/Test/ToyasCard.lean, 'card_holds'). Laid BY PROGRAM, IN A SANDBOX (cutbox-door.mjs). By AI agents, Wed Nov 11 2026. No macro, syntax, notation, axiom, sorry.
-/
import Derived.Test.YthfcndaccfpnmaaDoorRows
import GoSem.ClaimSeven
namespace Go.Proofs.YthfcndaccfpnmaaDoor
namespace Rows

/-- THE TIED CARD OF 'scrimlaw6.DesKeys'. -/
def desKeysCard : Claim7 := { stood := { row := desKeysRow, standIns := [], harness := (true, "6a3f6fa6bc887128af3ea4fb8f488f55af7ec351ed046cba106f39cd131f858c"), looks := false }, kinds := [], alts := [], laidByText := true, laidKinds := [.data], laidTests := true, laidLooks := .later }
def DesKeysCardSaid : Prop := Claim7.holds Tryd.pinned (.plain (OpenSpec.ofChange desKeysSpec)) desKeysCard

/-- THE TIED CARD OF 'scrimlaw6.DesParity'. -/
def desParityCard : Claim7 := { stood := { row := desParityRow, standIns := [], harness := (true, "6a3f6fa6bc887128af3ea4fb8f488f55af7ec351ed046cba106f39cd131f858c"), looks := false }, kinds := [], alts := [], laidByText := true, laidKinds := [.data], laidTests := true, laidLooks := .later }
def DesParityCardSaid : Prop := Claim7.holds Tryd.pinned (.plain (OpenSpec.ofChange desParitySpec)) desParityCard

/-- THE TIED CARD OF 'scrimlaw6.DesThree'. -/
def desThreeCard : Claim7 := { stood := { row := desThreeRow, standIns := [], harness := (true, "6a3f6fa6bc887128af3ea4fb8f488f55af7ec351ed046cba106f39cd131f858c"), looks := false }, kinds := [], alts := [], laidByText := true, laidKinds := [.data], laidTests := true, laidLooks := .later }
def DesThreeCardSaid : Prop := Claim7.holds Tryd.pinned (.plain (OpenSpec.ofChange desThreeSpec)) desThreeCard

/-- THE TIED CARD OF 'scrimlaw6.DesTurned'. -/
def desTurnedCard : Claim7 := { stood := { row := desTurnedRow, standIns := [], harness := (true, "6a3f6fa6bc887128af3ea4fb8f488f55af7ec351ed046cba106f39cd131f858c"), looks := false }, kinds := [], alts := [], laidByText := true, laidKinds := [.data], laidTests := true, laidLooks := .later }
def DesTurnedCardSaid : Prop := Claim7.holds Tryd.pinned (.plain (OpenSpec.ofChange desTurnedSpec)) desTurnedCard

/-- THE TIED CARD OF 'scrimlaw6.DesWeak'. -/
def desWeakCard : Claim7 := { stood := { row := desWeakRow, standIns := [], harness := (true, "6a3f6fa6bc887128af3ea4fb8f488f55af7ec351ed046cba106f39cd131f858c"), looks := false }, kinds := [], alts := [], laidByText := true, laidKinds := [.data], laidTests := true, laidLooks := .later }
def DesWeakCardSaid : Prop := Claim7.holds Tryd.pinned (.plain (OpenSpec.ofChange desWeakSpec)) desWeakCard

/-- THE TIED CARD OF 'scrimlaw6.DesRounds'. -/
def desRoundsCard : Claim7 := { stood := { row := desRoundsRow, standIns := [], harness := (true, "6a3f6fa6bc887128af3ea4fb8f488f55af7ec351ed046cba106f39cd131f858c"), looks := false }, kinds := [], alts := [], laidByText := true, laidKinds := [.data], laidTests := true, laidLooks := .later }
def DesRoundsCardSaid : Prop := Claim7.holds Tryd.pinned (.plain (OpenSpec.ofChange desRoundsSpec)) desRoundsCard

/-- THE TIED CARD OF 'scrimlaw6.DesWide'. -/
def desWideCard : Claim7 := { stood := { row := desWideRow, standIns := [], harness := (true, "6a3f6fa6bc887128af3ea4fb8f488f55af7ec351ed046cba106f39cd131f858c"), looks := false }, kinds := [], alts := [], laidByText := true, laidKinds := [.data], laidTests := true, laidLooks := .later }
def DesWideCardSaid : Prop := Claim7.holds Tryd.pinned (.plain (OpenSpec.ofChange desWideSpec)) desWideCard

/-- THE SECOND FORM's CARD OF 'scrimlaw6.DesKeys'. -/
def desKeysUptoCard : Claim7 := { stood := { row := desKeysUptoRow, standIns := [], harness := (true, "6a3f6fa6bc887128af3ea4fb8f488f55af7ec351ed046cba106f39cd131f858c"), looks := false }, kinds := [], alts := [], laidByText := true, laidKinds := [.data], laidTests := true, laidLooks := .later }
def DesKeysUptoCardSaid : Prop := Claim7.holds Tryd.pinned (.plain (OpenSpec.upto desKeysSpec)) desKeysUptoCard

/-- THE SECOND FORM's CARD OF 'scrimlaw6.DesParity'. -/
def desParityUptoCard : Claim7 := { stood := { row := desParityUptoRow, standIns := [], harness := (true, "6a3f6fa6bc887128af3ea4fb8f488f55af7ec351ed046cba106f39cd131f858c"), looks := false }, kinds := [], alts := [], laidByText := true, laidKinds := [.data], laidTests := true, laidLooks := .later }
def DesParityUptoCardSaid : Prop := Claim7.holds Tryd.pinned (.plain (OpenSpec.upto desParitySpec)) desParityUptoCard

/-- THE SECOND FORM's CARD OF 'scrimlaw6.DesThree'. -/
def desThreeUptoCard : Claim7 := { stood := { row := desThreeUptoRow, standIns := [], harness := (true, "6a3f6fa6bc887128af3ea4fb8f488f55af7ec351ed046cba106f39cd131f858c"), looks := false }, kinds := [], alts := [], laidByText := true, laidKinds := [.data], laidTests := true, laidLooks := .later }
def DesThreeUptoCardSaid : Prop := Claim7.holds Tryd.pinned (.plain (OpenSpec.upto desThreeSpec)) desThreeUptoCard

/-- THE SECOND FORM's CARD OF 'scrimlaw6.DesTurned'. -/
def desTurnedUptoCard : Claim7 := { stood := { row := desTurnedUptoRow, standIns := [], harness := (true, "6a3f6fa6bc887128af3ea4fb8f488f55af7ec351ed046cba106f39cd131f858c"), looks := false }, kinds := [], alts := [], laidByText := true, laidKinds := [.data], laidTests := true, laidLooks := .later }
def DesTurnedUptoCardSaid : Prop := Claim7.holds Tryd.pinned (.plain (OpenSpec.upto desTurnedSpec)) desTurnedUptoCard

/-- THE SECOND FORM's CARD OF 'scrimlaw6.DesWeak'. -/
def desWeakUptoCard : Claim7 := { stood := { row := desWeakUptoRow, standIns := [], harness := (true, "6a3f6fa6bc887128af3ea4fb8f488f55af7ec351ed046cba106f39cd131f858c"), looks := false }, kinds := [], alts := [], laidByText := true, laidKinds := [.data], laidTests := true, laidLooks := .later }
def DesWeakUptoCardSaid : Prop := Claim7.holds Tryd.pinned (.plain (OpenSpec.upto desWeakSpec)) desWeakUptoCard

/-- THE SECOND FORM's CARD OF 'scrimlaw6.DesRounds'. -/
def desRoundsUptoCard : Claim7 := { stood := { row := desRoundsUptoRow, standIns := [], harness := (true, "6a3f6fa6bc887128af3ea4fb8f488f55af7ec351ed046cba106f39cd131f858c"), looks := false }, kinds := [], alts := [], laidByText := true, laidKinds := [.data], laidTests := true, laidLooks := .later }
def DesRoundsUptoCardSaid : Prop := Claim7.holds Tryd.pinned (.plain (OpenSpec.upto desRoundsSpec)) desRoundsUptoCard

/-- THE SECOND FORM's CARD OF 'scrimlaw6.DesWide'. -/
def desWideUptoCard : Claim7 := { stood := { row := desWideUptoRow, standIns := [], harness := (true, "6a3f6fa6bc887128af3ea4fb8f488f55af7ec351ed046cba106f39cd131f858c"), looks := false }, kinds := [], alts := [], laidByText := true, laidKinds := [.data], laidTests := true, laidLooks := .later }
def DesWideUptoCardSaid : Prop := Claim7.holds Tryd.pinned (.plain (OpenSpec.upto desWideSpec)) desWideUptoCard
end Rows
end Go.Proofs.YthfcndaccfpnmaaDoor
