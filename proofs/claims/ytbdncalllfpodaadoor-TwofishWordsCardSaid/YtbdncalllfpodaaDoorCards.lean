/-
  DERIVED. GIVEN WITH THE SEED: THE CARDS: each row of YtbdncalllfpodaaDoorRows.lean that lists a variable, with what it lists TIED to the program's text (the seventh form; the later family's looks); each row that meets fmt, with fmt's text TOLD by the authors' own Lean function (tested against real Go, not proved from fmt's source: count such statements apart). THE CARD IS WHAT COUNTS. Prove the row's statement (the work); the ties are given (YtbdncalllfpodaaDoorTie.lean); close each card by the builder's one call (the guide's Derived/Test/ToyasCard.lean, 'card_holds'). Laid BY PROGRAM, IN A SANDBOX (cutbox-door.mjs). By AI agents, Wed Nov 11 2026. No macro, syntax, notation, axiom, sorry.
-/
import Derived.Test.YtbdncalllfpodaaDoorRows
import GoSem.ClaimSeven
namespace Go.Proofs.YtbdncalllfpodaaDoor
namespace Rows

/-- THE TIED CARD OF 'scrimlaw9.TwofishKeys'. -/
def twofishKeysCard : Claim7 := { stood := { row := twofishKeysRow, standIns := [], harness := (true, "93e73a648ac8d9867f6b7b717d688dcbe0c6e630f08c55db23517e6404e8cf29"), looks := false }, kinds := [], alts := [], laidByText := true, laidKinds := [.data, .data, .data, .data], laidTests := true, laidLooks := .later }
def TwofishKeysCardSaid : Prop := Claim7.holds Tryd.pinned (.plain (OpenSpec.ofChange twofishKeysSpec)) twofishKeysCard

/-- THE TIED CARD OF 'scrimlaw9.TwofishQ'. -/
def twofishQCard : Claim7 := { stood := { row := twofishQRow, standIns := [], harness := (true, "93e73a648ac8d9867f6b7b717d688dcbe0c6e630f08c55db23517e6404e8cf29"), looks := false }, kinds := [], alts := [], laidByText := true, laidKinds := [.data, .data, .data, .data], laidTests := true, laidLooks := .later }
def TwofishQCardSaid : Prop := Claim7.holds Tryd.pinned (.plain (OpenSpec.ofChange twofishQSpec)) twofishQCard

/-- THE TIED CARD OF 'scrimlaw9.TwofishH'. -/
def twofishHCard : Claim7 := { stood := { row := twofishHRow, standIns := [], harness := (true, "93e73a648ac8d9867f6b7b717d688dcbe0c6e630f08c55db23517e6404e8cf29"), looks := false }, kinds := [], alts := [], laidByText := true, laidKinds := [.data, .data, .data, .data], laidTests := true, laidLooks := .later }
def TwofishHCardSaid : Prop := Claim7.holds Tryd.pinned (.plain (OpenSpec.ofChange twofishHSpec)) twofishHCard

/-- THE TIED CARD OF 'scrimlaw9.TwofishRounds'. -/
def twofishRoundsCard : Claim7 := { stood := { row := twofishRoundsRow, standIns := [], harness := (true, "93e73a648ac8d9867f6b7b717d688dcbe0c6e630f08c55db23517e6404e8cf29"), looks := false }, kinds := [], alts := [], laidByText := true, laidKinds := [.data, .data, .data, .data], laidTests := true, laidLooks := .later }
def TwofishRoundsCardSaid : Prop := Claim7.holds Tryd.pinned (.plain (OpenSpec.ofChange twofishRoundsSpec)) twofishRoundsCard

/-- THE TIED CARD OF 'scrimlaw9.TwofishWords'. -/
def twofishWordsCard : Claim7 := { stood := { row := twofishWordsRow, standIns := [], harness := (true, "93e73a648ac8d9867f6b7b717d688dcbe0c6e630f08c55db23517e6404e8cf29"), looks := false }, kinds := [], alts := [], laidByText := true, laidKinds := [.data, .data, .data, .data], laidTests := true, laidLooks := .later }
def TwofishWordsCardSaid : Prop := Claim7.holds Tryd.pinned (.plain (OpenSpec.ofChange twofishWordsSpec)) twofishWordsCard

/-- THE SECOND FORM's CARD OF 'scrimlaw9.TwofishKeys'. -/
def twofishKeysUptoCard : Claim7 := { stood := { row := twofishKeysUptoRow, standIns := [], harness := (true, "93e73a648ac8d9867f6b7b717d688dcbe0c6e630f08c55db23517e6404e8cf29"), looks := false }, kinds := [], alts := [], laidByText := true, laidKinds := [.data, .data, .data, .data], laidTests := true, laidLooks := .later }
def TwofishKeysUptoCardSaid : Prop := Claim7.holds Tryd.pinned (.plain (OpenSpec.upto twofishKeysSpec)) twofishKeysUptoCard

/-- THE SECOND FORM's CARD OF 'scrimlaw9.TwofishQ'. -/
def twofishQUptoCard : Claim7 := { stood := { row := twofishQUptoRow, standIns := [], harness := (true, "93e73a648ac8d9867f6b7b717d688dcbe0c6e630f08c55db23517e6404e8cf29"), looks := false }, kinds := [], alts := [], laidByText := true, laidKinds := [.data, .data, .data, .data], laidTests := true, laidLooks := .later }
def TwofishQUptoCardSaid : Prop := Claim7.holds Tryd.pinned (.plain (OpenSpec.upto twofishQSpec)) twofishQUptoCard

/-- THE SECOND FORM's CARD OF 'scrimlaw9.TwofishH'. -/
def twofishHUptoCard : Claim7 := { stood := { row := twofishHUptoRow, standIns := [], harness := (true, "93e73a648ac8d9867f6b7b717d688dcbe0c6e630f08c55db23517e6404e8cf29"), looks := false }, kinds := [], alts := [], laidByText := true, laidKinds := [.data, .data, .data, .data], laidTests := true, laidLooks := .later }
def TwofishHUptoCardSaid : Prop := Claim7.holds Tryd.pinned (.plain (OpenSpec.upto twofishHSpec)) twofishHUptoCard

/-- THE SECOND FORM's CARD OF 'scrimlaw9.TwofishRounds'. -/
def twofishRoundsUptoCard : Claim7 := { stood := { row := twofishRoundsUptoRow, standIns := [], harness := (true, "93e73a648ac8d9867f6b7b717d688dcbe0c6e630f08c55db23517e6404e8cf29"), looks := false }, kinds := [], alts := [], laidByText := true, laidKinds := [.data, .data, .data, .data], laidTests := true, laidLooks := .later }
def TwofishRoundsUptoCardSaid : Prop := Claim7.holds Tryd.pinned (.plain (OpenSpec.upto twofishRoundsSpec)) twofishRoundsUptoCard

/-- THE SECOND FORM's CARD OF 'scrimlaw9.TwofishWords'. -/
def twofishWordsUptoCard : Claim7 := { stood := { row := twofishWordsUptoRow, standIns := [], harness := (true, "93e73a648ac8d9867f6b7b717d688dcbe0c6e630f08c55db23517e6404e8cf29"), looks := false }, kinds := [], alts := [], laidByText := true, laidKinds := [.data, .data, .data, .data], laidTests := true, laidLooks := .later }
def TwofishWordsUptoCardSaid : Prop := Claim7.holds Tryd.pinned (.plain (OpenSpec.upto twofishWordsSpec)) twofishWordsUptoCard
end Rows
end Go.Proofs.YtbdncalllfpodaaDoor
