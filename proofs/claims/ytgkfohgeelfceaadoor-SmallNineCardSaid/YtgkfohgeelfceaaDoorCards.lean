/-
  DERIVED. GIVEN WITH THE SEED: THE CARDS: each row of YtgkfohgeelfceaaDoorRows.lean that lists a variable, with what it lists TIED to the program's text (the seventh form; the later family's looks); each row that meets fmt, with fmt's text TOLD by the authors' own Lean function (tested against real Go, not proved from fmt's source: count such statements apart). THE CARD IS WHAT COUNTS. Prove the row's statement (the work); the ties are given (YtgkfohgeelfceaaDoorTie.lean); close each card by the builder's one call (the guide's Derived/Test/ToyasCard.lean, 'card_holds'). Laid BY PROGRAM, IN A SANDBOX (cutbox-door.mjs). By AI agents, Wed Nov 11 2026. No macro, syntax, notation, axiom, sorry.
-/
import Derived.Test.YtgkfohgeelfceaaDoorRows
import GoSem.ClaimSeven
namespace Go.Proofs.YtgkfohgeelfceaaDoor
namespace Rows

/-- THE TIED CARD OF 'scrimlaw8.SmallBlocks'. -/
def smallBlocksCard : Claim7 := { stood := { row := smallBlocksRow, standIns := [], harness := (true, "814966736bc30fefcb4cc4af108a34c82a87bebd5d9d0ee09db8147c09f783e2"), looks := false }, kinds := [], alts := [], laidByText := true, laidKinds := [.data], laidTests := true, laidLooks := .later }
def SmallBlocksCardSaid : Prop := Claim7.holds Tryd.pinned (.plain (OpenSpec.ofChange smallBlocksSpec)) smallBlocksCard

/-- THE TIED CARD OF 'scrimlaw8.SmallBack'. -/
def smallBackCard : Claim7 := { stood := { row := smallBackRow, standIns := [], harness := (true, "814966736bc30fefcb4cc4af108a34c82a87bebd5d9d0ee09db8147c09f783e2"), looks := false }, kinds := [], alts := [], laidByText := true, laidKinds := [.data], laidTests := true, laidLooks := .later }
def SmallBackCardSaid : Prop := Claim7.holds Tryd.pinned (.plain (OpenSpec.ofChange smallBackSpec)) smallBackCard

/-- THE TIED CARD OF 'scrimlaw8.SmallG'. -/
def smallGCard : Claim7 := { stood := { row := smallGRow, standIns := [], harness := (true, "814966736bc30fefcb4cc4af108a34c82a87bebd5d9d0ee09db8147c09f783e2"), looks := false }, kinds := [], alts := [], laidByText := true, laidKinds := [.data], laidTests := true, laidLooks := .later }
def SmallGCardSaid : Prop := Claim7.holds Tryd.pinned (.plain (OpenSpec.ofChange smallGSpec)) smallGCard

/-- THE TIED CARD OF 'scrimlaw8.SmallErrs'. -/
def smallErrsCard : Claim7 := { stood := { row := smallErrsRow, standIns := [], harness := (true, "814966736bc30fefcb4cc4af108a34c82a87bebd5d9d0ee09db8147c09f783e2"), looks := false }, kinds := [], alts := [], laidByText := true, laidKinds := [.data], laidTests := true, laidLooks := .later }
def SmallErrsCardSaid : Prop := Claim7.holds Tryd.pinned (.plain (OpenSpec.ofChange smallErrsSpec)) smallErrsCard

/-- THE TIED CARD OF 'scrimlaw8.SmallOwn'. -/
def smallOwnCard : Claim7 := { stood := { row := smallOwnRow, standIns := [], harness := (true, "814966736bc30fefcb4cc4af108a34c82a87bebd5d9d0ee09db8147c09f783e2"), looks := false }, kinds := [], alts := [], laidByText := true, laidKinds := [.data], laidTests := true, laidLooks := .later }
def SmallOwnCardSaid : Prop := Claim7.holds Tryd.pinned (.plain (OpenSpec.ofChange smallOwnSpec)) smallOwnCard

/-- THE TIED CARD OF 'scrimlaw8.SmallApart'. -/
def smallApartCard : Claim7 := { stood := { row := smallApartRow, standIns := [], harness := (true, "814966736bc30fefcb4cc4af108a34c82a87bebd5d9d0ee09db8147c09f783e2"), looks := false }, kinds := [], alts := [], laidByText := true, laidKinds := [.data], laidTests := true, laidLooks := .later }
def SmallApartCardSaid : Prop := Claim7.holds Tryd.pinned (.plain (OpenSpec.ofChange smallApartSpec)) smallApartCard

/-- THE TIED CARD OF 'scrimlaw8.SmallMagma'. -/
def smallMagmaCard : Claim7 := { stood := { row := smallMagmaRow, standIns := [], harness := (true, "814966736bc30fefcb4cc4af108a34c82a87bebd5d9d0ee09db8147c09f783e2"), looks := false }, kinds := [], alts := [], laidByText := true, laidKinds := [.data], laidTests := true, laidLooks := .later }
def SmallMagmaCardSaid : Prop := Claim7.holds Tryd.pinned (.plain (OpenSpec.ofChange smallMagmaSpec)) smallMagmaCard

/-- THE TIED CARD OF 'scrimlaw8.SmallRows'. -/
def smallRowsCard : Claim7 := { stood := { row := smallRowsRow, standIns := [], harness := (true, "814966736bc30fefcb4cc4af108a34c82a87bebd5d9d0ee09db8147c09f783e2"), looks := false }, kinds := [], alts := [], laidByText := true, laidKinds := [.data], laidTests := true, laidLooks := .later }
def SmallRowsCardSaid : Prop := Claim7.holds Tryd.pinned (.plain (OpenSpec.ofChange smallRowsSpec)) smallRowsCard

/-- THE TIED CARD OF 'scrimlaw8.SmallNine'. -/
def smallNineCard : Claim7 := { stood := { row := smallNineRow, standIns := [], harness := (true, "814966736bc30fefcb4cc4af108a34c82a87bebd5d9d0ee09db8147c09f783e2"), looks := false }, kinds := [], alts := [], laidByText := true, laidKinds := [.data], laidTests := true, laidLooks := .later }
def SmallNineCardSaid : Prop := Claim7.holds Tryd.pinned (.plain (OpenSpec.ofChange smallNineSpec)) smallNineCard

/-- THE SECOND FORM's CARD OF 'scrimlaw8.SmallBlocks'. -/
def smallBlocksUptoCard : Claim7 := { stood := { row := smallBlocksUptoRow, standIns := [], harness := (true, "814966736bc30fefcb4cc4af108a34c82a87bebd5d9d0ee09db8147c09f783e2"), looks := false }, kinds := [], alts := [], laidByText := true, laidKinds := [.data], laidTests := true, laidLooks := .later }
def SmallBlocksUptoCardSaid : Prop := Claim7.holds Tryd.pinned (.plain (OpenSpec.upto smallBlocksSpec)) smallBlocksUptoCard

/-- THE SECOND FORM's CARD OF 'scrimlaw8.SmallBack'. -/
def smallBackUptoCard : Claim7 := { stood := { row := smallBackUptoRow, standIns := [], harness := (true, "814966736bc30fefcb4cc4af108a34c82a87bebd5d9d0ee09db8147c09f783e2"), looks := false }, kinds := [], alts := [], laidByText := true, laidKinds := [.data], laidTests := true, laidLooks := .later }
def SmallBackUptoCardSaid : Prop := Claim7.holds Tryd.pinned (.plain (OpenSpec.upto smallBackSpec)) smallBackUptoCard

/-- THE SECOND FORM's CARD OF 'scrimlaw8.SmallG'. -/
def smallGUptoCard : Claim7 := { stood := { row := smallGUptoRow, standIns := [], harness := (true, "814966736bc30fefcb4cc4af108a34c82a87bebd5d9d0ee09db8147c09f783e2"), looks := false }, kinds := [], alts := [], laidByText := true, laidKinds := [.data], laidTests := true, laidLooks := .later }
def SmallGUptoCardSaid : Prop := Claim7.holds Tryd.pinned (.plain (OpenSpec.upto smallGSpec)) smallGUptoCard

/-- THE SECOND FORM's CARD OF 'scrimlaw8.SmallErrs'. -/
def smallErrsUptoCard : Claim7 := { stood := { row := smallErrsUptoRow, standIns := [], harness := (true, "814966736bc30fefcb4cc4af108a34c82a87bebd5d9d0ee09db8147c09f783e2"), looks := false }, kinds := [], alts := [], laidByText := true, laidKinds := [.data], laidTests := true, laidLooks := .later }
def SmallErrsUptoCardSaid : Prop := Claim7.holds Tryd.pinned (.plain (OpenSpec.upto smallErrsSpec)) smallErrsUptoCard

/-- THE SECOND FORM's CARD OF 'scrimlaw8.SmallOwn'. -/
def smallOwnUptoCard : Claim7 := { stood := { row := smallOwnUptoRow, standIns := [], harness := (true, "814966736bc30fefcb4cc4af108a34c82a87bebd5d9d0ee09db8147c09f783e2"), looks := false }, kinds := [], alts := [], laidByText := true, laidKinds := [.data], laidTests := true, laidLooks := .later }
def SmallOwnUptoCardSaid : Prop := Claim7.holds Tryd.pinned (.plain (OpenSpec.upto smallOwnSpec)) smallOwnUptoCard

/-- THE SECOND FORM's CARD OF 'scrimlaw8.SmallApart'. -/
def smallApartUptoCard : Claim7 := { stood := { row := smallApartUptoRow, standIns := [], harness := (true, "814966736bc30fefcb4cc4af108a34c82a87bebd5d9d0ee09db8147c09f783e2"), looks := false }, kinds := [], alts := [], laidByText := true, laidKinds := [.data], laidTests := true, laidLooks := .later }
def SmallApartUptoCardSaid : Prop := Claim7.holds Tryd.pinned (.plain (OpenSpec.upto smallApartSpec)) smallApartUptoCard

/-- THE SECOND FORM's CARD OF 'scrimlaw8.SmallMagma'. -/
def smallMagmaUptoCard : Claim7 := { stood := { row := smallMagmaUptoRow, standIns := [], harness := (true, "814966736bc30fefcb4cc4af108a34c82a87bebd5d9d0ee09db8147c09f783e2"), looks := false }, kinds := [], alts := [], laidByText := true, laidKinds := [.data], laidTests := true, laidLooks := .later }
def SmallMagmaUptoCardSaid : Prop := Claim7.holds Tryd.pinned (.plain (OpenSpec.upto smallMagmaSpec)) smallMagmaUptoCard

/-- THE SECOND FORM's CARD OF 'scrimlaw8.SmallRows'. -/
def smallRowsUptoCard : Claim7 := { stood := { row := smallRowsUptoRow, standIns := [], harness := (true, "814966736bc30fefcb4cc4af108a34c82a87bebd5d9d0ee09db8147c09f783e2"), looks := false }, kinds := [], alts := [], laidByText := true, laidKinds := [.data], laidTests := true, laidLooks := .later }
def SmallRowsUptoCardSaid : Prop := Claim7.holds Tryd.pinned (.plain (OpenSpec.upto smallRowsSpec)) smallRowsUptoCard

/-- THE SECOND FORM's CARD OF 'scrimlaw8.SmallNine'. -/
def smallNineUptoCard : Claim7 := { stood := { row := smallNineUptoRow, standIns := [], harness := (true, "814966736bc30fefcb4cc4af108a34c82a87bebd5d9d0ee09db8147c09f783e2"), looks := false }, kinds := [], alts := [], laidByText := true, laidKinds := [.data], laidTests := true, laidLooks := .later }
def SmallNineUptoCardSaid : Prop := Claim7.holds Tryd.pinned (.plain (OpenSpec.upto smallNineSpec)) smallNineUptoCard
end Rows
end Go.Proofs.YtgkfohgeelfceaaDoor
