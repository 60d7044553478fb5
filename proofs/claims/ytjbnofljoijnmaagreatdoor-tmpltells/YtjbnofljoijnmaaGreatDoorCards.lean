/-
  DERIVED. GIVEN WITH THE SEED: THE CARDS: each row of YtjbnofljoijnmaaGreatDoorRows.lean that lists a variable, with what it lists TIED to the program's text (the seventh form; the later family's looks); each row that meets fmt, with fmt's text TOLD by the authors' own Lean function (tested against real Go, not proved from fmt's source: count such statements apart). THE CARD IS WHAT COUNTS. Prove the row's statement (the work); the ties are given (YtjbnofljoijnmaaGreatDoorTie.lean); close each card by the builder's one call (the guide's Derived/Test/ToyasCard.lean, 'card_holds'). Laid BY PROGRAM, IN A SANDBOX (cutbox-door.mjs). By AI agents, Wed Nov 11 2026. No macro, syntax, notation, axiom, sorry.
-/
import Derived.Test.YtjbnofljoijnmaaGreatDoorRows
import GoSem.ClaimSeven
namespace Go.Proofs.YtjbnofljoijnmaaGreatDoor
namespace Rows

/-- THE TIED CARD OF 'phalaropelaw07.TmplParses'. -/
def tmplParsesCard : Claim7 := { stood := { row := tmplParsesRow, standIns := [], harness := (true, "4ee9f12973cb3117acc8fb7f92fc6caed3802d24c87e5b210b68e2b9fd55f686"), looks := true }, kinds := [], alts := [], laidByText := true, laidKinds := [.data, .data, .data, .data], laidTests := true, laidLooks := .later }
def TmplParsesCardSaid : Prop := Claim7.holds Tryz.pinned (.plain (OpenSpec.ofChange tmplParsesSpec)) tmplParsesCard

/-- THE TIED CARD OF 'phalaropelaw07.TmplTells'. -/
def tmplTellsCard : Claim7 := { stood := { row := tmplTellsRow, standIns := [], harness := (true, "4ee9f12973cb3117acc8fb7f92fc6caed3802d24c87e5b210b68e2b9fd55f686"), looks := true }, kinds := [], alts := [], laidByText := true, laidKinds := [.data, .data, .data, .data], laidTests := true, laidLooks := .later }
def TmplTellsCardSaid : Prop := Claim7.holds Tryz.pinned (.plain (OpenSpec.ofChange tmplTellsSpec)) tmplTellsCard

/-- THE TIED CARD OF 'phalaropelaw07.TmplReserved'. -/
def tmplReservedCard : Claim7 := { stood := { row := tmplReservedRow, standIns := [], harness := (true, "4ee9f12973cb3117acc8fb7f92fc6caed3802d24c87e5b210b68e2b9fd55f686"), looks := true }, kinds := [], alts := [], laidByText := true, laidKinds := [.data, .data, .data, .data], laidTests := true, laidLooks := .later }
def TmplReservedCardSaid : Prop := Claim7.holds Tryz.pinned (.plain (OpenSpec.ofChange tmplReservedSpec)) tmplReservedCard

/-- THE SECOND FORM's CARD OF 'phalaropelaw07.TmplParses'. -/
def tmplParsesUptoCard : Claim7 := { stood := { row := tmplParsesUptoRow, standIns := [], harness := (true, "4ee9f12973cb3117acc8fb7f92fc6caed3802d24c87e5b210b68e2b9fd55f686"), looks := true }, kinds := [], alts := [], laidByText := true, laidKinds := [.data, .data, .data, .data], laidTests := true, laidLooks := .later }
def TmplParsesUptoCardSaid : Prop := Claim7.holds Tryz.pinned (.plain (OpenSpec.upto tmplParsesSpec)) tmplParsesUptoCard

/-- THE SECOND FORM's CARD OF 'phalaropelaw07.TmplTells'. -/
def tmplTellsUptoCard : Claim7 := { stood := { row := tmplTellsUptoRow, standIns := [], harness := (true, "4ee9f12973cb3117acc8fb7f92fc6caed3802d24c87e5b210b68e2b9fd55f686"), looks := true }, kinds := [], alts := [], laidByText := true, laidKinds := [.data, .data, .data, .data], laidTests := true, laidLooks := .later }
def TmplTellsUptoCardSaid : Prop := Claim7.holds Tryz.pinned (.plain (OpenSpec.upto tmplTellsSpec)) tmplTellsUptoCard

/-- THE SECOND FORM's CARD OF 'phalaropelaw07.TmplReserved'. -/
def tmplReservedUptoCard : Claim7 := { stood := { row := tmplReservedUptoRow, standIns := [], harness := (true, "4ee9f12973cb3117acc8fb7f92fc6caed3802d24c87e5b210b68e2b9fd55f686"), looks := true }, kinds := [], alts := [], laidByText := true, laidKinds := [.data, .data, .data, .data], laidTests := true, laidLooks := .later }
def TmplReservedUptoCardSaid : Prop := Claim7.holds Tryz.pinned (.plain (OpenSpec.upto tmplReservedSpec)) tmplReservedUptoCard
end Rows
end Go.Proofs.YtjbnofljoijnmaaGreatDoor
