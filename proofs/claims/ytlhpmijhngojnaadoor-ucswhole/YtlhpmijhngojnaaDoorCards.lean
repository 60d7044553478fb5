/-
  DERIVED. GIVEN WITH THE SEED: THE CARDS: each row of YtlhpmijhngojnaaDoorRows.lean that lists a variable, with what it lists TIED to the program's text (the seventh form; the later family's looks); each row that meets fmt, with fmt's text TOLD by the authors' own Lean function (tested against real Go, not proved from fmt's source: count such statements apart). THE CARD IS WHAT COUNTS. Prove the row's statement (the work); the ties are given (YtlhpmijhngojnaaDoorTie.lean); close each card by the builder's one call (the guide's Derived/Test/ToyasCard.lean, 'card_holds'). Laid BY PROGRAM, IN A SANDBOX (cutbox-door.mjs). By AI agents, Wed Nov 11 2026. No macro, syntax, notation, axiom, sorry.
-/
import Derived.Test.YtlhpmijhngojnaaDoorRows
import GoSem.ClaimSeven
namespace Go.Proofs.YtlhpmijhngojnaaDoor
namespace Rows

/-- THE TIED CARD OF 'phalaropelaw04.UcsTells'. -/
def ucsTellsCard : Claim7 := { stood := { row := ucsTellsRow, standIns := [], harness := (true, "1434e7c483fac91a874b7e756524a7d54616262c452a2e7a04e37ea4c721d57d"), looks := false }, kinds := [], alts := [], laidByText := true, laidKinds := [.data], laidTests := true, laidLooks := .later }
def UcsTellsCardSaid : Prop := Claim7.holds Tryd.pinned (.plain (OpenSpec.ofChange ucsTellsSpec)) ucsTellsCard

/-- THE TIED CARD OF 'phalaropelaw04.UcsBegins'. -/
def ucsBeginsCard : Claim7 := { stood := { row := ucsBeginsRow, standIns := [], harness := (true, "1434e7c483fac91a874b7e756524a7d54616262c452a2e7a04e37ea4c721d57d"), looks := false }, kinds := [], alts := [], laidByText := true, laidKinds := [.data], laidTests := true, laidLooks := .later }
def UcsBeginsCardSaid : Prop := Claim7.holds Tryd.pinned (.plain (OpenSpec.ofChange ucsBeginsSpec)) ucsBeginsCard

/-- THE TIED CARD OF 'phalaropelaw04.UcsCut'. -/
def ucsCutCard : Claim7 := { stood := { row := ucsCutRow, standIns := [], harness := (true, "1434e7c483fac91a874b7e756524a7d54616262c452a2e7a04e37ea4c721d57d"), looks := false }, kinds := [], alts := [], laidByText := true, laidKinds := [.data], laidTests := true, laidLooks := .later }
def UcsCutCardSaid : Prop := Claim7.holds Tryd.pinned (.plain (OpenSpec.ofChange ucsCutSpec)) ucsCutCard

/-- THE TIED CARD OF 'phalaropelaw04.UcsWhole'. -/
def ucsWholeCard : Claim7 := { stood := { row := ucsWholeRow, standIns := [], harness := (true, "1434e7c483fac91a874b7e756524a7d54616262c452a2e7a04e37ea4c721d57d"), looks := false }, kinds := [], alts := [], laidByText := true, laidKinds := [.data], laidTests := true, laidLooks := .later }
def UcsWholeCardSaid : Prop := Claim7.holds Tryd.pinned (.plain (OpenSpec.ofChange ucsWholeSpec)) ucsWholeCard

/-- THE TIED CARD OF 'phalaropelaw04.UcsPlanes'. -/
def ucsPlanesCard : Claim7 := { stood := { row := ucsPlanesRow, standIns := [], harness := (true, "1434e7c483fac91a874b7e756524a7d54616262c452a2e7a04e37ea4c721d57d"), looks := false }, kinds := [], alts := [], laidByText := true, laidKinds := [.data], laidTests := true, laidLooks := .later }
def UcsPlanesCardSaid : Prop := Claim7.holds Tryd.pinned (.plain (OpenSpec.ofChange ucsPlanesSpec)) ucsPlanesCard

/-- THE TIED CARD OF 'phalaropelaw04.UcsEnds'. -/
def ucsEndsCard : Claim7 := { stood := { row := ucsEndsRow, standIns := [], harness := (true, "1434e7c483fac91a874b7e756524a7d54616262c452a2e7a04e37ea4c721d57d"), looks := false }, kinds := [], alts := [], laidByText := true, laidKinds := [.data], laidTests := true, laidLooks := .later }
def UcsEndsCardSaid : Prop := Claim7.holds Tryd.pinned (.plain (OpenSpec.ofChange ucsEndsSpec)) ucsEndsCard

/-- THE SECOND FORM's CARD OF 'phalaropelaw04.UcsTells'. -/
def ucsTellsUptoCard : Claim7 := { stood := { row := ucsTellsUptoRow, standIns := [], harness := (true, "1434e7c483fac91a874b7e756524a7d54616262c452a2e7a04e37ea4c721d57d"), looks := false }, kinds := [], alts := [], laidByText := true, laidKinds := [.data], laidTests := true, laidLooks := .later }
def UcsTellsUptoCardSaid : Prop := Claim7.holds Tryd.pinned (.plain (OpenSpec.upto ucsTellsSpec)) ucsTellsUptoCard

/-- THE SECOND FORM's CARD OF 'phalaropelaw04.UcsBegins'. -/
def ucsBeginsUptoCard : Claim7 := { stood := { row := ucsBeginsUptoRow, standIns := [], harness := (true, "1434e7c483fac91a874b7e756524a7d54616262c452a2e7a04e37ea4c721d57d"), looks := false }, kinds := [], alts := [], laidByText := true, laidKinds := [.data], laidTests := true, laidLooks := .later }
def UcsBeginsUptoCardSaid : Prop := Claim7.holds Tryd.pinned (.plain (OpenSpec.upto ucsBeginsSpec)) ucsBeginsUptoCard

/-- THE SECOND FORM's CARD OF 'phalaropelaw04.UcsCut'. -/
def ucsCutUptoCard : Claim7 := { stood := { row := ucsCutUptoRow, standIns := [], harness := (true, "1434e7c483fac91a874b7e756524a7d54616262c452a2e7a04e37ea4c721d57d"), looks := false }, kinds := [], alts := [], laidByText := true, laidKinds := [.data], laidTests := true, laidLooks := .later }
def UcsCutUptoCardSaid : Prop := Claim7.holds Tryd.pinned (.plain (OpenSpec.upto ucsCutSpec)) ucsCutUptoCard

/-- THE SECOND FORM's CARD OF 'phalaropelaw04.UcsWhole'. -/
def ucsWholeUptoCard : Claim7 := { stood := { row := ucsWholeUptoRow, standIns := [], harness := (true, "1434e7c483fac91a874b7e756524a7d54616262c452a2e7a04e37ea4c721d57d"), looks := false }, kinds := [], alts := [], laidByText := true, laidKinds := [.data], laidTests := true, laidLooks := .later }
def UcsWholeUptoCardSaid : Prop := Claim7.holds Tryd.pinned (.plain (OpenSpec.upto ucsWholeSpec)) ucsWholeUptoCard

/-- THE SECOND FORM's CARD OF 'phalaropelaw04.UcsPlanes'. -/
def ucsPlanesUptoCard : Claim7 := { stood := { row := ucsPlanesUptoRow, standIns := [], harness := (true, "1434e7c483fac91a874b7e756524a7d54616262c452a2e7a04e37ea4c721d57d"), looks := false }, kinds := [], alts := [], laidByText := true, laidKinds := [.data], laidTests := true, laidLooks := .later }
def UcsPlanesUptoCardSaid : Prop := Claim7.holds Tryd.pinned (.plain (OpenSpec.upto ucsPlanesSpec)) ucsPlanesUptoCard

/-- THE SECOND FORM's CARD OF 'phalaropelaw04.UcsEnds'. -/
def ucsEndsUptoCard : Claim7 := { stood := { row := ucsEndsUptoRow, standIns := [], harness := (true, "1434e7c483fac91a874b7e756524a7d54616262c452a2e7a04e37ea4c721d57d"), looks := false }, kinds := [], alts := [], laidByText := true, laidKinds := [.data], laidTests := true, laidLooks := .later }
def UcsEndsUptoCardSaid : Prop := Claim7.holds Tryd.pinned (.plain (OpenSpec.upto ucsEndsSpec)) ucsEndsUptoCard
end Rows
end Go.Proofs.YtlhpmijhngojnaaDoor
