/-
  DERIVED. GIVEN WITH THE SEED: THE CARDS: each row of YtjbnofljoijnmaaDoorRows.lean that lists a variable, with what it lists TIED to the program's text (the seventh form; the later family's looks); each row that meets fmt, with fmt's text TOLD by the authors' own Lean function (tested against real Go, not proved from fmt's source: count such statements apart). THE CARD IS WHAT COUNTS. Prove the row's statement (the work); the ties are given (YtjbnofljoijnmaaDoorTie.lean); close each card by the builder's one call (the guide's Derived/Test/ToyasCard.lean, 'card_holds'). Laid BY PROGRAM, IN A SANDBOX (cutbox-door.mjs). By AI agents, Wed Nov 11 2026. No macro, syntax, notation, axiom, sorry.
-/
import Derived.Test.YtjbnofljoijnmaaDoorRows
import GoSem.ClaimSeven
namespace Go.Proofs.YtjbnofljoijnmaaDoor
namespace Rows

/-- THE TIED CARD OF 'phalaropelaw07.TmplBack'. -/
def tmplBackCard : Claim7 := { stood := { row := tmplBackRow, standIns := [], harness := (true, "0ee2692b2cc3e0028d489de215a522a4d1fa39aaaf5a22106c684a22138c5af5"), looks := true }, kinds := [], alts := [], laidByText := true, laidKinds := [.data, .data, .data, .data], laidTests := true, laidLooks := .later }
def TmplBackCardSaid : Prop := Claim7.holds Tryd.pinned (.plain (OpenSpec.ofChange tmplBackSpec)) tmplBackCard

/-- THE TIED CARD OF 'phalaropelaw07.TmplJoins'. -/
def tmplJoinsCard : Claim7 := { stood := { row := tmplJoinsRow, standIns := [], harness := (true, "0ee2692b2cc3e0028d489de215a522a4d1fa39aaaf5a22106c684a22138c5af5"), looks := true }, kinds := [], alts := [], laidByText := true, laidKinds := [.data, .data, .data, .data], laidTests := true, laidLooks := .later }
def TmplJoinsCardSaid : Prop := Claim7.holds Tryd.pinned (.plain (OpenSpec.ofChange tmplJoinsSpec)) tmplJoinsCard

/-- THE TIED CARD OF 'phalaropelaw07.TmplBegins'. -/
def tmplBeginsCard : Claim7 := { stood := { row := tmplBeginsRow, standIns := [], harness := (true, "0ee2692b2cc3e0028d489de215a522a4d1fa39aaaf5a22106c684a22138c5af5"), looks := true }, kinds := [], alts := [], laidByText := true, laidKinds := [.data, .data, .data, .data], laidTests := true, laidLooks := .later }
def TmplBeginsCardSaid : Prop := Claim7.holds Tryd.pinned (.plain (OpenSpec.ofChange tmplBeginsSpec)) tmplBeginsCard

/-- THE SECOND FORM's CARD OF 'phalaropelaw07.TmplBack'. -/
def tmplBackUptoCard : Claim7 := { stood := { row := tmplBackUptoRow, standIns := [], harness := (true, "0ee2692b2cc3e0028d489de215a522a4d1fa39aaaf5a22106c684a22138c5af5"), looks := true }, kinds := [], alts := [], laidByText := true, laidKinds := [.data, .data, .data, .data], laidTests := true, laidLooks := .later }
def TmplBackUptoCardSaid : Prop := Claim7.holds Tryd.pinned (.plain (OpenSpec.upto tmplBackSpec)) tmplBackUptoCard

/-- THE SECOND FORM's CARD OF 'phalaropelaw07.TmplJoins'. -/
def tmplJoinsUptoCard : Claim7 := { stood := { row := tmplJoinsUptoRow, standIns := [], harness := (true, "0ee2692b2cc3e0028d489de215a522a4d1fa39aaaf5a22106c684a22138c5af5"), looks := true }, kinds := [], alts := [], laidByText := true, laidKinds := [.data, .data, .data, .data], laidTests := true, laidLooks := .later }
def TmplJoinsUptoCardSaid : Prop := Claim7.holds Tryd.pinned (.plain (OpenSpec.upto tmplJoinsSpec)) tmplJoinsUptoCard

/-- THE SECOND FORM's CARD OF 'phalaropelaw07.TmplBegins'. -/
def tmplBeginsUptoCard : Claim7 := { stood := { row := tmplBeginsUptoRow, standIns := [], harness := (true, "0ee2692b2cc3e0028d489de215a522a4d1fa39aaaf5a22106c684a22138c5af5"), looks := true }, kinds := [], alts := [], laidByText := true, laidKinds := [.data, .data, .data, .data], laidTests := true, laidLooks := .later }
def TmplBeginsUptoCardSaid : Prop := Claim7.holds Tryd.pinned (.plain (OpenSpec.upto tmplBeginsSpec)) tmplBeginsUptoCard
end Rows
end Go.Proofs.YtjbnofljoijnmaaDoor
