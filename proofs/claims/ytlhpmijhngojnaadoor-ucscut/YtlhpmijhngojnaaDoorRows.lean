/-
  NARROWER THAN 'FOR EVERY INPUT', by the rows' own cells (each row's printed sentence says how): UcsTells: laid · UcsBegins: laid · UcsCut: laid · UcsWhole: laid · UcsPlanes: laid · UcsEnds: laid.
  DERIVED. THE GIVEN ROWS OF THIS SEAT. 6 by the template 'for every input the law returns true; each argument reads behind the call as it read before'; 0 by the template 'total and deterministic' (their statements: YtlhpmijhngojnaaDoorTotals.lean).
  GIVEN WITH THE SEED: the statements are not yours to turn. If you find one false, say at which input.
  Laid BY PROGRAM, IN A SANDBOX (cutbox-rows.mjs): the forced cells as the released guide's own fill.sh prints them over the translation 791821db57e0a50f… (all of the seat's roots in one cut). By AI agents, Wed Nov 11 2026. No macro, syntax, notation, axiom, sorry.
-/
import Derived.Test.YtlhpmijhngojnaaDoorChecked
import GoSem.Claim
import GoSem.ClaimJoined
import GoSem.ClaimMapViews
import Derived.JoinedTies
import Derived.KernelRfl
namespace Go.Proofs.YtlhpmijhngojnaaDoor
/- THE CELL 'sum', in the pinned program and in every row, IS THE sha256 OF THE DUMP (.gsa) THAT YtlhpmijhngojnaaDoorProg.lean LOADS. Nothing in Lean hashes anything: it is a label: what it is worth is what the hold of that sum in a sandbox is worth. -/
noncomputable def Tryd.pinned : Pinned := { name := "ytlhpmijhngojnaadoor", sum := "791821db57e0a50f000fa1d9949d7f58934b8299712b49a47541904fb80e51bb", checked := Tryd.checked }
namespace Rows
def none {H : Type} : Left H := { results := [], args := [] }

/- WHAT THE LISTED PACKAGE-LEVEL VARIABLES READ AS WHEN THE CALL BEGINS. Each datum BY PROGRAM (the guide's laid-datum.mjs) off the statement by which the dump's own 'gosem.cut.vars' lays the variable. In a bare row this is a premise. The card (YtlhpmijhngojnaaDoorCards.lean) ties it to the program's text. -/
def laid_phalarope_ucs_ranges {H : Type} : DataW H := .agg [.agg [.lit (.int .i64 160), .lit (.int .i64 55295)], .agg [.lit (.int .i64 57344), .lit (.int .i64 64975)], .agg [.lit (.int .i64 65008), .lit (.int .i64 65519)], .agg [.lit (.int .i64 65536), .lit (.int .i64 131069)], .agg [.lit (.int .i64 131072), .lit (.int .i64 196605)], .agg [.lit (.int .i64 196608), .lit (.int .i64 262141)], .agg [.lit (.int .i64 262144), .lit (.int .i64 327677)], .agg [.lit (.int .i64 327680), .lit (.int .i64 393213)], .agg [.lit (.int .i64 393216), .lit (.int .i64 458749)], .agg [.lit (.int .i64 458752), .lit (.int .i64 524285)], .agg [.lit (.int .i64 524288), .lit (.int .i64 589821)], .agg [.lit (.int .i64 589824), .lit (.int .i64 655357)], .agg [.lit (.int .i64 655360), .lit (.int .i64 720893)], .agg [.lit (.int .i64 720896), .lit (.int .i64 786429)], .agg [.lit (.int .i64 786432), .lit (.int .i64 851965)], .agg [.lit (.int .i64 851968), .lit (.int .i64 917501)], .agg [.lit (.int .i64 921600), .lit (.int .i64 983037)], .agg [.lit (.int .i64 983040), .lit (.int .i64 1048573)], .agg [.lit (.int .i64 1048576), .lit (.int .i64 1114109)]]

/-- 'phalaropelaw04.UcsTells': WHATEVER THE INPUT: true; the input reads as it did. -/
def ucsTellsSpec : ChangeSpec := { name := "ucsTells", fn := fun _ => fun
  | [d1, d2] => { results := [.lit (.bool true)], args := [d1, d2] }
  | _ => none }
def ucsTellsRow : OpenClaim := { program := "ytlhpmijhngojnaadoor", sum := "791821db57e0a50f000fa1d9949d7f58934b8299712b49a47541904fb80e51bb", func := "phalarope/phalaropelaw04.UcsTells", spec := "ucsTells", unfollowed := true, recurses := true, named := ["phalarope/ucs.ranges"], apart := false, laid := [("phalarope/ucs.ranges", laid_phalarope_ucs_ranges)] }
def UcsTellsSaid : Prop := ucsTellsRow.holds Tryd.pinned (OpenSpec.ofChange ucsTellsSpec)

/-- ITS FALSE NEIGHBOUR: 'it returns false'. Refute it at one input. -/
def ucsTellsWrong : ChangeSpec := { name := "ucsTells", fn := fun _ => fun
  | [d1, d2] => { results := [.lit (.bool false)], args := [d1, d2] }
  | _ => none }
def UcsTellsWrongFalsely : Prop := ucsTellsRow.holds Tryd.pinned (OpenSpec.ofChange ucsTellsWrong)

/-- 'phalaropelaw04.UcsBegins': WHATEVER THE INPUT: true; the input reads as it did. -/
def ucsBeginsSpec : ChangeSpec := { name := "ucsBegins", fn := fun _ => fun
  | [d1, d2] => { results := [.lit (.bool true)], args := [d1, d2] }
  | _ => none }
def ucsBeginsRow : OpenClaim := { program := "ytlhpmijhngojnaadoor", sum := "791821db57e0a50f000fa1d9949d7f58934b8299712b49a47541904fb80e51bb", func := "phalarope/phalaropelaw04.UcsBegins", spec := "ucsBegins", unfollowed := true, recurses := true, named := ["phalarope/ucs.ranges"], apart := false, laid := [("phalarope/ucs.ranges", laid_phalarope_ucs_ranges)] }
def UcsBeginsSaid : Prop := ucsBeginsRow.holds Tryd.pinned (OpenSpec.ofChange ucsBeginsSpec)

/-- ITS FALSE NEIGHBOUR: 'it returns false'. Refute it at one input. -/
def ucsBeginsWrong : ChangeSpec := { name := "ucsBegins", fn := fun _ => fun
  | [d1, d2] => { results := [.lit (.bool false)], args := [d1, d2] }
  | _ => none }
def UcsBeginsWrongFalsely : Prop := ucsBeginsRow.holds Tryd.pinned (OpenSpec.ofChange ucsBeginsWrong)

/-- 'phalaropelaw04.UcsCut': WHATEVER THE INPUT: true; the input reads as it did. -/
def ucsCutSpec : ChangeSpec := { name := "ucsCut", fn := fun _ => fun
  | [d1, d2, d3] => { results := [.lit (.bool true)], args := [d1, d2, d3] }
  | _ => none }
def ucsCutRow : OpenClaim := { program := "ytlhpmijhngojnaadoor", sum := "791821db57e0a50f000fa1d9949d7f58934b8299712b49a47541904fb80e51bb", func := "phalarope/phalaropelaw04.UcsCut", spec := "ucsCut", unfollowed := true, recurses := true, named := ["phalarope/ucs.ranges"], apart := false, laid := [("phalarope/ucs.ranges", laid_phalarope_ucs_ranges)] }
def UcsCutSaid : Prop := ucsCutRow.holds Tryd.pinned (OpenSpec.ofChange ucsCutSpec)

/-- ITS FALSE NEIGHBOUR: 'it returns false'. Refute it at one input. -/
def ucsCutWrong : ChangeSpec := { name := "ucsCut", fn := fun _ => fun
  | [d1, d2, d3] => { results := [.lit (.bool false)], args := [d1, d2, d3] }
  | _ => none }
def UcsCutWrongFalsely : Prop := ucsCutRow.holds Tryd.pinned (OpenSpec.ofChange ucsCutWrong)

/-- 'phalaropelaw04.UcsWhole': WHATEVER THE INPUT: true; the input reads as it did. -/
def ucsWholeSpec : ChangeSpec := { name := "ucsWhole", fn := fun _ => fun
  | [d] => { results := [.lit (.bool true)], args := [d] }
  | _ => none }
def ucsWholeRow : OpenClaim := { program := "ytlhpmijhngojnaadoor", sum := "791821db57e0a50f000fa1d9949d7f58934b8299712b49a47541904fb80e51bb", func := "phalarope/phalaropelaw04.UcsWhole", spec := "ucsWhole", unfollowed := true, recurses := true, named := ["phalarope/ucs.ranges"], apart := false, laid := [("phalarope/ucs.ranges", laid_phalarope_ucs_ranges)] }
def UcsWholeSaid : Prop := ucsWholeRow.holds Tryd.pinned (OpenSpec.ofChange ucsWholeSpec)

/-- ITS FALSE NEIGHBOUR: 'it returns false'. Refute it at one input. -/
def ucsWholeWrong : ChangeSpec := { name := "ucsWhole", fn := fun _ => fun
  | [d] => { results := [.lit (.bool false)], args := [d] }
  | _ => none }
def UcsWholeWrongFalsely : Prop := ucsWholeRow.holds Tryd.pinned (OpenSpec.ofChange ucsWholeWrong)

/-- 'phalaropelaw04.UcsPlanes': WHATEVER THE INPUT: true; the input reads as it did. -/
def ucsPlanesSpec : ChangeSpec := { name := "ucsPlanes", fn := fun _ => fun
  | [d1, d2] => { results := [.lit (.bool true)], args := [d1, d2] }
  | _ => none }
def ucsPlanesRow : OpenClaim := { program := "ytlhpmijhngojnaadoor", sum := "791821db57e0a50f000fa1d9949d7f58934b8299712b49a47541904fb80e51bb", func := "phalarope/phalaropelaw04.UcsPlanes", spec := "ucsPlanes", unfollowed := true, recurses := true, named := ["phalarope/ucs.ranges"], apart := false, laid := [("phalarope/ucs.ranges", laid_phalarope_ucs_ranges)] }
def UcsPlanesSaid : Prop := ucsPlanesRow.holds Tryd.pinned (OpenSpec.ofChange ucsPlanesSpec)

/-- ITS FALSE NEIGHBOUR: 'it returns false'. Refute it at one input. -/
def ucsPlanesWrong : ChangeSpec := { name := "ucsPlanes", fn := fun _ => fun
  | [d1, d2] => { results := [.lit (.bool false)], args := [d1, d2] }
  | _ => none }
def UcsPlanesWrongFalsely : Prop := ucsPlanesRow.holds Tryd.pinned (OpenSpec.ofChange ucsPlanesWrong)

/-- 'phalaropelaw04.UcsEnds': WHATEVER THE INPUT: true; the input reads as it did. -/
def ucsEndsSpec : ChangeSpec := { name := "ucsEnds", fn := fun _ => fun
  | [d] => { results := [.lit (.bool true)], args := [d] }
  | _ => none }
def ucsEndsRow : OpenClaim := { program := "ytlhpmijhngojnaadoor", sum := "791821db57e0a50f000fa1d9949d7f58934b8299712b49a47541904fb80e51bb", func := "phalarope/phalaropelaw04.UcsEnds", spec := "ucsEnds", unfollowed := true, recurses := true, named := ["phalarope/ucs.ranges"], apart := false, laid := [("phalarope/ucs.ranges", laid_phalarope_ucs_ranges)] }
def UcsEndsSaid : Prop := ucsEndsRow.holds Tryd.pinned (OpenSpec.ofChange ucsEndsSpec)

/-- ITS FALSE NEIGHBOUR: 'it returns false'. Refute it at one input. -/
def ucsEndsWrong : ChangeSpec := { name := "ucsEnds", fn := fun _ => fun
  | [d] => { results := [.lit (.bool false)], args := [d] }
  | _ => none }
def UcsEndsWrongFalsely : Prop := ucsEndsRow.holds Tryd.pinned (OpenSpec.ofChange ucsEndsWrong)

/- THE SECOND FORM. 'bulk': how many values and letters a reading holds, each counted each time it is reached (what is shared counts as often as it is met; a slice's spare places count too). A statement '..UptoSaid' is the law's where the arguments, and the package variables that the reading takes, are together of bulk at most 1048576: NARROWER than '..Said'. Prove '..Said' where nothing that the law and all that it calls make is longer than what came in: it says more and counts as full. Else prove '..UptoSaid'. A law counts once. -/
mutual
def uptoBulk {H : Type} : DataW H → Nat
  | .lit (.string bytes) => bytes.length + 1
  | .lit _ => 1
  | .nil => 1
  | .ptr d => uptoBulk d + 1
  | .slice elems spare => uptoBulkAll elems + uptoBulkAll spare + 1
  | .agg parts => uptoBulkAll parts + 1
  | .iface _ d => uptoBulk d + 1
  | .map entries => uptoBulkEntries entries + 1
  | .held _ => 1
def uptoBulkAll {H : Type} : List (DataW H) → Nat
  | [] => 0
  | d :: r => uptoBulk d + uptoBulkAll r
def uptoBulkEntries {H : Type} : List (Lit × DataW H) → Nat
  | [] => 0
  | x :: r => uptoBulkEntry x + uptoBulkEntries r
def uptoBulkEntry {H : Type} : Lit × DataW H → Nat
  | (.string bytes, d) => bytes.length + uptoBulk d + 1
  | (_, d) => uptoBulk d + 1
 end
def uptoSmall : (H : Type) → List (DataW H) → Bool := fun _ ds => decide (uptoBulkAll ds ≤ 1048576)
def OpenSpec.upto (s : _root_.Go.ChangeSpec) : _root_.Go.OpenSpec := { _root_.Go.OpenSpec.ofChange s with cond := some uptoSmall }

/-- 'phalaropelaw04.UcsTells', WHERE WHAT IT READS IS OF BULK AT MOST 1048576: true; the input reads as it did. -/
def ucsTellsUptoRow : OpenClaim := { program := "ytlhpmijhngojnaadoor", sum := "791821db57e0a50f000fa1d9949d7f58934b8299712b49a47541904fb80e51bb", func := "phalarope/phalaropelaw04.UcsTells", spec := "ucsTells", unfollowed := true, recurses := true, named := ["phalarope/ucs.ranges"], apart := false, laid := [("phalarope/ucs.ranges", laid_phalarope_ucs_ranges)], narrowed := true }
def UcsTellsUptoSaid : Prop := ucsTellsUptoRow.holds Tryd.pinned (OpenSpec.upto ucsTellsSpec)

/-- 'phalaropelaw04.UcsBegins', WHERE WHAT IT READS IS OF BULK AT MOST 1048576: true; the input reads as it did. -/
def ucsBeginsUptoRow : OpenClaim := { program := "ytlhpmijhngojnaadoor", sum := "791821db57e0a50f000fa1d9949d7f58934b8299712b49a47541904fb80e51bb", func := "phalarope/phalaropelaw04.UcsBegins", spec := "ucsBegins", unfollowed := true, recurses := true, named := ["phalarope/ucs.ranges"], apart := false, laid := [("phalarope/ucs.ranges", laid_phalarope_ucs_ranges)], narrowed := true }
def UcsBeginsUptoSaid : Prop := ucsBeginsUptoRow.holds Tryd.pinned (OpenSpec.upto ucsBeginsSpec)

/-- 'phalaropelaw04.UcsCut', WHERE WHAT IT READS IS OF BULK AT MOST 1048576: true; the input reads as it did. -/
def ucsCutUptoRow : OpenClaim := { program := "ytlhpmijhngojnaadoor", sum := "791821db57e0a50f000fa1d9949d7f58934b8299712b49a47541904fb80e51bb", func := "phalarope/phalaropelaw04.UcsCut", spec := "ucsCut", unfollowed := true, recurses := true, named := ["phalarope/ucs.ranges"], apart := false, laid := [("phalarope/ucs.ranges", laid_phalarope_ucs_ranges)], narrowed := true }
def UcsCutUptoSaid : Prop := ucsCutUptoRow.holds Tryd.pinned (OpenSpec.upto ucsCutSpec)

/-- 'phalaropelaw04.UcsWhole', WHERE WHAT IT READS IS OF BULK AT MOST 1048576: true; the input reads as it did. -/
def ucsWholeUptoRow : OpenClaim := { program := "ytlhpmijhngojnaadoor", sum := "791821db57e0a50f000fa1d9949d7f58934b8299712b49a47541904fb80e51bb", func := "phalarope/phalaropelaw04.UcsWhole", spec := "ucsWhole", unfollowed := true, recurses := true, named := ["phalarope/ucs.ranges"], apart := false, laid := [("phalarope/ucs.ranges", laid_phalarope_ucs_ranges)], narrowed := true }
def UcsWholeUptoSaid : Prop := ucsWholeUptoRow.holds Tryd.pinned (OpenSpec.upto ucsWholeSpec)

/-- 'phalaropelaw04.UcsPlanes', WHERE WHAT IT READS IS OF BULK AT MOST 1048576: true; the input reads as it did. -/
def ucsPlanesUptoRow : OpenClaim := { program := "ytlhpmijhngojnaadoor", sum := "791821db57e0a50f000fa1d9949d7f58934b8299712b49a47541904fb80e51bb", func := "phalarope/phalaropelaw04.UcsPlanes", spec := "ucsPlanes", unfollowed := true, recurses := true, named := ["phalarope/ucs.ranges"], apart := false, laid := [("phalarope/ucs.ranges", laid_phalarope_ucs_ranges)], narrowed := true }
def UcsPlanesUptoSaid : Prop := ucsPlanesUptoRow.holds Tryd.pinned (OpenSpec.upto ucsPlanesSpec)

/-- 'phalaropelaw04.UcsEnds', WHERE WHAT IT READS IS OF BULK AT MOST 1048576: true; the input reads as it did. -/
def ucsEndsUptoRow : OpenClaim := { program := "ytlhpmijhngojnaadoor", sum := "791821db57e0a50f000fa1d9949d7f58934b8299712b49a47541904fb80e51bb", func := "phalarope/phalaropelaw04.UcsEnds", spec := "ucsEnds", unfollowed := true, recurses := true, named := ["phalarope/ucs.ranges"], apart := false, laid := [("phalarope/ucs.ranges", laid_phalarope_ucs_ranges)], narrowed := true }
def UcsEndsUptoSaid : Prop := ucsEndsUptoRow.holds Tryd.pinned (OpenSpec.upto ucsEndsSpec)

end Rows
end Go.Proofs.YtlhpmijhngojnaaDoor
