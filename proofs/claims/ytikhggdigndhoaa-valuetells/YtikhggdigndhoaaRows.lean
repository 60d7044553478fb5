/-
  No cell of these rows narrows 'for every input' (looked for: loops, veiled, ifaces, maps, wideKeys, modest, calm, conditions, laid).
  DERIVED. THE GIVEN ROWS OF THIS SEAT. 6 by the template 'for every input the law returns true; each argument reads behind the call as it read before'; 0 by the template 'total and deterministic' (their statements: YtikhggdigndhoaaTotals.lean).
  GIVEN WITH THE SEED: the statements are not yours to turn. If you find one false, say at which input.
  Laid BY PROGRAM, IN A SANDBOX (cutbox-rows.mjs): the forced cells as the released guide's own fill.sh prints them over the translation e58fe9ef3ed98865… (all of the seat's roots in one cut). By AI agents, Wed Nov 11 2026. No macro, syntax, notation, axiom, sorry.
-/
import Derived.Test.YtikhggdigndhoaaChecked
import GoSem.Claim
import GoSem.ClaimJoined
import GoSem.ClaimMapViews
import Derived.JoinedTies
import Derived.KernelRfl
namespace Go.Proofs.Ytikhggdigndhoaa
/- THE CELL 'sum', in the pinned program and in every row, IS THE sha256 OF THE DUMP (.gsa) THAT YtikhggdigndhoaaProg.lean LOADS. Nothing in Lean hashes anything: it is a label: what it is worth is what the hold of that sum in a sandbox is worth. -/
noncomputable def Try.pinned : Pinned := { name := "ytikhggdigndhoaa", sum := "e58fe9ef3ed988650c060f00dd323fdc66b7a6289080a2b92963372215e7e10b", checked := Try.checked }
namespace Rows
def none {H : Type} : Left H := { results := [], args := [] }

/-- 'phalaropelaw08.ValueTells': WHATEVER THE INPUT: true; the input reads as it did. -/
def valueTellsSpec : ChangeSpec := { name := "valueTells", fn := fun _ => fun
  | [d1, d2] => { results := [.lit (.bool true)], args := [d1, d2] }
  | _ => none }
def valueTellsRow : OpenClaim := { program := "ytikhggdigndhoaa", sum := "e58fe9ef3ed988650c060f00dd323fdc66b7a6289080a2b92963372215e7e10b", func := "phalarope/phalaropelaw08.ValueTells", spec := "valueTells", unfollowed := true, recurses := true, apart := false }
def ValueTellsSaid : Prop := valueTellsRow.holds Try.pinned (OpenSpec.ofChange valueTellsSpec)

/-- ITS FALSE NEIGHBOUR: 'it returns false'. Refute it at one input. -/
def valueTellsWrong : ChangeSpec := { name := "valueTells", fn := fun _ => fun
  | [d1, d2] => { results := [.lit (.bool false)], args := [d1, d2] }
  | _ => none }
def ValueTellsWrongFalsely : Prop := valueTellsRow.holds Try.pinned (OpenSpec.ofChange valueTellsWrong)

/-- 'phalaropelaw08.ValueOf': WHATEVER THE INPUT: true; the input reads as it did. -/
def valueOfSpec : ChangeSpec := { name := "valueOf", fn := fun _ => fun
  | [d1, d2] => { results := [.lit (.bool true)], args := [d1, d2] }
  | _ => none }
def valueOfRow : OpenClaim := { program := "ytikhggdigndhoaa", sum := "e58fe9ef3ed988650c060f00dd323fdc66b7a6289080a2b92963372215e7e10b", func := "phalarope/phalaropelaw08.ValueOf", spec := "valueOf", unfollowed := true, recurses := true, apart := false }
def ValueOfSaid : Prop := valueOfRow.holds Try.pinned (OpenSpec.ofChange valueOfSpec)

/-- ITS FALSE NEIGHBOUR: 'it returns false'. Refute it at one input. -/
def valueOfWrong : ChangeSpec := { name := "valueOf", fn := fun _ => fun
  | [d1, d2] => { results := [.lit (.bool false)], args := [d1, d2] }
  | _ => none }
def ValueOfWrongFalsely : Prop := valueOfRow.holds Try.pinned (OpenSpec.ofChange valueOfWrong)

/-- 'phalaropelaw08.ValueCanon': WHATEVER THE INPUT: true; the input reads as it did. -/
def valueCanonSpec : ChangeSpec := { name := "valueCanon", fn := fun _ => fun
  | [d] => { results := [.lit (.bool true)], args := [d] }
  | _ => none }
def valueCanonRow : OpenClaim := { program := "ytikhggdigndhoaa", sum := "e58fe9ef3ed988650c060f00dd323fdc66b7a6289080a2b92963372215e7e10b", func := "phalarope/phalaropelaw08.ValueCanon", spec := "valueCanon", unfollowed := true, recurses := true, apart := false }
def ValueCanonSaid : Prop := valueCanonRow.holds Try.pinned (OpenSpec.ofChange valueCanonSpec)

/-- ITS FALSE NEIGHBOUR: 'it returns false'. Refute it at one input. -/
def valueCanonWrong : ChangeSpec := { name := "valueCanon", fn := fun _ => fun
  | [d] => { results := [.lit (.bool false)], args := [d] }
  | _ => none }
def ValueCanonWrongFalsely : Prop := valueCanonRow.holds Try.pinned (OpenSpec.ofChange valueCanonWrong)

/-- 'phalaropelaw08.ValueOrder': WHATEVER THE INPUT: true; the input reads as it did. -/
def valueOrderSpec : ChangeSpec := { name := "valueOrder", fn := fun _ => fun
  | [d1, d2, d3] => { results := [.lit (.bool true)], args := [d1, d2, d3] }
  | _ => none }
def valueOrderRow : OpenClaim := { program := "ytikhggdigndhoaa", sum := "e58fe9ef3ed988650c060f00dd323fdc66b7a6289080a2b92963372215e7e10b", func := "phalarope/phalaropelaw08.ValueOrder", spec := "valueOrder", unfollowed := true, recurses := true, apart := false }
def ValueOrderSaid : Prop := valueOrderRow.holds Try.pinned (OpenSpec.ofChange valueOrderSpec)

/-- ITS FALSE NEIGHBOUR: 'it returns false'. Refute it at one input. -/
def valueOrderWrong : ChangeSpec := { name := "valueOrder", fn := fun _ => fun
  | [d1, d2, d3] => { results := [.lit (.bool false)], args := [d1, d2, d3] }
  | _ => none }
def ValueOrderWrongFalsely : Prop := valueOrderRow.holds Try.pinned (OpenSpec.ofChange valueOrderWrong)

/-- 'phalaropelaw08.ValueMore': WHATEVER THE INPUT: true; the input reads as it did. -/
def valueMoreSpec : ChangeSpec := { name := "valueMore", fn := fun _ => fun
  | [d1, d2] => { results := [.lit (.bool true)], args := [d1, d2] }
  | _ => none }
def valueMoreRow : OpenClaim := { program := "ytikhggdigndhoaa", sum := "e58fe9ef3ed988650c060f00dd323fdc66b7a6289080a2b92963372215e7e10b", func := "phalarope/phalaropelaw08.ValueMore", spec := "valueMore", unfollowed := true, recurses := true, apart := false }
def ValueMoreSaid : Prop := valueMoreRow.holds Try.pinned (OpenSpec.ofChange valueMoreSpec)

/-- ITS FALSE NEIGHBOUR: 'it returns false'. Refute it at one input. -/
def valueMoreWrong : ChangeSpec := { name := "valueMore", fn := fun _ => fun
  | [d1, d2] => { results := [.lit (.bool false)], args := [d1, d2] }
  | _ => none }
def ValueMoreWrongFalsely : Prop := valueMoreRow.holds Try.pinned (OpenSpec.ofChange valueMoreWrong)

/-- 'phalaropelaw08.ValueOnly': WHATEVER THE INPUT: true; the input reads as it did. -/
def valueOnlySpec : ChangeSpec := { name := "valueOnly", fn := fun _ => fun
  | [d1, d2] => { results := [.lit (.bool true)], args := [d1, d2] }
  | _ => none }
def valueOnlyRow : OpenClaim := { program := "ytikhggdigndhoaa", sum := "e58fe9ef3ed988650c060f00dd323fdc66b7a6289080a2b92963372215e7e10b", func := "phalarope/phalaropelaw08.ValueOnly", spec := "valueOnly", unfollowed := true, recurses := true, apart := false }
def ValueOnlySaid : Prop := valueOnlyRow.holds Try.pinned (OpenSpec.ofChange valueOnlySpec)

/-- ITS FALSE NEIGHBOUR: 'it returns false'. Refute it at one input. -/
def valueOnlyWrong : ChangeSpec := { name := "valueOnly", fn := fun _ => fun
  | [d1, d2] => { results := [.lit (.bool false)], args := [d1, d2] }
  | _ => none }
def ValueOnlyWrongFalsely : Prop := valueOnlyRow.holds Try.pinned (OpenSpec.ofChange valueOnlyWrong)

/- THE SECOND FORM. 'bulk': how many values and letters a reading holds, each counted each time it is reached (what is shared counts as often as it is met; a slice's spare places count too). A statement '..UptoSaid' is the law's where the arguments, and the package variables that the reading takes, are together of bulk at most 1048576: NARROWER than '..Said'. Prove '..Said' where nothing that the law and all that it calls make is longer than what came in: it says more and counts as full. Else prove '..UptoSaid'. A law counts once. -/
mutual
def uptoBulk {H : Type} : DataW H → Nat
  | .lit (.string bytes) => bytes.length + 1
  | .lit _ => 1
  | .nil => 1
  | .ptr d => uptoBulk d + 1
  | .slice elems spare => uptoBulkAll elems + uptoBulkAll spare + 1
  | .agg parts => uptoBulkAll parts + 1
  | .iface _ d => uptoBulk d + 1
  | .map entries => uptoBulkEntries entries + 1
  | .held _ => 1
def uptoBulkAll {H : Type} : List (DataW H) → Nat
  | [] => 0
  | d :: r => uptoBulk d + uptoBulkAll r
def uptoBulkEntries {H : Type} : List (Lit × DataW H) → Nat
  | [] => 0
  | x :: r => uptoBulkEntry x + uptoBulkEntries r
def uptoBulkEntry {H : Type} : Lit × DataW H → Nat
  | (.string bytes, d) => bytes.length + uptoBulk d + 1
  | (_, d) => uptoBulk d + 1
 end
def uptoSmall : (H : Type) → List (DataW H) → Bool := fun _ ds => decide (uptoBulkAll ds ≤ 1048576)
def OpenSpec.upto (s : _root_.Go.ChangeSpec) : _root_.Go.OpenSpec := { _root_.Go.OpenSpec.ofChange s with cond := some uptoSmall }

/-- 'phalaropelaw08.ValueTells', WHERE WHAT IT READS IS OF BULK AT MOST 1048576: true; the input reads as it did. -/
def valueTellsUptoRow : OpenClaim := { program := "ytikhggdigndhoaa", sum := "e58fe9ef3ed988650c060f00dd323fdc66b7a6289080a2b92963372215e7e10b", func := "phalarope/phalaropelaw08.ValueTells", spec := "valueTells", unfollowed := true, recurses := true, apart := false, narrowed := true }
def ValueTellsUptoSaid : Prop := valueTellsUptoRow.holds Try.pinned (OpenSpec.upto valueTellsSpec)

/-- 'phalaropelaw08.ValueOf', WHERE WHAT IT READS IS OF BULK AT MOST 1048576: true; the input reads as it did. -/
def valueOfUptoRow : OpenClaim := { program := "ytikhggdigndhoaa", sum := "e58fe9ef3ed988650c060f00dd323fdc66b7a6289080a2b92963372215e7e10b", func := "phalarope/phalaropelaw08.ValueOf", spec := "valueOf", unfollowed := true, recurses := true, apart := false, narrowed := true }
def ValueOfUptoSaid : Prop := valueOfUptoRow.holds Try.pinned (OpenSpec.upto valueOfSpec)

/-- 'phalaropelaw08.ValueCanon', WHERE WHAT IT READS IS OF BULK AT MOST 1048576: true; the input reads as it did. -/
def valueCanonUptoRow : OpenClaim := { program := "ytikhggdigndhoaa", sum := "e58fe9ef3ed988650c060f00dd323fdc66b7a6289080a2b92963372215e7e10b", func := "phalarope/phalaropelaw08.ValueCanon", spec := "valueCanon", unfollowed := true, recurses := true, apart := false, narrowed := true }
def ValueCanonUptoSaid : Prop := valueCanonUptoRow.holds Try.pinned (OpenSpec.upto valueCanonSpec)

/-- 'phalaropelaw08.ValueOrder', WHERE WHAT IT READS IS OF BULK AT MOST 1048576: true; the input reads as it did. -/
def valueOrderUptoRow : OpenClaim := { program := "ytikhggdigndhoaa", sum := "e58fe9ef3ed988650c060f00dd323fdc66b7a6289080a2b92963372215e7e10b", func := "phalarope/phalaropelaw08.ValueOrder", spec := "valueOrder", unfollowed := true, recurses := true, apart := false, narrowed := true }
def ValueOrderUptoSaid : Prop := valueOrderUptoRow.holds Try.pinned (OpenSpec.upto valueOrderSpec)

/-- 'phalaropelaw08.ValueMore', WHERE WHAT IT READS IS OF BULK AT MOST 1048576: true; the input reads as it did. -/
def valueMoreUptoRow : OpenClaim := { program := "ytikhggdigndhoaa", sum := "e58fe9ef3ed988650c060f00dd323fdc66b7a6289080a2b92963372215e7e10b", func := "phalarope/phalaropelaw08.ValueMore", spec := "valueMore", unfollowed := true, recurses := true, apart := false, narrowed := true }
def ValueMoreUptoSaid : Prop := valueMoreUptoRow.holds Try.pinned (OpenSpec.upto valueMoreSpec)

/-- 'phalaropelaw08.ValueOnly', WHERE WHAT IT READS IS OF BULK AT MOST 1048576: true; the input reads as it did. -/
def valueOnlyUptoRow : OpenClaim := { program := "ytikhggdigndhoaa", sum := "e58fe9ef3ed988650c060f00dd323fdc66b7a6289080a2b92963372215e7e10b", func := "phalarope/phalaropelaw08.ValueOnly", spec := "valueOnly", unfollowed := true, recurses := true, apart := false, narrowed := true }
def ValueOnlyUptoSaid : Prop := valueOnlyUptoRow.holds Try.pinned (OpenSpec.upto valueOnlySpec)

end Rows
end Go.Proofs.Ytikhggdigndhoaa
