/-
  No cell of these rows narrows 'for every input' (looked for: loops, veiled, ifaces, maps, wideKeys, modest, calm, conditions, laid).
  DERIVED. THE GIVEN ROWS OF THIS SEAT. 6 by the template 'for every input the law returns true; each argument reads behind the call as it read before'; 0 by the template 'total and deterministic' (their statements: YtmpengiohfjofaaTotals.lean).
  GIVEN WITH THE SEED: the statements are not yours to turn. If you find one false, say at which input.
  Laid BY PROGRAM, IN A SANDBOX (cutbox-rows.mjs): the forced cells as the released guide's own fill.sh prints them over the translation eb0c8420312aa671… (all of the seat's roots in one cut). By AI agents, Wed Nov 11 2026. No macro, syntax, notation, axiom, sorry.
-/
import Derived.Test.YtmpengiohfjofaaChecked
import GoSem.Claim
import GoSem.ClaimJoined
import GoSem.ClaimMapViews
import Derived.JoinedTies
import Derived.KernelRfl
namespace Go.Proofs.Ytmpengiohfjofaa
/- THE CELL 'sum', in the pinned program and in every row, IS THE sha256 OF THE DUMP (.gsa) THAT YtmpengiohfjofaaProg.lean LOADS. Nothing in Lean hashes anything: it is a label: what it is worth is what the hold of that sum in a sandbox is worth. -/
noncomputable def Try.pinned : Pinned := { name := "ytmpengiohfjofaa", sum := "eb0c8420312aa6713a5787dfeb5adc4b1cfda91f74ed176aae25c4579fa61689", checked := Try.checked }
namespace Rows
def none {H : Type} : Left H := { results := [], args := [] }

/-- 'phalaropelaw03.PctOne': WHATEVER THE INPUT: true; the input reads as it did. -/
def pctOneSpec : ChangeSpec := { name := "pctOne", fn := fun _ => fun
  | [d1, d2] => { results := [.lit (.bool true)], args := [d1, d2] }
  | _ => none }
def pctOneRow : OpenClaim := { program := "ytmpengiohfjofaa", sum := "eb0c8420312aa6713a5787dfeb5adc4b1cfda91f74ed176aae25c4579fa61689", func := "phalarope/phalaropelaw03.PctOne", spec := "pctOne", inPlace := ["internal/abi.NoEscape"], unfollowed := true, recurses := true, apart := false }
def PctOneSaid : Prop := pctOneRow.holds Try.pinned (OpenSpec.ofChange pctOneSpec)

/-- ITS FALSE NEIGHBOUR: 'it returns false'. Refute it at one input. -/
def pctOneWrong : ChangeSpec := { name := "pctOne", fn := fun _ => fun
  | [d1, d2] => { results := [.lit (.bool false)], args := [d1, d2] }
  | _ => none }
def PctOneWrongFalsely : Prop := pctOneRow.holds Try.pinned (OpenSpec.ofChange pctOneWrong)

/-- 'phalaropelaw03.PctTells': WHATEVER THE INPUT: true; the input reads as it did. -/
def pctTellsSpec : ChangeSpec := { name := "pctTells", fn := fun _ => fun
  | [d] => { results := [.lit (.bool true)], args := [d] }
  | _ => none }
def pctTellsRow : OpenClaim := { program := "ytmpengiohfjofaa", sum := "eb0c8420312aa6713a5787dfeb5adc4b1cfda91f74ed176aae25c4579fa61689", func := "phalarope/phalaropelaw03.PctTells", spec := "pctTells", inPlace := ["internal/abi.NoEscape"], unfollowed := true, recurses := true, apart := false }
def PctTellsSaid : Prop := pctTellsRow.holds Try.pinned (OpenSpec.ofChange pctTellsSpec)

/-- ITS FALSE NEIGHBOUR: 'it returns false'. Refute it at one input. -/
def pctTellsWrong : ChangeSpec := { name := "pctTells", fn := fun _ => fun
  | [d] => { results := [.lit (.bool false)], args := [d] }
  | _ => none }
def PctTellsWrongFalsely : Prop := pctTellsRow.holds Try.pinned (OpenSpec.ofChange pctTellsWrong)

/-- 'phalaropelaw03.PctBack': WHATEVER THE INPUT: true; the input reads as it did. -/
def pctBackSpec : ChangeSpec := { name := "pctBack", fn := fun _ => fun
  | [d] => { results := [.lit (.bool true)], args := [d] }
  | _ => none }
def pctBackRow : OpenClaim := { program := "ytmpengiohfjofaa", sum := "eb0c8420312aa6713a5787dfeb5adc4b1cfda91f74ed176aae25c4579fa61689", func := "phalarope/phalaropelaw03.PctBack", spec := "pctBack", inPlace := ["internal/abi.NoEscape"], unfollowed := true, recurses := true, apart := false }
def PctBackSaid : Prop := pctBackRow.holds Try.pinned (OpenSpec.ofChange pctBackSpec)

/-- ITS FALSE NEIGHBOUR: 'it returns false'. Refute it at one input. -/
def pctBackWrong : ChangeSpec := { name := "pctBack", fn := fun _ => fun
  | [d] => { results := [.lit (.bool false)], args := [d] }
  | _ => none }
def PctBackWrongFalsely : Prop := pctBackRow.holds Try.pinned (OpenSpec.ofChange pctBackWrong)

/-- 'phalaropelaw03.PctURI': WHATEVER THE INPUT: true; the input reads as it did. -/
def pctURISpec : ChangeSpec := { name := "pctURI", fn := fun _ => fun
  | [d1, d2] => { results := [.lit (.bool true)], args := [d1, d2] }
  | _ => none }
def pctURIRow : OpenClaim := { program := "ytmpengiohfjofaa", sum := "eb0c8420312aa6713a5787dfeb5adc4b1cfda91f74ed176aae25c4579fa61689", func := "phalarope/phalaropelaw03.PctURI", spec := "pctURI", inPlace := ["internal/abi.NoEscape"], unfollowed := true, recurses := true, apart := false }
def PctURISaid : Prop := pctURIRow.holds Try.pinned (OpenSpec.ofChange pctURISpec)

/-- ITS FALSE NEIGHBOUR: 'it returns false'. Refute it at one input. -/
def pctURIWrong : ChangeSpec := { name := "pctURI", fn := fun _ => fun
  | [d1, d2] => { results := [.lit (.bool false)], args := [d1, d2] }
  | _ => none }
def PctURIWrongFalsely : Prop := pctURIRow.holds Try.pinned (OpenSpec.ofChange pctURIWrong)

/-- 'phalaropelaw03.PctNorm': WHATEVER THE INPUT: true; the input reads as it did. -/
def pctNormSpec : ChangeSpec := { name := "pctNorm", fn := fun _ => fun
  | [d] => { results := [.lit (.bool true)], args := [d] }
  | _ => none }
def pctNormRow : OpenClaim := { program := "ytmpengiohfjofaa", sum := "eb0c8420312aa6713a5787dfeb5adc4b1cfda91f74ed176aae25c4579fa61689", func := "phalarope/phalaropelaw03.PctNorm", spec := "pctNorm", inPlace := ["internal/abi.NoEscape"], unfollowed := true, recurses := true, apart := false }
def PctNormSaid : Prop := pctNormRow.holds Try.pinned (OpenSpec.ofChange pctNormSpec)

/-- ITS FALSE NEIGHBOUR: 'it returns false'. Refute it at one input. -/
def pctNormWrong : ChangeSpec := { name := "pctNorm", fn := fun _ => fun
  | [d] => { results := [.lit (.bool false)], args := [d] }
  | _ => none }
def PctNormWrongFalsely : Prop := pctNormRow.holds Try.pinned (OpenSpec.ofChange pctNormWrong)

/-- 'phalaropelaw03.PctJoins': WHATEVER THE INPUT: true; the input reads as it did. -/
def pctJoinsSpec : ChangeSpec := { name := "pctJoins", fn := fun _ => fun
  | [d1, d2] => { results := [.lit (.bool true)], args := [d1, d2] }
  | _ => none }
def pctJoinsRow : OpenClaim := { program := "ytmpengiohfjofaa", sum := "eb0c8420312aa6713a5787dfeb5adc4b1cfda91f74ed176aae25c4579fa61689", func := "phalarope/phalaropelaw03.PctJoins", spec := "pctJoins", inPlace := ["internal/abi.NoEscape"], unfollowed := true, recurses := true, apart := false }
def PctJoinsSaid : Prop := pctJoinsRow.holds Try.pinned (OpenSpec.ofChange pctJoinsSpec)

/-- ITS FALSE NEIGHBOUR: 'it returns false'. Refute it at one input. -/
def pctJoinsWrong : ChangeSpec := { name := "pctJoins", fn := fun _ => fun
  | [d1, d2] => { results := [.lit (.bool false)], args := [d1, d2] }
  | _ => none }
def PctJoinsWrongFalsely : Prop := pctJoinsRow.holds Try.pinned (OpenSpec.ofChange pctJoinsWrong)

/- THE SECOND FORM. 'bulk': how many values and letters a reading holds, each counted each time it is reached (what is shared counts as often as it is met; a slice's spare places count too). A statement '..UptoSaid' is the law's where the arguments, and the package variables that the reading takes, are together of bulk at most 1048576: NARROWER than '..Said'. Prove '..Said' where nothing that the law and all that it calls make is longer than what came in: it says more and counts as full. Else prove '..UptoSaid'. A law counts once. -/
mutual
def uptoBulk {H : Type} : DataW H → Nat
  | .lit (.string bytes) => bytes.length + 1
  | .lit _ => 1
  | .nil => 1
  | .ptr d => uptoBulk d + 1
  | .slice elems spare => uptoBulkAll elems + uptoBulkAll spare + 1
  | .agg parts => uptoBulkAll parts + 1
  | .iface _ d => uptoBulk d + 1
  | .map entries => uptoBulkEntries entries + 1
  | .held _ => 1
def uptoBulkAll {H : Type} : List (DataW H) → Nat
  | [] => 0
  | d :: r => uptoBulk d + uptoBulkAll r
def uptoBulkEntries {H : Type} : List (Lit × DataW H) → Nat
  | [] => 0
  | x :: r => uptoBulkEntry x + uptoBulkEntries r
def uptoBulkEntry {H : Type} : Lit × DataW H → Nat
  | (.string bytes, d) => bytes.length + uptoBulk d + 1
  | (_, d) => uptoBulk d + 1
 end
def uptoSmall : (H : Type) → List (DataW H) → Bool := fun _ ds => decide (uptoBulkAll ds ≤ 1048576)
def OpenSpec.upto (s : _root_.Go.ChangeSpec) : _root_.Go.OpenSpec := { _root_.Go.OpenSpec.ofChange s with cond := some uptoSmall }

/-- 'phalaropelaw03.PctOne', WHERE WHAT IT READS IS OF BULK AT MOST 1048576: true; the input reads as it did. -/
def pctOneUptoRow : OpenClaim := { program := "ytmpengiohfjofaa", sum := "eb0c8420312aa6713a5787dfeb5adc4b1cfda91f74ed176aae25c4579fa61689", func := "phalarope/phalaropelaw03.PctOne", spec := "pctOne", inPlace := ["internal/abi.NoEscape"], unfollowed := true, recurses := true, apart := false, narrowed := true }
def PctOneUptoSaid : Prop := pctOneUptoRow.holds Try.pinned (OpenSpec.upto pctOneSpec)

/-- 'phalaropelaw03.PctTells', WHERE WHAT IT READS IS OF BULK AT MOST 1048576: true; the input reads as it did. -/
def pctTellsUptoRow : OpenClaim := { program := "ytmpengiohfjofaa", sum := "eb0c8420312aa6713a5787dfeb5adc4b1cfda91f74ed176aae25c4579fa61689", func := "phalarope/phalaropelaw03.PctTells", spec := "pctTells", inPlace := ["internal/abi.NoEscape"], unfollowed := true, recurses := true, apart := false, narrowed := true }
def PctTellsUptoSaid : Prop := pctTellsUptoRow.holds Try.pinned (OpenSpec.upto pctTellsSpec)

/-- 'phalaropelaw03.PctBack', WHERE WHAT IT READS IS OF BULK AT MOST 1048576: true; the input reads as it did. -/
def pctBackUptoRow : OpenClaim := { program := "ytmpengiohfjofaa", sum := "eb0c8420312aa6713a5787dfeb5adc4b1cfda91f74ed176aae25c4579fa61689", func := "phalarope/phalaropelaw03.PctBack", spec := "pctBack", inPlace := ["internal/abi.NoEscape"], unfollowed := true, recurses := true, apart := false, narrowed := true }
def PctBackUptoSaid : Prop := pctBackUptoRow.holds Try.pinned (OpenSpec.upto pctBackSpec)

/-- 'phalaropelaw03.PctURI', WHERE WHAT IT READS IS OF BULK AT MOST 1048576: true; the input reads as it did. -/
def pctURIUptoRow : OpenClaim := { program := "ytmpengiohfjofaa", sum := "eb0c8420312aa6713a5787dfeb5adc4b1cfda91f74ed176aae25c4579fa61689", func := "phalarope/phalaropelaw03.PctURI", spec := "pctURI", inPlace := ["internal/abi.NoEscape"], unfollowed := true, recurses := true, apart := false, narrowed := true }
def PctURIUptoSaid : Prop := pctURIUptoRow.holds Try.pinned (OpenSpec.upto pctURISpec)

/-- 'phalaropelaw03.PctNorm', WHERE WHAT IT READS IS OF BULK AT MOST 1048576: true; the input reads as it did. -/
def pctNormUptoRow : OpenClaim := { program := "ytmpengiohfjofaa", sum := "eb0c8420312aa6713a5787dfeb5adc4b1cfda91f74ed176aae25c4579fa61689", func := "phalarope/phalaropelaw03.PctNorm", spec := "pctNorm", inPlace := ["internal/abi.NoEscape"], unfollowed := true, recurses := true, apart := false, narrowed := true }
def PctNormUptoSaid : Prop := pctNormUptoRow.holds Try.pinned (OpenSpec.upto pctNormSpec)

/-- 'phalaropelaw03.PctJoins', WHERE WHAT IT READS IS OF BULK AT MOST 1048576: true; the input reads as it did. -/
def pctJoinsUptoRow : OpenClaim := { program := "ytmpengiohfjofaa", sum := "eb0c8420312aa6713a5787dfeb5adc4b1cfda91f74ed176aae25c4579fa61689", func := "phalarope/phalaropelaw03.PctJoins", spec := "pctJoins", inPlace := ["internal/abi.NoEscape"], unfollowed := true, recurses := true, apart := false, narrowed := true }
def PctJoinsUptoSaid : Prop := pctJoinsUptoRow.holds Try.pinned (OpenSpec.upto pctJoinsSpec)

end Rows
end Go.Proofs.Ytmpengiohfjofaa
