/-
  THE WALK of UtfText, and the reference's Text.
-/
import Derived.Test.YtikhggdigndhoaauW6
import Derived.Test.YtikhggdigndhoaauL3
namespace Go.Proofs.Ytikhggdigndhoaau
open Go.RowKit
open Go.Lib (encodeRune)

theorem string_add (l m : List UInt8) : (⟨l.toArray⟩ : ByteArray) ++ ⟨m.toArray⟩ = ⟨(l ++ m).toArray⟩ := by
  apply ByteArray.ext
  simp

/-- what both answer, taken apart -/
theorem textR_parts (zs : List Int) : ∃ (s : ByteArray) (b : Bool), textR zs = .tuple #[.string s, .bool b] := by
  unfold textR
  split
  · exact ⟨_, _, rfl⟩
  · exact ⟨_, _, rfl⟩

end Go.Proofs.Ytikhggdigndhoaau
