/-
  WALKS: awake: the statements' own first look.
-/
import Derived.Test.YtikhggdigndhoaauW3
namespace Go.Proofs.Ytikhggdigndhoaau
open Go.RowKit

theorem v1 : validB [195, 169] = true := by decide
theorem c1 : chars [195, 169] = [233] := by decide
theorem t1 : textR [233] = .tuple #[.string ⟨#[195, 169]⟩, .bool true] := by
  have a : allMay [233] = true := by decide
  have b : textL [233] = [195, 169] := by decide
  simp [textR, a, b]
theorem v2 : validB [195] = false := by decide
theorem c2 : (chars [97, 195, 169]).length = 2 := by decide

theorem valid_awake (w : World) : Calls Try.prog 30 #[.string ⟨#[195]⟩] w fun e w' => e = .returned (.bool false) ∧ Below w.heap.size w w' := by
  have h := valid_any ⟨#[195]⟩ w
  rw [show validB (⟨#[195]⟩ : ByteArray).data.toList = false from v2] at h
  exact h
end Go.Proofs.Ytikhggdigndhoaau
