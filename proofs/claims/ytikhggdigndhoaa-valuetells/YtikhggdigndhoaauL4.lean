/-
  THE WALK of UtfJoins.
-/
import Derived.Test.YtikhggdigndhoaauW4
namespace Go.Proofs.Ytikhggdigndhoaau
open Go.RowKit

theorem append_data (a b : ByteArray) : (a ++ b).data.toList = a.data.toList ++ b.data.toList := by simp

theorem joins_plain (a b : List UInt8) (h : validB a = true) : validB (a ++ b) = validB b ∧ (chars (a ++ b)).length = (chars a).length + (chars b).length ∧ blen (a ++ b) = a.length + blen b := by
  have hv : blen a = a.length := by simpa [validB] using h
  have ht := valid_text a hv
  have hc := chars_append (chars a) b (chars_may a)
  rw [ht] at hc
  refine ⟨?_, by rw [hc.1, List.length_append], hc.2⟩
  unfold validB
  rw [hc.2, List.length_append]
  rw [Bool.eq_iff_iff]
  simp

theorem valid_is (s : ByteArray) (w : World) (b : Bool) (h : validB s.data.toList = b) : Calls Try.prog 30 #[.string s] w fun e w' => e = .returned (.bool b) ∧ Below w.heap.size w w' := by
  subst h; exact valid_any s w

end Go.Proofs.Ytikhggdigndhoaau
