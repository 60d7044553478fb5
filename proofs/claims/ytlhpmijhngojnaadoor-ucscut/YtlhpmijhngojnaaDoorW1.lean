/-
  WALKS: utf.May and the reference's May; utf.broken; utf.each, whatever closure it is handed.
-/
import Derived.Test.YtlhpmijhngojnaaDoorProg
import Derived.Test.YtlhpmijhngojnaaDoorU
import Derived.WalkKit
import Derived.WalkSpells
import Derived.WalkLawsBesides
import Derived.Lib.OthersKept
import Derived.Shelf.RegionOpenPlain
namespace Go.Proofs.YtlhpmijhngojnaaDoor
open Go.RowKit

theorem hide {p : Prop} (h : p) : Hid p := h
theorem ret_bool {a b : Bool} (h : a = b) : Ending.returned (.bool a) = .returned (.bool b) := by rw [h]
theorem ret_int {k : IntKind} {a b : Int} (h : a = b) : Ending.returned (.int k a) = .returned (.int k b) := by rw [h]

set_option maxHeartbeats 400000 in
theorem rmay_any (c : Int) (w : World) :
    Calls Tryd.prog 29 #[.int .i64 c] w fun e w' => e = .returned (.bool (mayB c)) ∧ w' = w := by
  go_enter Tryd.func29, Tryd.ntmps29
  go_wp2
  all_goals go_ret
  all_goals refine ⟨ret_bool ?_, rfl⟩
  all_goals unfold mayB; simp [*]
  all_goals omega

theorem rmay_is (c : Int) (w : World) (b : Bool) (h : mayB c = b) : Calls Tryd.prog 29 #[.int .i64 c] w fun e w' => e = .returned (.bool b) ∧ w' = w := by
  subst h; exact rmay_any c w

theorem drop_ne {s : ByteArray} {pos : Nat} (hp : pos < s.size) : s.data.toList.drop pos ≠ [] := by
  intro h
  have := congrArg List.length h
  simp at this
  omega
theorem extract_rest (s : ByteArray) (pos : Nat) : (s.extract pos s.size).data.toList = s.data.toList.drop pos := by
  rw [← Lib.toList_data, Lib.extract_toList]
  apply List.take_of_length_le
  simp

theorem chars_at {l : List UInt8} {cs : List Int} {t : List UInt8} (h : l = textL cs ++ t) (hm : allMay cs = true) (ht : t = [] ∨ badL t = true) : chars l = cs ∧ blen l = (textL cs).length := by
  rw [h]; exact chars_of cs t hm ht

end Go.Proofs.YtlhpmijhngojnaaDoor
