/-
  WALKS: the reference's classes, Triplet; May2, May, begins, Bad, End (layer 5).
-/
import Derived.Test.YtgnccmmbpgnamaaProg
import Derived.Test.YtgnccmmbpgnamaaN2
import Derived.WalkKit
import Derived.WalkSpells
import Derived.WalkLawsBesides
import Derived.Lib.Strings
import Derived.Outline
import Derived.OwnWalk
import Derived.RegionTactic
import Derived.Deep.RegionWith
import Derived.Deep.QuietTactic
import Derived.BigQuiet
namespace Go.Proofs.Ytgnccmmbpgnamaa
open Go.RowKit

theorem hide {p : Prop} (h : p) : Hid p := h
theorem ret_bool {a b : Bool} (h : a = b) : Ending.returned (.bool a) = .returned (.bool b) := by rw [h]
theorem ret_int {k : IntKind} {a b : Int} (h : a = b) : Ending.returned (.int k a) = .returned (.int k b) := by rw [h]
theorem cut_list (s : ByteArray) (k : Nat) : (s.extract k s.size).data.toList = s.data.toList.drop k := by
  rw [← Lib.toList_data, Lib.extract_toList]
  apply List.take_of_length_le
  simp
theorem head_list (s : ByteArray) (k : Nat) : (s.extract 0 k).data.toList = s.data.toList.take k := by
  rw [← Lib.toList_data, Lib.extract_toList]; rfl
theorem size_list (x : ByteArray) : x.size = x.data.toList.length := by simp
theorem list_one (s : ByteArray) (h : 0 < s.size) : s.data.toList = s[0] :: s.data.toList.drop 1 := by
  have e1 : s.data.toList.length = s.size := by simp
  exact (List.drop_eq_getElem_cons (l := s.data.toList) (i := 0) (by omega))
theorem list_none (s : ByteArray) (h : ¬ 0 < s.size) : s.data.toList = [] := by
  have e1 : s.data.toList.length = s.size := by simp
  exact List.eq_nil_of_length_eq_zero (by omega)
theorem list_three (s : ByteArray) (h : 3 ≤ s.size) : s.data.toList = s[0] :: s[1] :: s[2] :: s.data.toList.drop 3 := by
  have e1 : s.data.toList.length = s.size := by simp
  have h0 : s.data.toList.drop 0 = s[0] :: s.data.toList.drop 1 := List.drop_eq_getElem_cons (by omega)
  have h1 : s.data.toList.drop 1 = s[1] :: s.data.toList.drop 2 := List.drop_eq_getElem_cons (by omega)
  have h2 : s.data.toList.drop 2 = s[2] :: s.data.toList.drop 3 := List.drop_eq_getElem_cons (by omega)
  rw [← h2, ← h1, ← h0]; rfl
theorem trip_short (s : ByteArray) (h : ¬ 3 ≤ s.size) : tripB s.data.toList = false := by
  have e1 : s.data.toList.length = s.size := by simp
  match hl : s.data.toList with
  | [] => rfl
  | [_] => rfl
  | [_, _] => rfl
  | _ :: _ :: _ :: _ => rw [hl] at e1; simp at e1; omega
theorem trip_at (s : ByteArray) (h : 3 ≤ s.size) : tripB s.data.toList = (s[0] == 37 && hexN s[1].toNat && hexN s[2].toNat) := by
  rw [list_three s h]; rfl
theorem eq_some (x : ByteArray) (h : 0 < x.size) : x.toList.isEmpty = false := by
  rw [Lib.toList_data, list_one x h]; rfl
theorem eq_none (x : ByteArray) (h : ¬ 0 < x.size) : x.toList.isEmpty = true := by
  rw [Lib.toList_data, list_none x h]; rfl
theorem app_list (a b : ByteArray) : (a ++ b).data.toList = a.data.toList ++ b.data.toList := by
  simp
theorem take_snoc (s : ByteArray) (k : Nat) (h : k < s.size) : s.data.toList.take (k + 1) = s.data.toList.take k ++ [s[k]] := by
  rw [List.take_succ_eq_append_getElem (by simpa using h)]; rfl

def digN' (n : Nat) : Bool := decide (48 ≤ n ∧ n ≤ 57)
def alphN (n : Nat) : Bool := decide (65 ≤ n ∧ n ≤ 90 ∨ 97 ≤ n ∧ n ≤ 122)
end Go.Proofs.Ytgnccmmbpgnamaa
