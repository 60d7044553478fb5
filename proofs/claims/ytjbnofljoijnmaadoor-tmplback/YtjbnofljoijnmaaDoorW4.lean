/-
  WALKS: the reference's Is (layer 6).
-/
import Derived.Test.YtjbnofljoijnmaaDoorW3
import Derived.Test.YtjbnofljoijnmaaDoorB
import Derived.RegionTactic
import Derived.ChangeAlike
import Derived.Deep.RegionHeld3
namespace Go.Proofs.YtjbnofljoijnmaaDoor
open Go.RowKit Go.Lib

theorem val_bd (l : List UInt8) : -(23 * 10 ^ l.length : Nat) ≤ valZ l - 23 ∧ valZ l + 23 ≤ (23 * 10 ^ l.length : Nat) := by
  refine snoc_induct (P := fun l => -(23 * 10 ^ l.length : Nat) ≤ valZ l - 23 ∧ valZ l + 23 ≤ (23 * 10 ^ l.length : Nat)) (by simp [valZ]) ?_ l
  intro l a ih
  have ha := UInt8.toNat_lt a
  rw [val_snoc, List.length_append, List.length_singleton, Nat.pow_succ]
  generalize 10 ^ l.length = p at *
  omega
theorem val_five {l : List UInt8} (h : l.length ≤ 5) : -3000000 ≤ valZ l ∧ valZ l ≤ 3000000 := by
  have := val_bd l
  have hp : 10 ^ l.length ≤ 10 ^ 5 := Nat.pow_le_pow_right (by decide) h
  generalize 10 ^ l.length = p at *
  omega
def nmX (s : ByteArray) : ByteArray := s.extract 0 (endN s.data.toList)
def rsX (s : ByteArray) : ByteArray := s.extract (endN s.data.toList) s.size
theorem nmX_list (s : ByteArray) : (nmX s).data.toList = s.data.toList.take (endN s.data.toList) := head_list s _
theorem rsX_list (s : ByteArray) : (rsX s).data.toList = restX s.data.toList := cut_list s _
theorem spX (s : ByteArray) : spA (nmX s) (specX s.data.toList).max (specX s.data.toList).star = specX s.data.toList := by
  unfold spA; rw [nmX_list]; rfl
theorem take_next (r : ByteArray) (j : Nat) (h1 : 1 ≤ j) (h : j < r.size) : (r.data.toList.drop 1).take j = (r.data.toList.drop 1).take (j - 1) ++ [r[j]] := by
  have hl : j - 1 < (r.data.toList.drop 1).length := by simp; omega
  conv => lhs; rw [show j = (j - 1) + 1 by omega, List.take_succ_eq_append_getElem hl]
  congr 2
  rw [List.getElem_drop]
  simp only [show 1 + (j - 1) = j by omega]
  rfl

theorem ret_two {a : Value} {b b' : Bool} (h : b = b') : Ending.returned (.tuple #[a, .bool b]) = .returned (.tuple #[a, .bool b']) := by rw [h]
end Go.Proofs.YtjbnofljoijnmaaDoor
