/-
  WALKS: the reference's less (layer 8).
-/
import Derived.Test.YtgnccmmbpgnamaaV5
import Derived.WalkLawsBesides
namespace Go.Proofs.Ytgnccmmbpgnamaa
open Go.RowKit

theorem bytes_lt : ∀ x y : List UInt8, Op.bytesLess x y = ltB x y
  | [], [] => rfl
  | _ :: _, [] => rfl
  | [], _ :: _ => rfl
  | a :: x, b :: y => by
    show (decide (a < b) || (a == b && Op.bytesLess x y)) = if a = b then ltB x y else decide (a.toNat < b.toNat)
    rw [bytes_lt x y]
    by_cases e : a = b
    · subst e
      rw [if_pos rfl]
      simp
    · rw [if_neg e]
      have e2 : (a == b) = false := by simpa using e
      rw [e2, Bool.false_and, Bool.or_false]
      rfl
theorem less_end (a b : List (List UInt8)) (k : Nat) (h : b.length ≤ k) : lessL (a.drop k) (b.drop k) = false := by
  rw [List.drop_eq_nil_of_le h]
  cases a.drop k <;> rfl
theorem less_short (a b : List (List UInt8)) (k : Nat) (h : k < b.length) (ha : a.length ≤ k) : lessL (a.drop k) (b.drop k) = true := by
  rw [List.drop_eq_nil_of_le ha, List.drop_eq_getElem_cons h]
  rfl
theorem less_at (a b : List (List UInt8)) (k : Nat) (h : k < b.length) (ha : k < a.length) : lessL (a.drop k) (b.drop k) = if a[k] = b[k] then lessL (a.drop (k + 1)) (b.drop (k + 1)) else ltB a[k] b[k] := by
  rw [List.drop_eq_getElem_cons h, List.drop_eq_getElem_cons ha]
  rfl
end Go.Proofs.Ytgnccmmbpgnamaa
