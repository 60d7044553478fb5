/-
  WALKS: the reference's May2, May, begins, Bad, End (layer 5).
-/
import Derived.Test.YtgnccmmbpgnamaaW1
namespace Go.Proofs.Ytgnccmmbpgnamaa
open Go.RowKit

theorem may2_word (s : ByteArray) (b : Bool) (h : 0 < s.size) (hw : wordN s[0].toNat = true) : mayS b s.data.toList = mayS true (s.extract 1 s.size).data.toList := by
  rw [cut_list]
  have e := mayS_word b (a := s[0]) hw (s.data.toList.drop 1)
  rw [← list_one s h] at e
  exact e
theorem may2_trip (s : ByteArray) (b : Bool) (h : tripB s.data.toList = true) : 3 ≤ s.size ∧ mayS b s.data.toList = mayS true (s.extract 3 s.size).data.toList := by
  have h3 : 3 ≤ s.size := Classical.byContradiction fun h' => by rw [trip_short s h'] at h; cases h
  refine ⟨h3, ?_⟩
  obtain ⟨x, y, r, hl, hx, hy⟩ := trip_is h
  rw [cut_list, hl, mayS_trip b hx hy]
  rfl
theorem may2_point (s : ByteArray) (h : 0 < s.size) (hp : s[0] = 46) : mayS true s.data.toList = mayS false (s.extract 1 s.size).data.toList ∧ mayS false s.data.toList = false := by
  rw [cut_list]
  have e := mayS_point (s.data.toList.drop 1)
  have l := list_one s h
  rw [hp] at l
  rw [← l] at e
  exact e
theorem may2_else (s : ByteArray) (b : Bool) (h : 0 < s.size) (hw : wordN s[0].toNat = false) (ht : tripB s.data.toList = false) (hp : s[0] ≠ 46) : mayS b s.data.toList = false := by
  have l := list_one s h
  rw [l] at ht ⊢
  exact mayS_else b hw ht hp

/-- a begin of a name -/
def beginB (l : List UInt8) : Bool := decide (runN 0 l ≠ 4)
end Go.Proofs.Ytgnccmmbpgnamaa
