/-
  THE WALK of UtfBack.
-/
import Derived.Test.YtikhggdigndhoaauL4
import Derived.Test.YtikhggdigndhoaauW3
import Derived.OpenShut
namespace Go.Proofs.Ytikhggdigndhoaau
open Go.RowKit

theorem ofList (l : List UInt8) : (⟨l.toArray⟩ : ByteArray).data.toList = l := by simp
theorem ofBytes (s : ByteArray) : (⟨s.data.toList.toArray⟩ : ByteArray) = s := by cases s; simp

/-- the value's own shape, for the walk -/
theorem slice_of {w : World} {v : Value} {zs : List Int} (h : IntsAt w v zs) : ∃ a cap, v = .slice a zs.length cap := by
  rcases h with ⟨rfl, ao, cap, rfl⟩ | ⟨hp, b, off, cap, rfl, hc⟩
  · exact ⟨_, _, rfl⟩
  · exact ⟨_, _, rfl⟩

/-- what the frame tells of a slice that came in -/
theorem ints_of_row {w : World} {a : Option Addr} {len cap : Nat} {zs : List Int}
    (h : (a = none ∧ len = 0 ∧ cap = 0 ∧ zs = []) ∨ ∃ x, a = some x ∧ len ≤ cap ∧ cap ≤ maxLen ∧ zs.length = cap ∧ (∀ i, i < zs.length → w.cell? (x.add i) = some (.int .i64 (zs.getD i 0))) ∧ ∀ n ∈ zs, (Lit.int .i64 n).wf = true) :
    IntsAt w (.slice a len cap) (zs.take len) ∧ (zs.take len).length ≤ maxLen := by
  rcases h with ⟨rfl, rfl, rfl, rfl⟩ | ⟨x, rfl, hl, hm, hz, hc, _⟩
  · exact ⟨.inl ⟨rfl, _, _, rfl⟩, by simp [maxLen]⟩
  · have hlen : (zs.take len).length = len := by rw [List.length_take]; omega
    refine ⟨?_, by rw [hlen]; omega⟩
    by_cases hp : 0 < len
    · obtain ⟨b, off, rfl, hcc⟩ := ints_at hc (by omega)
      refine .inr ⟨by rw [hlen]; exact hp, b, off, cap, by rw [hlen], fun k hk => ?_⟩
      rw [hlen] at hk
      rw [hcc k (by omega)]
      congr 2
      rw [List.getD_eq_getElem?_getD, List.getD_eq_getElem?_getD, List.getElem?_take_of_lt hk]
    · have : len = 0 := by omega
      subst this
      exact .inl ⟨rfl, _, _, rfl⟩
end Go.Proofs.Ytikhggdigndhoaau
