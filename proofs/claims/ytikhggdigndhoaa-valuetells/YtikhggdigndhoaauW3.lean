/-
  WALKS: utf.Text; the reference's tail, One, Text, Same.
-/
import Derived.Test.YtikhggdigndhoaauW2
namespace Go.Proofs.Ytikhggdigndhoaau
open Go.RowKit

theorem rmay_is (c : Int) (w : World) (b : Bool) (h : mayB c = b) : Calls Try.prog 52 #[.int .i64 c] w fun e w' => e = .returned (.bool b) ∧ w' = w := by
  subst h; exact rmay_any c w

theorem take_snoc (zs : List Int) (k : Nat) (h : k < zs.length) : zs.take (k + 1) = zs.take k ++ [zs.getD k 0] := by
  rw [List.take_succ_eq_append_getElem h, List.getD_eq_getElem?_getD, List.getElem?_eq_getElem h]; rfl
theorem lt_of_cell {w : World} {b o : Nat} {v : Value} (h : w.cell? ⟨b, o, none⟩ = some v) : b < w.heap.size := by
  apply Classical.byContradiction
  intro hn
  have : w.heap[b]? = none := by simp; omega
  simp [World.cell?, this] at h

/-- what Text answers -/
def textR (zs : List Int) : Value := if allMay zs = true then .tuple #[.string ⟨(textL zs).toArray⟩, .bool true] else .tuple #[.string ⟨#[]⟩, .bool false]

theorem allMay_cut {zs : List Int} {k : Nat} (h : k < zs.length) (hb : mayB (zs.getD k 0) = false) : allMay zs = false := by
  cases ha : allMay zs with
  | false => rfl
  | true =>
    unfold allMay at ha
    rw [List.all_eq_true] at ha
    have := ha (zs.getD k 0) (by rw [List.getD_eq_getElem?_getD, List.getElem?_eq_getElem h]; simp)
    rw [this] at hb
    cases hb

/-- a slice value whose elements are these numbers -/
def IntsAt (w : World) (v : Value) (zs : List Int) : Prop :=
  (zs = [] ∧ ∃ ao cap, v = .slice ao 0 cap) ∨ (0 < zs.length ∧ ∃ b off cap, v = .slice (some ⟨b, off, none⟩) zs.length cap ∧ ∀ k, k < zs.length → w.cell? ⟨b, off + k, none⟩ = some (.int .i64 (zs.getD k 0)))

theorem IntsAt.later {w w' : World} {v : Value} {zs : List Int} (h : IntsAt w v zs) (hb : Below w.heap.size w w') : IntsAt w' v zs := by
  rcases h with h | ⟨hp, b, off, cap, rfl, hc⟩
  · exact .inl h
  · exact .inr ⟨hp, b, off, cap, rfl, fun k hk => (hb.cell (p := ⟨b, off + k, none⟩) (lt_of_cell (hc 0 hp))).trans (hc k hk)⟩

theorem IntsAt.of_owns {w : World} {base : Nat} {v : Value} {zs : List Int} (h : w.ownsRow base 3 1 v zs.length (zs.map (Value.int .i64))) : IntsAt w v zs := by
  rcases h.2 with ⟨rfl, h0⟩ | ⟨g, cap, cur, rfl, _, hg, hn, hm, hs, ht⟩
  · exact .inl ⟨List.eq_nil_of_length_eq_zero h0, _, _, rfl⟩
  · by_cases hp : 0 < zs.length
    · refine .inr ⟨hp, g, 0, cap, rfl, fun k hk => ?_⟩
      rw [Nat.zero_add, World.ownsRow.cellAt h k (by omega)]
      simp [hk]
    · have : zs = [] := List.eq_nil_of_length_eq_zero (by omega)
      subst this
      exact .inl ⟨rfl, _, _, rfl⟩

end Go.Proofs.Ytikhggdigndhoaau
