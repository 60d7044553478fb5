/-
  The reference's Of and Texts, as Canon calls them (layer 8).
-/
import Derived.Test.YtgnccmmbpgnamaaV6
namespace Go.Proofs.Ytgnccmmbpgnamaa
open Go.RowKit

/-- a value told -/
def VlPost (w : World) (c : Vl) (e : Ending) (w' : World) : Prop := ∃ la lc pa pc, e = .returned (.agg #[.int .i64 c.kind, .string ⟨c.s.toArray⟩, .slice la c.l.length lc, .slice pa c.p.length pc]) ∧ StrsAt w' (.slice la c.l.length lc) c.l ∧ PairsAt w' (.slice pa c.p.length pc) c.p ∧ Below w.heap.size w w' ∧ Newly w.heap.size (.slice la c.l.length lc) ∧ Newly w.heap.size (.slice pa c.p.length pc)
theorem rof_canon (v : Vl) (k : Int) (hk : v.kind = k) (u : Value) (l : List (List UInt8)) (w : World) (H : StrsAt w u l) (hl : l.length ≤ 2000) (e : textsV v = l) : Calls Try.prog 35 #[.int .i64 k, u] w fun e w' => ∃ la lc pa pc b, e = .returned (.tuple #[.agg #[.int .i64 (canonV v).kind, .string ⟨(canonV v).s.toArray⟩, .slice la (canonV v).l.length lc, .slice pa (canonV v).p.length pc], .bool b]) ∧ StrsAt w' (.slice la (canonV v).l.length lc) (canonV v).l ∧ PairsAt w' (.slice pa (canonV v).p.length pc) (canonV v).p ∧ Newly w.heap.size (.slice la (canonV v).l.length lc) ∧ Newly w.heap.size (.slice pa (canonV v).p.length pc) ∧ Below w.heap.size w w' := by
  subst e hk
  refine (rof_any v.kind u (textsV v) w H hl).mono ?_
  rintro e w' ⟨hB, he⟩
  unfold canonV
  cases ho : ofV v.kind (textsV v) with
  | none =>
    rw [ho] at he
    subst he
    exact ⟨none, 0, none, 0, false, rfl, .inl ⟨rfl, _, _, rfl⟩, .inl ⟨rfl, _, _, rfl⟩, Newly.none _ _ _, Newly.none _ _ _, hB⟩
  | some c =>
    rw [ho] at he
    obtain ⟨x, rfl, ⟨sl, sp, rfl, h1, h2⟩, _, _, _, _, e, n1, n2⟩ := he
    cases e
    obtain ⟨la, lc, rfl⟩ := h1.form
    obtain ⟨pa, pc, rfl⟩ := h2.form
    exact ⟨la, lc, pa, pc, true, rfl, h1, h2, n1, n2, hB⟩
theorem rtexts_is (x : Value) (v : Vl) (ts : List (List UInt8)) (w : World) (H : VlAt w x v) (hl : v.l.length ≤ 1000) (hp : v.p.length ≤ 1000) (h : textsV v = ts) : Calls Try.prog 36 #[x] w fun e w' => ∃ a c, e = .returned (.slice a ts.length c) ∧ StrsAt w' (.slice a ts.length c) ts ∧ Below w.heap.size w w' := by
  subst h; exact rtexts_any x v w H hl hp
theorem texts_len (v : Vl) (hl : v.l.length ≤ 1000) (hp : v.p.length ≤ 1000) : (textsV v).length ≤ 2000 := by
  unfold textsV
  split
  · simp
  · split
    · omega
    · split
      · rw [flat_len]; omega
      · simp
end Go.Proofs.Ytgnccmmbpgnamaa
