/-
  TEXTS JOINED: V2, V3.
-/
import Derived.Test.YtpfcfadbilaleaaQ05
import Derived.Test.YtpfcfadbilaleaaQ06
import Derived.Test.YtpfcfadbilaleaaQ10
/-
  Values in memory; WALKS: the reference's Few (layer 8).
-/
namespace Go.Proofs.Ytpfcfadbilaleaa
open Go.RowKit

/-- pairs, one behind the other, in cells -/
def PairsAt (w : World) (v : Value) (ps : List (List UInt8 × List UInt8)) : Prop :=
  (ps = [] ∧ ∃ ao cap, v = .slice ao 0 cap) ∨ (0 < ps.length ∧ ∃ b off cap, v = .slice (some ⟨b, off, none⟩) ps.length cap ∧ ∀ k (h : k < ps.length), w.cell? ⟨b, off + k * 2, none⟩ = some (.string ⟨ps[k].1.toArray⟩) ∧ w.cell? ⟨b, off + k * 2 + 1, none⟩ = some (.string ⟨ps[k].2.toArray⟩))
theorem PairsAt.form {w : World} {v : Value} {ps : List (List UInt8 × List UInt8)} (h : PairsAt w v ps) : ∃ a cap, v = .slice a ps.length cap := by
  rcases h with ⟨rfl, ao, cap, rfl⟩ | ⟨hp, b, off, cap, rfl, hc⟩
  · exact ⟨_, _, rfl⟩
  · exact ⟨_, _, rfl⟩
theorem PairsAt.later {w w' : World} {v : Value} {ps : List (List UInt8 × List UInt8)} (h : PairsAt w v ps) (hb : Below w.heap.size w w') : PairsAt w' v ps := by
  rcases h with h | ⟨hp, b, off, cap, rfl, hc⟩
  · exact .inl h
  · have hl : b < w.heap.size := lt_of_cell (hc 0 hp).1
    exact .inr ⟨hp, b, off, cap, rfl, fun k hk => ⟨(hb.cell (p := ⟨b, _, none⟩) hl).trans (hc k hk).1, (hb.cell (p := ⟨b, _, none⟩) hl).trans (hc k hk).2⟩⟩
theorem StrsAt.form {w : World} {v : Value} {ps : List (List UInt8)} (h : StrsAt w v ps) : ∃ a cap, v = .slice a ps.length cap := by
  rcases h with ⟨rfl, ao, cap, rfl⟩ | ⟨hp, b, off, cap, rfl, hc⟩
  · exact ⟨_, _, rfl⟩
  · exact ⟨_, _, rfl⟩
/-- a value as an argument, or a result -/
def VlAt (w : World) (x : Value) (v : Vl) : Prop := ∃ sl sp, x = .agg #[.int .i64 v.kind, .string ⟨v.s.toArray⟩, sl, sp] ∧ StrsAt w sl v.l ∧ PairsAt w sp v.p
theorem VlAt.later {w w' : World} {x : Value} {v : Vl} (h : VlAt w x v) (hb : Below w.heap.size w w') : VlAt w' x v := by
  obtain ⟨sl, sp, rfl, h1, h2⟩ := h
  exact ⟨sl, sp, rfl, h1.later hb, h2.later hb⟩
theorem StrsAt.at {w : World} {v : Value} {ps : List (List UInt8)} (h : StrsAt w v ps) (k : Nat) (hk : k < ps.length) : ∃ b off cap, v = .slice (some ⟨b, off, none⟩) ps.length cap ∧ b < w.heap.size ∧ w.cell? ⟨b, off + k, none⟩ = some (.string ⟨ps[k].toArray⟩) := by
  rcases h with ⟨rfl, _⟩ | ⟨hp, b, off, cap, rfl, hc⟩
  · simp at hk
  · have := hc k hk
    have e : ps.getD k [] = ps[k] := by simp [hk]
    rw [e] at this
    exact ⟨b, off, cap, rfl, lt_of_cell this, this⟩
theorem PairsAt.at {w : World} {v : Value} {ps : List (List UInt8 × List UInt8)} (h : PairsAt w v ps) (k : Nat) (hk : k < ps.length) : ∃ b off cap, v = .slice (some ⟨b, off, none⟩) ps.length cap ∧ b < w.heap.size ∧ w.cell? ⟨b, off + k * 2, none⟩ = some (.string ⟨ps[k].1.toArray⟩) ∧ w.cell? ⟨b, off + k * 2 + 1, none⟩ = some (.string ⟨ps[k].2.toArray⟩) := by
  rcases h with ⟨rfl, _⟩ | ⟨hp, b, off, cap, rfl, hc⟩
  · simp at hk
  · obtain ⟨h1, h2⟩ := hc k hk
    exact ⟨b, off, cap, rfl, lt_of_cell h1, h1, h2⟩
end Go.Proofs.Ytpfcfadbilaleaa
/-
  WALKS: the reference's Few (layer 8).
-/
namespace Go.Proofs.Ytpfcfadbilaleaa
open Go.RowKit

theorem all_snoc {α : Type} (f : α → Bool) (l : List α) (k : Nat) (h : k < l.length) : (l.take (k + 1)).all f = ((l.take k).all f && f l[k]) := by
  rw [List.take_succ_eq_append_getElem h, List.all_append]
  simp only [List.all_cons, List.all_nil, Bool.and_true]
theorem all_not {α : Type} (f : α → Bool) (l : List α) (k m : Nat) (h : k < l.length) (hm : k < m) (hf : f l[k] = false) : (l.take m).all f = false := by
  cases hl : (l.take m).all f with
  | false => rfl
  | true =>
    have hk : k < (l.take m).length := by simp; omega
    have := List.all_eq_true.1 hl _ (List.getElem_mem hk)
    rw [List.getElem_take, hf] at this; cases this
end Go.Proofs.Ytpfcfadbilaleaa
