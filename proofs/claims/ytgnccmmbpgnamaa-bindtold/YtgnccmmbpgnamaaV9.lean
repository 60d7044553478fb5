/-
  WALKS: the reference's Same (layer 8).
-/
import Derived.Test.YtgnccmmbpgnamaaV8
namespace Go.Proofs.Ytgnccmmbpgnamaa
open Go.RowKit

/-- two arguments' cells -/
structure Jx (w W : World) (x y : Array Value) : Prop where
  bel : Below w.heap.size w W
  fst : Bx W w.heap.size x 28
  snd : Bx W (w.heap.size + 1) y 28
section
variable {w W W' : World} {x y : Array Value}
theorem Jx.next (h : Jx w W x y) (bb : Below W.heap.size W W') : Jx w W' x y := ⟨h.bel.trans (bb.mono h.bel.size), h.fst.next bb, h.snd.next bb⟩
theorem Jx.drew (h : Jx w W x y) : Jx w W.drew x y := ⟨h.bel.drew, h.fst, h.snd⟩
theorem Jx.alloc (h : Jx w W x y) (o : Obj) : Jx w (W.alloc o) x y := h.next ((Below.refl _ _).alloc (Nat.le_refl _) _)
theorem Jx.made (w : World) (x y : Array Value) : Jx w ((w.alloc (.cells x 28)).alloc (.cells y 28)) x y := by
  refine ⟨((Below.refl _ _).alloc (Nat.le_refl _) _).alloc (by simp) _, (Bx.made _ _ _).later _, ?_⟩
  have := Bx.made (w.alloc (.cells x 28)) y 28
  simpa using this
theorem Jx.all {x0 x1 x2 x3 y0 y1 y2 y3 : Value} (h : Jx w W #[x0, x1, x2, x3] #[y0, y1, y2, y3]) : W.cell? ⟨w.heap.size, 0, none⟩ = some x0 ∧ W.cell? ⟨w.heap.size, 1, none⟩ = some x1 ∧ W.cell? ⟨w.heap.size, 2, none⟩ = some x2 ∧ W.cell? ⟨w.heap.size, 3, none⟩ = some x3 ∧ W.cell? ⟨w.heap.size + 1, 0, none⟩ = some y0 ∧ W.cell? ⟨w.heap.size + 1, 1, none⟩ = some y1 ∧ W.cell? ⟨w.heap.size + 1, 2, none⟩ = some y2 ∧ W.cell? ⟨w.heap.size + 1, 3, none⟩ = some y3 := by
  obtain ⟨a0, a1, a2, a3⟩ := cells4 h.fst
  obtain ⟨b0, b1, b2, b3⟩ := cells4 h.snd
  exact ⟨a0, a1, a2, a3, b0, b1, b2, b3⟩
end
theorem canon_lens (v : Vl) : (canonV v).l.length ≤ v.l.length ∧ (canonV v).p.length ≤ v.p.length ∧ (canonV v).s.length ≤ v.s.length := by
  cases h : definedV v with
  | false => rw [canon_no h]; simp [zeroV]
  | true =>
    have hc := canon_yes h
    unfold ofV textsV at hc
    by_cases h1 : v.kind = 1
    · simp only [h1, if_true, List.length_singleton, and_self, List.headD_cons, Option.some.injEq] at hc
      rw [← hc]; simp
    · by_cases h2 : v.kind = 2
      · rw [if_neg h1, if_pos h2, if_neg (by omega)] at hc
        split at hc
        · simp only [Option.some.injEq] at hc
          rw [← hc]; simp
        · split at hc
          · cases hc
          · rename_i h3; exact absurd (.inl (by omega)) h3
      · by_cases h3 : v.kind = 3
        · rw [if_neg h1, if_neg h2, if_pos h3, if_neg (by omega), if_neg (by omega)] at hc
          split at hc
          · cases hc
          · simp only [Option.some.injEq] at hc
            rw [← hc, pairs_flat]; simp
        · rw [if_neg (by omega), if_neg (by omega), if_pos (.inl h3)] at hc
          cases hc
end Go.Proofs.Ytgnccmmbpgnamaa
