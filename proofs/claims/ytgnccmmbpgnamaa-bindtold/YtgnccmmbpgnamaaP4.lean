/-
  WALKS: the program's Valid (layer 8).
-/
import Derived.Test.YtgnccmmbpgnamaaP3
namespace Go.Proofs.Ytgnccmmbpgnamaa
open Go.RowKit Go.Shelf
attribute [local go_sem] Oper.semAt_some

/-- a result's box, beside a value's box -/
structure Vx (w W : World) (B Bn : Nat) (cs : Array Value) (t : TypeId) (r : Value) : Prop where
  bel : Below w.heap.size w W
  hB : w.heap.size ≤ B
  box : Boxed W B t r
  val : Bx W Bn cs 28
section
variable {w W W' : World} {B Bn : Nat} {cs : Array Value} {t : TypeId} {r : Value}
theorem Vx.next (h : Vx w W B Bn cs t r) (bb : Below W.heap.size W W') : Vx w W' B Bn cs t r := ⟨h.bel.trans (bb.mono h.bel.size), h.hB, boxed_next h.box bb, h.val.next bb⟩
theorem Vx.set (h : Vx w W B Bn cs t r) (hne : Bn ≠ B) (u : Value) : Vx w (W.setCell ⟨B, 0, none⟩ u) B Bn cs t u := ⟨h.bel.setCell (p := ⟨B, 0, none⟩) h.hB u, h.hB, h.box.set u, h.val.other hne 0 u⟩
theorem not_row {X : World} {row : Option Nat} (hr : ∀ r, row = some r → ∃ o : Obj, X.heap[r]? = some o ∧ o.isCells = false) {b : Nat} {c : Array Value} {t : TypeId} {f : Nat × Nat} (hb : X.heap[b]? = some (.cells c t f)) : some b ≠ row := fun e => by
  obtain ⟨o, ho, hc⟩ := hr b e.symm
  rw [hb] at ho; cases ho; cases hc
theorem vx_own {β : Type} {n : Nat} (hn : w.heap.size ≤ n) (p : β → Prop) : OwnFrom n (fun (s : β) W => p s ∧ Vx w W B Bn cs t r) := by
  rintro s X Y row ⟨hp, h⟩ hg hrow
  have hr2 : ∀ r, row = some r → ∃ o : Obj, X.heap[r]? = some o ∧ o.isCells = false := fun r e => (hrow r e).2
  exact ⟨hp, h.bel.grown hg h.bel.size (fun k e => Nat.le_trans hn (hrow k e).1), h.hB, h.box.kept hg (not_row hr2 h.box), (hg.block Bn h.val.lt (not_row hr2 h.val)).trans h.val⟩
theorem kp_val {n : Nat} {cs : Array Value} {t : TypeId} (bel : Below n W W') (h : Bx W Bn cs t) (h' : Bx W' Bn cs t) : Kp n Bn W W' := ⟨bel, fun o ho => by rw [show W.heap[Bn]? = _ from h] at ho; rw [← ho]; exact h'⟩
end
end Go.Proofs.Ytgnccmmbpgnamaa
