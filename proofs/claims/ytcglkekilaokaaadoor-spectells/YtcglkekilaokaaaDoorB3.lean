/-
  THREE BLOCKS OF THREE CELLS EACH, held through calls; no program in it.
-/
import Derived.Test.YtcglkekilaokaaaDoorB
namespace Go.Proofs.YtcglkekilaokaaaDoor
open Go.RowKit
/-- three blocks of three cells each, held through calls -/
structure Tri (w W : World) (b1 b2 b3 : Nat) (x1 x2 x3 y1 y2 y3 z1 z2 z3 : Value) (t : TypeId) : Prop where
  below : Below w.heap.size w W
  x : Bx W b1 #[x1, x2, x3] t
  y : Bx W b2 #[y1, y2, y3] t
  z : Bx W b3 #[z1, z2, z3] t
section
variable {w W W' : World} {b1 b2 b3 : Nat} {x1 x2 x3 y1 y2 y3 z1 z2 z3 : Value} {t : TypeId}
theorem Tri.next (h : Tri w W b1 b2 b3 x1 x2 x3 y1 y2 y3 z1 z2 z3 t) (bb : Below W.heap.size W W') : Tri w W' b1 b2 b3 x1 x2 x3 y1 y2 y3 z1 z2 z3 t :=
  ⟨h.below.trans (bb.mono h.below.size), h.x.next bb, h.y.next bb, h.z.next bb⟩
theorem Tri.drew (h : Tri w W b1 b2 b3 x1 x2 x3 y1 y2 y3 z1 z2 z3 t) : Tri w W.drew b1 b2 b3 x1 x2 x3 y1 y2 y3 z1 z2 z3 t := ⟨h.below.drew, h.x.drew, h.y.drew, h.z.drew⟩
theorem Tri.alloc (h : Tri w W b1 b2 b3 x1 x2 x3 y1 y2 y3 z1 z2 z3 t) (o : Obj) : Tri w (W.alloc o) b1 b2 b3 x1 x2 x3 y1 y2 y3 z1 z2 z3 t := ⟨h.below.alloc h.below.size _, h.x.later _, h.y.later _, h.z.later _⟩
theorem Tri.cells (h : Tri w W b1 b2 b3 x1 x2 x3 y1 y2 y3 z1 z2 z3 t) : W.cell? ⟨b1, 0, none⟩ = some x1 ∧ W.cell? ⟨b1, 1, none⟩ = some x2 ∧ W.cell? ⟨b1, 2, none⟩ = some x3 ∧ W.cell? ⟨b2, 0, none⟩ = some y1 ∧ W.cell? ⟨b2, 1, none⟩ = some y2 ∧ W.cell? ⟨b2, 2, none⟩ = some y3 ∧ W.cell? ⟨b3, 0, none⟩ = some z1 ∧ W.cell? ⟨b3, 1, none⟩ = some z2 ∧ W.cell? ⟨b3, 2, none⟩ = some z3 :=
  ⟨h.x.cell 0 _ rfl, h.x.cell 1 _ rfl, h.x.cell 2 _ rfl, h.y.cell 0 _ rfl, h.y.cell 1 _ rfl, h.y.cell 2 _ rfl, h.z.cell 0 _ rfl, h.z.cell 1 _ rfl, h.z.cell 2 _ rfl⟩
end
end Go.Proofs.YtcglkekilaokaaaDoor
