/-
  WALKS: the reference's Begins, Take (layer 6).
-/
import Derived.Test.YtjbnofljoijnmaaGreatDoorW4
namespace Go.Proofs.YtjbnofljoijnmaaGreatDoor
open Go.RowKit Go.Lib

theorem ris_b (s : ByteArray) (b : Bool) (w : World) (hs : s.size ≤ 100000) (h : isX s.data.toList = b) :
    Calls Tryz.prog 63 #[.string s] w fun e w' => ∃ nm mx st, e = .returned (.tuple #[.agg #[.string nm, .int .i64 mx, .bool st], .bool b]) ∧ Below w.heap.size w w' := by
  subst h
  refine (ris_any s w hs).mono ?_
  rintro e w' ⟨rfl, bb⟩
  exact ⟨_, _, _, rfl, bb⟩
theorem ris_is (s nm : ByteArray) (mx : Int) (st b : Bool) (w : World) (hs : s.size ≤ 100000) (h1 : nmX s = nm) (h2 : (specX s.data.toList).max = mx) (h3 : (specX s.data.toList).star = st) (h : isX s.data.toList = b) :
    Calls Tryz.prog 63 #[.string s] w fun e w' => e = .returned (.tuple #[.agg #[.string nm, .int .i64 mx, .bool st], .bool b]) ∧ Below w.heap.size w w' := by
  subst h h1 h2 h3; exact ris_any s w hs

theorem bel_alloc {w W W' : World} {o : Obj} (B : Below w.heap.size w W) (bb : Below (W.alloc o).heap.size (W.alloc o) W') : Below w.heap.size w W' :=
  (B.alloc B.size o).trans (bb.mono (B.alloc B.size o).size)
end Go.Proofs.YtjbnofljoijnmaaGreatDoor
