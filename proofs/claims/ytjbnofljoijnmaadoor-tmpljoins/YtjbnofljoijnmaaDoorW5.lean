/-
  WALKS: the reference's Begins, Take (layer 6).
-/
import Derived.Test.YtjbnofljoijnmaaDoorW4
namespace Go.Proofs.YtjbnofljoijnmaaDoor
open Go.RowKit Go.Lib

theorem bel_alloc {w W W' : World} {o : Obj} (B : Below w.heap.size w W) (bb : Below (W.alloc o).heap.size (W.alloc o) W') : Below w.heap.size w W' :=
  (B.alloc B.size o).trans (bb.mono (B.alloc B.size o).size)
end Go.Proofs.YtjbnofljoijnmaaDoor
