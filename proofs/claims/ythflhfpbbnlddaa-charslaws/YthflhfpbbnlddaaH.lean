/-
  WHAT CharsSets, CharsLaws and CharsApart share: a set held in memory.
-/
import Derived.Test.YthflhfpbbnlddaaW9
namespace Go.Proofs.Ythflhfpbbnlddaa
open Go.RowKit

/-- a set in memory -/
structure Hold (W : World) (b : Nat) (q : Q) : Prop where
  cells : Cells4 W b q
  lt : b < W.heap.size
theorem Hold.next {W W' : World} {b : Nat} {q : Q} (h : Hold W b q) (bb : Below W.heap.size W W') : Hold W' b q := ⟨h.cells.below bb h.lt, Nat.lt_of_lt_of_le h.lt bb.size⟩
theorem Hold.alloc {W : World} {b : Nat} {q : Q} (h : Hold W b q) (o : Obj) : Hold (W.alloc o) b q := h.next (below_new W o)
theorem Hold.made (W : World) (q : Q) (t : TypeId) : Hold (W.alloc (.cells #[.int .u64 q.a, .int .u64 q.b, .int .u64 q.c, .int .u64 q.d] t)) W.heap.size q := ⟨Cells4.made W q t, by simp⟩

/-- the two arguments behind awake -/
theorem hold_args (w w1 : World) (q r : Q) (bb : Below ((w.alloc (.cells #[.int .u64 q.a, .int .u64 q.b, .int .u64 q.c, .int .u64 q.d] 23)).alloc (.cells #[.int .u64 r.a, .int .u64 r.b, .int .u64 r.c, .int .u64 r.d] 23)).heap.size ((w.alloc (.cells #[.int .u64 q.a, .int .u64 q.b, .int .u64 q.c, .int .u64 q.d] 23)).alloc (.cells #[.int .u64 r.a, .int .u64 r.b, .int .u64 r.c, .int .u64 r.d] 23)) w1) :
    Hold w1 w.heap.size q ∧ Hold w1 (w.heap.size + 1) r ∧ Below w.heap.size w w1 := by
  refine ⟨((Hold.made w q 23).alloc _).next bb, ?_, ?_⟩
  · have := (Hold.made (w.alloc (.cells #[.int .u64 q.a, .int .u64 q.b, .int .u64 q.c, .int .u64 q.d] 23)) r 23).next bb
    simpa using this
  · exact (((below_new w _).alloc (by simp) _)).trans (bb.mono (by simp; omega))
/-- the two sets that are made of them -/
theorem hold_sets (w1 : World) (q r : Q) : Hold ((w1.alloc (.cells #[.int .u64 q.a, .int .u64 q.b, .int .u64 q.c, .int .u64 q.d] 25)).alloc (.cells #[.int .u64 r.a, .int .u64 r.b, .int .u64 r.c, .int .u64 r.d] 25)) w1.heap.size q ∧ Hold ((w1.alloc (.cells #[.int .u64 q.a, .int .u64 q.b, .int .u64 q.c, .int .u64 q.d] 25)).alloc (.cells #[.int .u64 r.a, .int .u64 r.b, .int .u64 r.c, .int .u64 r.d] 25)) (w1.heap.size + 1) r := by
  refine ⟨(Hold.made w1 q 25).alloc _, ?_⟩
  have := Hold.made (w1.alloc (.cells #[.int .u64 q.a, .int .u64 q.b, .int .u64 q.c, .int .u64 q.d] 25)) r 25
  simpa using this
/-- a law's two sets, and how the world stands to the first one -/
structure Pair (w W : World) (b1 b2 : Nat) (q r : Q) : Prop where
  below : Below w.heap.size w W
  first : Hold W b1 q
  second : Hold W b2 r
theorem Pair.next {w W W' : World} {b1 b2 : Nat} {q r : Q} (h : Pair w W b1 b2 q r) (bb : Below W.heap.size W W') : Pair w W' b1 b2 q r := ⟨h.below.trans (bb.mono h.below.size), h.first.next bb, h.second.next bb⟩
end Go.Proofs.Ythflhfpbbnlddaa
