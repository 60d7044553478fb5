/-
  THE WALK of CharsHas.
-/
import Derived.Test.YthflhfpbbnlddaaW9
namespace Go.Proofs.Ythflhfpbbnlddaa
open Go.RowKit

/-- what the law's two boxes are, and how the world stands to the first one -/
structure Two (w W : World) (b1 b2 : Nat) (q : Q) : Prop where
  below : Below w.heap.size w W
  first : Cells4 W b1 q
  second : Cells4 W b2 q
  lt1 : b1 < W.heap.size
  lt2 : b2 < W.heap.size
theorem Two.next {w W W' : World} {b1 b2 : Nat} {q : Q} (h : Two w W b1 b2 q) (bb : Below W.heap.size W W') : Two w W' b1 b2 q :=
  ⟨h.below.trans (bb.mono h.below.size), h.first.below bb h.lt1, h.second.below bb h.lt2, Nat.lt_of_lt_of_le h.lt1 bb.size, Nat.lt_of_lt_of_le h.lt2 bb.size⟩
theorem Two.drew {w W : World} {b1 b2 : Nat} {q : Q} (h : Two w W b1 b2 q) : Two w W.drew b1 b2 q := ⟨h.below.drew, h.first, h.second, h.lt1, h.lt2⟩
theorem two_start (w w1 : World) (q : Q) (bb : Below (w.alloc (.cells #[.int .u64 q.a, .int .u64 q.b, .int .u64 q.c, .int .u64 q.d] 23)).heap.size (w.alloc (.cells #[.int .u64 q.a, .int .u64 q.b, .int .u64 q.c, .int .u64 q.d] 23)) w1) : Two w (w1.alloc (.cells #[.int .u64 q.a, .int .u64 q.b, .int .u64 q.c, .int .u64 q.d] 25)) w.heap.size w1.heap.size q := by
  have hs := bb.size
  simp at hs
  refine ⟨?_, ?_, Cells4.made _ _ _, by simp; omega, by simp⟩
  · exact ((below_new w _).trans (bb.mono (by simp))).alloc (by omega) _
  · exact ((Cells4.made w q 23).below bb (by simp)).below (below_new w1 _) (by omega)

set_option maxHeartbeats 2000000 in
theorem has_walk (q : Q) (c : Int) (w : World) (hq : q.ok) (h0 : 0 ≤ c) (h1 : c ≤ 255) :
    Calls Try.prog 3 #[qv q, .int .u8 c] w fun e w' => e = .returned (.bool true) ∧ Below w.heap.size w w' := by
  have hl := list_len q
  unfold qv
  go_enter Try.func3, Try.ntmps3
  go_wp2_with (first | (go_at_call 9; refine (awake_any _).mono ?_; rintro e w1 ⟨rfl, bb⟩; have T := two_start w w1 q bb; obtain ⟨x0, x1, x2, x3⟩ := T.first; obtain ⟨v0, v1, v2, v3⟩ := (Cells4.made w q 23).below bb (by simp); clear bb) | (go_at_call 10; refine (rlist_any _ _ hq).mono ?_; rintro e w2 ⟨rfl, bb⟩; replace T := T.next bb; clear bb x0 x1 x2 x3; obtain ⟨x0, x1, x2, x3⟩ := T.first; obtain ⟨y0, y1, y2, y3⟩ := T.second))
  go_region_with (first | (go_at_call 11; refine (has_any _ _ _ hq h0 h1).mono ?_; rintro e w3 ⟨rfl, bb⟩; replace T := T.drew.next bb; clear bb; obtain ⟨x0, x1, x2, x3⟩ := T.first; obtain ⟨y0, y1, y2, y3⟩ := T.second) | (go_at_call 12; refine (rhas_any _ _ _ hq h0 h1).mono ?_; rintro e w3 ⟨rfl, bb⟩; replace T := T.next bb; clear bb; obtain ⟨x0, x1, x2, x3⟩ := T.first; obtain ⟨y0, y1, y2, y3⟩ := T.second) | (go_at_call 13; refine (list_any _ _ hq).mono ?_; rintro e w3 ⟨rfl, bb⟩; replace T := T.next bb; clear bb; obtain ⟨x0, x1, x2, x3⟩ := T.first; obtain ⟨y0, y1, y2, y3⟩ := T.second) | (go_at_call 14; refine (len_any _ _ hq).mono ?_; rintro e w3 ⟨rfl, bb⟩; replace T := T.next bb; clear bb))
  all_goals
    go_wp2
    go_ret
    exact ⟨rfl, T.below⟩
end Go.Proofs.Ythflhfpbbnlddaa
