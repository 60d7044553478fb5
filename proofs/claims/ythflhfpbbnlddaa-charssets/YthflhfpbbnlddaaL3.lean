/-
  THE WALK of CharsSets.
-/
import Derived.Test.YthflhfpbbnlddaaH
namespace Go.Proofs.Ythflhfpbbnlddaa
open Go.RowKit

set_option maxHeartbeats 4000000 in
theorem sets_walk (q r : Q) (c : Int) (w : World) (hq : q.ok) (hr : r.ok) (h0 : 0 ≤ c) (h1 : c ≤ 255) :
    Calls Try.prog 5 #[qv q, qv r, .int .u8 c] w fun e w' => e = .returned (.bool true) ∧ Below w.heap.size w w' := by
  have hgd := guard25
  have hbd := build25
  have hz : ∀ W, (Op.equalIn 10000 25 (.agg #[.int .u64 zeroQ.a, .int .u64 zeroQ.b, .int .u64 zeroQ.c, .int .u64 zeroQ.d]) (.agg #[.int .u64 0, .int .u64 0, .int .u64 0, .int .u64 0])).run Try.prog W = .ok true W := fun W => by rw [eqz, eqQ_self]
  have K : Hid True := trivial
  unfold qv
  cases hA : q.has c.toNat <;> cases hB : r.has c.toNat
  all_goals
    have HA := hide hA
    have HB := hide hB
    clear hA hB
    go_enter Try.func5, Try.ntmps5
    go_wp2_with (first | (go_at_call 9; refine (awake_any _).mono ?_; rintro e w1 ⟨rfl, bb⟩; obtain ⟨A, R, B⟩ := hold_args w w1 q r bb; clear bb; obtain ⟨a0, a1, a2, a3⟩ := A.cells; obtain ⟨r0, r1, r2, r3⟩ := (R.alloc (.cells #[.int .u64 q.a, .int .u64 q.b, .int .u64 q.c, .int .u64 q.d] 25)).cells; replace A := (A.alloc (.cells #[.int .u64 q.a, .int .u64 q.b, .int .u64 q.c, .int .u64 q.d] 25)).alloc (.cells #[.int .u64 r.a, .int .u64 r.b, .int .u64 r.c, .int .u64 r.d] 25); replace R := (R.alloc (.cells #[.int .u64 q.a, .int .u64 q.b, .int .u64 q.c, .int .u64 q.d] 25)).alloc (.cells #[.int .u64 r.a, .int .u64 r.b, .int .u64 r.c, .int .u64 r.d] 25); obtain ⟨s0, s1, s2, s3⟩ := A.cells; obtain ⟨X, Y⟩ := hold_sets w1 q r; replace B := (B.alloc B.size (.cells #[.int .u64 q.a, .int .u64 q.b, .int .u64 q.c, .int .u64 q.d] 25)).alloc (Nat.le_trans B.size (by simp)) (.cells #[.int .u64 r.a, .int .u64 r.b, .int .u64 r.c, .int .u64 r.d] 25); have T : Pair _ _ _ _ _ _ := ⟨B, X, Y⟩; clear B X Y) | (go_at_call 12; have z := A; refine (rhas_is q _ _ _ hq h0 h1 HA.out).mono ?_; rintro e w2 ⟨rfl, bb⟩; replace R := R.next bb; obtain ⟨r0, r1, r2, r3⟩ := R.cells; replace T := T.next bb; clear bb A z) | (go_at_call 12; refine (rhas_is r _ _ _ hr h0 h1 HB.out).mono ?_; rintro e w2 ⟨rfl, bb⟩; replace T := T.next bb; clear bb; obtain ⟨x0, x1, x2, x3⟩ := T.first.cells; obtain ⟨y0, y1, y2, y3⟩ := T.second.cells) | (go_at_call_of 18 (Value.slice none 0 0); refine (union0 _).mono ?_; rintro e w2 ⟨rfl, bb⟩; replace T := T.next bb; clear bb; obtain ⟨x0, x1, x2, x3⟩ := T.first.cells; obtain ⟨y0, y1, y2, y3⟩ := T.second.cells; simp only [qv]) | (go_at_call 18; refine (union2 q r _ hq hr).mono ?_; rintro e w2 ⟨rfl, bb⟩; replace T := T.next bb; clear bb; obtain ⟨x0, x1, x2, x3⟩ := T.first.cells; obtain ⟨y0, y1, y2, y3⟩ := T.second.cells; replace K : Hid ((orQ q r).ok ∧ (orQ q r).has c.toNat = _) := ⟨or_ok hq hr, (has_or q r c.toNat).trans (by rw [HA.out, HB.out])⟩; simp only [qv]) | (go_at_call 19; refine (minus_any q r _ hq hr).mono ?_; rintro e w2 ⟨rfl, bb⟩; replace T := T.next bb; clear bb; obtain ⟨x0, x1, x2, x3⟩ := T.first.cells; obtain ⟨y0, y1, y2, y3⟩ := T.second.cells; replace K : Hid ((minusQ q r).ok ∧ (minusQ q r).has c.toNat = _) := ⟨minus_ok hq, (has_minus q r hr c.toNat).trans (by rw [HA.out, HB.out])⟩; simp only [qv]) | (go_at_call 20; refine (not_any q _ hq).mono ?_; rintro e w2 ⟨rfl, bb⟩; replace T := T.next bb; clear bb; obtain ⟨x0, x1, x2, x3⟩ := T.first.cells; obtain ⟨y0, y1, y2, y3⟩ := T.second.cells; replace K : Hid ((notQ q).ok ∧ (notQ q).has c.toNat = _) := ⟨not_ok, (has_not q hq c.toNat).trans (by rw [HA.out])⟩; simp only [qv]) | (go_at_call 11; refine (has_is _ _ _ _ K.out.1 h0 h1 K.out.2).mono ?_; rintro e w2 ⟨rfl, bb⟩; replace T := T.next bb; clear bb; obtain ⟨x0, x1, x2, x3⟩ := T.first.cells; obtain ⟨y0, y1, y2, y3⟩ := T.second.cells))
    go_ret
    exact ⟨rfl, T.below⟩
end Go.Proofs.Ythflhfpbbnlddaa
