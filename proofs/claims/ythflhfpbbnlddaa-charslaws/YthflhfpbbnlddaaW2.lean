/-
  WALKS: chars.Not, Minus, Len; bits.OnesCount64.
-/
import Derived.Test.YthflhfpbbnlddaaW1
import Derived.Test.YthflhfpbbnlddaaP
import Derived.LoopN
import Derived.Laws.Bits128
namespace Go.Proofs.Ythflhfpbbnlddaa
open Go.RowKit

theorem idx0 (x0 x1 x2 x3 : Int) (w : World) : (Instr.index 25 (.agg #[.int .u64 x0, .int .u64 x1, .int .u64 x2, .int .u64 x3]) (.int .i64 0)).run Try.prog w = .ok (.int .u64 x0) w := by kernel_rfl
theorem idx1 (x0 x1 x2 x3 : Int) (w : World) : (Instr.index 25 (.agg #[.int .u64 x0, .int .u64 x1, .int .u64 x2, .int .u64 x3]) (.int .i64 1)).run Try.prog w = .ok (.int .u64 x1) w := by kernel_rfl
theorem idx2 (x0 x1 x2 x3 : Int) (w : World) : (Instr.index 25 (.agg #[.int .u64 x0, .int .u64 x1, .int .u64 x2, .int .u64 x3]) (.int .i64 2)).run Try.prog w = .ok (.int .u64 x2) w := by kernel_rfl
theorem idx3 (x0 x1 x2 x3 : Int) (w : World) : (Instr.index 25 (.agg #[.int .u64 x0, .int .u64 x1, .int .u64 x2, .int .u64 x3]) (.int .i64 3)).run Try.prog w = .ok (.int .u64 x3) w := by kernel_rfl

theorem not_word (x : Nat) (hx : x < 18446744073709551616) : bits .xor .u64 IntKind.u64.max (x : Int) = ((18446744073709551615 - x : Nat) : Int) := by
  show IntKind.u64.wrap ((BitVec.ofInt 64 IntKind.u64.max ^^^ BitVec.ofInt 64 (x : Int)).toNat : Int) = _
  have h1 : BitVec.ofInt 64 IntKind.u64.max = BitVec.allOnes 64 := by decide
  rw [h1, BitVec.allOnes_xor, BitVec.toNat_not, ofInt_u64 x (by omega), IntKind.wrap_u64]
  omega

set_option maxHeartbeats 1000000 in
theorem not_any (q : Q) (w : World) (hq : q.ok) :
    Calls Try.prog 20 #[qv q] w fun e w' => e = .returned (qv (notQ q)) ∧ Below w.heap.size w w' := by
  obtain ⟨a, b, cc, d⟩ := q
  obtain ⟨g0, g1, g2, g3⟩ := hq
  simp only at g0 g1 g2 g3
  have i0 := idx0 a b cc d
  have i1 := idx1 a b cc d
  have i2 := idx2 a b cc d
  have i3 := idx3 a b cc d
  unfold qv
  go_enter Try.func20, Try.ntmps20
  go_wp2
  refine wp_loop_rounds 5 ?_
  rw [rounds_succ]; go_wp2
  rw [rounds_succ]; go_wp2
  rw [rounds_succ]; go_wp2
  rw [rounds_succ]; go_wp2
  rw [rounds_succ]; go_wp2
  refine bodyPost_ret (v := qv (notQ ⟨a, b, cc, d⟩)) ?_ rfl ⟨rfl, ?_⟩
  · simp [results, Try.results20, go_sem, qv, notQ]
    exact ⟨not_word a g0, not_word b g1, not_word cc g2, not_word d g3⟩
  · exact ((Below.refl _ _).alloc (Nat.le_refl _) _).alloc (by simp) _

set_option maxHeartbeats 1000000 in
theorem minus_any (q r : Q) (w : World) (hq : q.ok) (hr : r.ok) :
    Calls Try.prog 19 #[qv q, qv r] w fun e w' => e = .returned (qv (minusQ q r)) ∧ Below w.heap.size w w' := by
  obtain ⟨a, b, cc, d⟩ := q
  obtain ⟨g0, g1, g2, g3⟩ := hq
  simp only at g0 g1 g2 g3
  obtain ⟨a', b', cc', d'⟩ := r
  obtain ⟨k0, k1, k2, k3⟩ := hr
  simp only at k0 k1 k2 k3
  have i0 := idx0 a' b' cc' d'
  have i1 := idx1 a' b' cc' d'
  have i2 := idx2 a' b' cc' d'
  have i3 := idx3 a' b' cc' d'
  unfold qv
  go_enter Try.func19, Try.ntmps19
  go_wp2
  refine wp_loop_rounds 5 ?_
  rw [rounds_succ]; go_wp2
  rw [rounds_succ]; go_wp2
  rw [rounds_succ]; go_wp2
  rw [rounds_succ]; go_wp2
  rw [rounds_succ]; go_wp2
  refine bodyPost_ret (v := qv (minusQ ⟨a, b, cc, d⟩ ⟨a', b', cc', d'⟩)) ?_ rfl ⟨rfl, ?_⟩
  · simp [results, Try.results19, go_sem, qv, minusQ]
    exact ⟨u64_andNot_nat a a' g0 k0, u64_andNot_nat b b' g1 k1, u64_andNot_nat cc cc' g2 k2, u64_andNot_nat d d' g3 k3⟩
  · exact (((Below.refl _ _).alloc (Nat.le_refl _) _).alloc (by simp) _).alloc (by simp; omega) _

theorem and_div (y n : Nat) (m : Nat) (hy : y < 18446744073709551616) (hm : m < 18446744073709551616) : bits .and .u64 ((y : Int) / (n : Int)) (m : Int) = ((y / n &&& m : Nat) : Int) := by
  rw [← Int.natCast_ediv]
  exact u64_and_nat _ _ (Nat.lt_of_le_of_lt (Nat.div_le_self _ _) hy) hm
theorem wrap_is (z : Nat) (i : Int) (h : z < 18446744073709551616) (e : i = z) : IntKind.u64.wrap i = (z : Int) := by
  rw [IntKind.wrap_u64, e]; omega

set_option maxHeartbeats 1000000 in
theorem ones_any (x : Nat) (w : World) (hx : x < 18446744073709551616) :
    Calls Try.prog 36 #[.int .u64 x] w fun e w' => e = .returned (.int .i64 (pop x)) ∧ w' = w := by
  go_enter Try.func36, Try.ntmps36
  go_wp2
  go_ret
  refine ⟨ret_int ?_, rfl⟩
  obtain ⟨y1, e1⟩ : ∃ y, y = f1 6148914691236517205 x := ⟨_, rfl⟩
  obtain ⟨y2, e2⟩ : ∃ y, y = f2 3689348814741910323 y1 := ⟨_, rfl⟩
  obtain ⟨y3, e3⟩ : ∃ y, y = f3 1085102592571150095 y2 := ⟨_, rfl⟩
  obtain ⟨y4, e4⟩ : ∃ y, y = y3 + y3 / 256 := ⟨_, rfl⟩
  obtain ⟨y5, e5⟩ : ∃ y, y = y4 + y4 / 65536 := ⟨_, rfl⟩
  obtain ⟨y6, e6⟩ : ∃ y, y = y5 + y5 / 4294967296 := ⟨_, rfl⟩
  obtain ⟨w1, w2, w2', w3, w4, w5, w6, w7, hp⟩ := ones x y1 y2 y3 y4 y5 y6 hx e1 e2 e3 e4 e5 e6
  have r1 : IntKind.u64.wrap (bits .and .u64 ((x : Int) / 2) 6148914691236517205 + bits .and .u64 (x : Int) 6148914691236517205) = (y1 : Int) := by
    have h1 := and_div x 2 6148914691236517205 hx (by decide)
    have h2 := u64_and_nat x 6148914691236517205 hx (by decide)
    refine wrap_is _ _ w1 ?_
    rw [e1, f1]
    rw [Int.natCast_add, ← h1, ← h2]
    rfl
  have r2 : IntKind.u64.wrap (bits .and .u64 ((y1 : Int) / 4) 3689348814741910323 + bits .and .u64 (y1 : Int) 3689348814741910323) = (y2 : Int) := by
    have h1 := and_div y1 4 3689348814741910323 w1 (by decide)
    have h2 := u64_and_nat y1 3689348814741910323 w1 (by decide)
    refine wrap_is _ _ w2' ?_
    rw [e2, f2]
    rw [Int.natCast_add, ← h1, ← h2]
    rfl
  have r3 : bits .and .u64 (IntKind.u64.wrap ((y2 : Int) / 16 + (y2 : Int))) 1085102592571150095 = (y3 : Int) := by
    rw [wrap_is (y2 / 16 + y2) _ w2 (by omega), e3, f3]
    exact u64_and_nat (y2 / 16 + y2) 1085102592571150095 w2 (by decide)
  have r4 : IntKind.u64.wrap ((y3 : Int) + (y3 : Int) / 256) = (y4 : Int) := wrap_is _ _ w4 (by omega)
  have r5 : IntKind.u64.wrap ((y4 : Int) + (y4 : Int) / 65536) = (y5 : Int) := wrap_is _ _ w5 (by omega)
  have r6 : IntKind.u64.wrap ((y5 : Int) + (y5 : Int) / 4294967296) = (y6 : Int) := wrap_is _ _ w6 (by omega)
  rw [r1, r2, r3, r4, r5, r6, ← hp]
  have r7 : wrap64 (y6 : Int) = (y6 : Int) := by unfold wrap64; omega
  rw [r7, i64_and127]
  rfl

theorem pop_nn (x : Nat) : (0 : Int) ≤ pop x ∧ (pop x : Int) ≤ 64 := by have := pop_le x; omega

set_option maxHeartbeats 1000000 in
theorem len_any (q : Q) (w : World) (hq : q.ok) :
    Calls Try.prog 14 #[qv q] w fun e w' => e = .returned (.int .i64 (lenQ q)) ∧ Below w.heap.size w w' := by
  obtain ⟨a, b, cc, d⟩ := q
  obtain ⟨g0, g1, g2, g3⟩ := hq
  simp only at g0 g1 g2 g3
  have i0 := idx0 a b cc d
  have i1 := idx1 a b cc d
  have i2 := idx2 a b cc d
  have i3 := idx3 a b cc d
  have pa := pop_nn a
  have pb := pop_nn b
  have pc := pop_nn cc
  have pd := pop_nn d
  unfold qv
  go_enter Try.func14, Try.ntmps14
  go_wp2
  refine wp_loop_rounds 5 ?_
  rw [rounds_succ]; go_wp2_with (go_at_call 36; refine (ones_any _ _ g0).mono ?_; rintro e w' ⟨rfl, hw⟩; rw [hw])
  rw [rounds_succ]; go_wp2_with (go_at_call 36; refine (ones_any _ _ g1).mono ?_; rintro e w' ⟨rfl, hw⟩; rw [hw])
  rw [rounds_succ]; go_wp2_with (go_at_call 36; refine (ones_any _ _ g2).mono ?_; rintro e w' ⟨rfl, hw⟩; rw [hw])
  rw [rounds_succ]; go_wp2_with (go_at_call 36; refine (ones_any _ _ g3).mono ?_; rintro e w' ⟨rfl, hw⟩; rw [hw])
  rw [rounds_succ]; go_wp2
  go_ret
  refine ⟨ret_int ?_, (Below.refl _ _).alloc (Nat.le_refl _) _⟩
  unfold lenQ
  simp only
  omega
end Go.Proofs.Ythflhfpbbnlddaa
