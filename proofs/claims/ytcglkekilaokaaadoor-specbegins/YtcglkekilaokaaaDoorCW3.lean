/-
  WALKS: chars.Union of none, of two and of three sets.
-/
import Derived.Test.YtcglkekilaokaaaDoorCW2
namespace Go.Proofs.YtcglkekilaokaaaDoorC
open Go.RowKit

set_option maxHeartbeats 1000000 in
theorem union0 (w : World) :
    Calls Tryd.prog 55 #[.slice none 0 0] w fun e w' => e = .returned (qv zeroQ) ∧ Below w.heap.size w w' := by
  go_enter Tryd.func55, Tryd.ntmps55
  go_wp2
  refine wp_loop_rounds 1 ?_
  rw [rounds_succ]; go_wp2
  refine bodyPost_ret (v := qv zeroQ) ?_ rfl ⟨rfl, ?_⟩
  · simp [results, Tryd.results55, go_sem, qv, zeroQ]
  · exact ((Below.refl _ _).alloc (Nat.le_refl _) _).alloc (by simp) _

theorem or1 (x : Nat) (hx : x < 18446744073709551616) : bits .or .u64 0 (x : Int) = (x : Int) := by
  have := u64_or_nat 0 x (by decide) hx
  rw [Nat.zero_or] at this
  exact this
theorem or2 (x y : Nat) (hx : x < 18446744073709551616) (hy : y < 18446744073709551616) : bits .or .u64 (bits .or .u64 0 (x : Int)) (y : Int) = ((x ||| y : Nat) : Int) := by
  rw [or1 x hx, u64_or_nat x y hx hy]
theorem or3 (x y z : Nat) (hx : x < 18446744073709551616) (hy : y < 18446744073709551616) (hz : z < 18446744073709551616) : bits .or .u64 (bits .or .u64 (bits .or .u64 0 (x : Int)) (y : Int)) (z : Int) = ((x ||| y ||| z : Nat) : Int) := by
  rw [or2 x y hx hy, u64_or_nat _ z (or_lt hx hy) hz]

set_option maxHeartbeats 4000000 in
theorem union2 (q r : Q) (w : World) (hq : q.ok) (hr : r.ok) :
    Calls Tryd.prog 55 #[.slice (some ⟨w.heap.size, 0, none⟩) 2 2] (w.alloc (.cells #[.int .u64 q.a, .int .u64 q.b, .int .u64 q.c, .int .u64 q.d, .int .u64 r.a, .int .u64 r.b, .int .u64 r.c, .int .u64 r.d] 62)) fun e w' => e = .returned (qv (orQ q r)) ∧ Below w.heap.size w w' := by
  obtain ⟨a, b, cc, d⟩ := q
  obtain ⟨g0, g1, g2, g3⟩ := hq
  simp only at g0 g1 g2 g3
  have i0 := idx0 a b cc d
  have i1 := idx1 a b cc d
  have i2 := idx2 a b cc d
  have i3 := idx3 a b cc d
  obtain ⟨a', b', cc', d'⟩ := r
  obtain ⟨g0', g1', g2', g3'⟩ := hr
  simp only at g0' g1' g2' g3'
  have i0' := idx0 a' b' cc' d'
  have i1' := idx1 a' b' cc' d'
  have i2' := idx2 a' b' cc' d'
  have i3' := idx3 a' b' cc' d'
  go_enter Tryd.func55, Tryd.ntmps55
  go_wp2
  refine wp_loop_rounds 3 ?_
  rw [rounds_succ]; go_wp2
  refine wp_loop_rounds 5 ?_
  rw [rounds_succ]; go_wp2
  rw [rounds_succ]; go_wp2
  rw [rounds_succ]; go_wp2
  rw [rounds_succ]; go_wp2
  rw [rounds_succ]; go_wp2
  rw [rounds_succ]; go_wp2
  refine wp_loop_rounds 5 ?_
  rw [rounds_succ]; go_wp2
  rw [rounds_succ]; go_wp2
  rw [rounds_succ]; go_wp2
  rw [rounds_succ]; go_wp2
  rw [rounds_succ]; go_wp2
  rw [rounds_succ]; go_wp2
  refine bodyPost_ret (v := qv (orQ ⟨a, b, cc, d⟩ ⟨a', b', cc', d'⟩)) ?_ rfl ⟨rfl, ?_⟩
  · simp [results, Tryd.results55, go_sem, qv, orQ]
    exact ⟨or2 a a' g0 g0', or2 b b' g1 g1', or2 cc cc' g2 g2', or2 d d' g3 g3'⟩
  · exact (((((Below.refl _ _).alloc (Nat.le_refl _) _).alloc (by simp) _).alloc (by simp; omega) _).alloc (by simp; omega) _).alloc (by simp; omega) _

set_option maxHeartbeats 4000000 in
theorem union3 (q r t : Q) (w : World) (hq : q.ok) (hr : r.ok) (ht : t.ok) :
    Calls Tryd.prog 55 #[.slice (some ⟨w.heap.size, 0, none⟩) 3 3] (w.alloc (.cells #[.int .u64 q.a, .int .u64 q.b, .int .u64 q.c, .int .u64 q.d, .int .u64 r.a, .int .u64 r.b, .int .u64 r.c, .int .u64 r.d, .int .u64 t.a, .int .u64 t.b, .int .u64 t.c, .int .u64 t.d] 62)) fun e w' => e = .returned (qv (orQ (orQ q r) t)) ∧ Below w.heap.size w w' := by
  obtain ⟨a, b, cc, d⟩ := q
  obtain ⟨g0, g1, g2, g3⟩ := hq
  simp only at g0 g1 g2 g3
  have i0 := idx0 a b cc d
  have i1 := idx1 a b cc d
  have i2 := idx2 a b cc d
  have i3 := idx3 a b cc d
  obtain ⟨a', b', cc', d'⟩ := r
  obtain ⟨g0', g1', g2', g3'⟩ := hr
  simp only at g0' g1' g2' g3'
  have i0' := idx0 a' b' cc' d'
  have i1' := idx1 a' b' cc' d'
  have i2' := idx2 a' b' cc' d'
  have i3' := idx3 a' b' cc' d'
  obtain ⟨a'', b'', cc'', d''⟩ := t
  obtain ⟨g0'', g1'', g2'', g3''⟩ := ht
  simp only at g0'' g1'' g2'' g3''
  have i0'' := idx0 a'' b'' cc'' d''
  have i1'' := idx1 a'' b'' cc'' d''
  have i2'' := idx2 a'' b'' cc'' d''
  have i3'' := idx3 a'' b'' cc'' d''
  go_enter Tryd.func55, Tryd.ntmps55
  go_wp2
  refine wp_loop_rounds 4 ?_
  rw [rounds_succ]; go_wp2
  refine wp_loop_rounds 5 ?_
  rw [rounds_succ]; go_wp2
  rw [rounds_succ]; go_wp2
  rw [rounds_succ]; go_wp2
  rw [rounds_succ]; go_wp2
  rw [rounds_succ]; go_wp2
  rw [rounds_succ]; go_wp2
  refine wp_loop_rounds 5 ?_
  rw [rounds_succ]; go_wp2
  rw [rounds_succ]; go_wp2
  rw [rounds_succ]; go_wp2
  rw [rounds_succ]; go_wp2
  rw [rounds_succ]; go_wp2
  rw [rounds_succ]; go_wp2
  refine wp_loop_rounds 5 ?_
  rw [rounds_succ]; go_wp2
  rw [rounds_succ]; go_wp2
  rw [rounds_succ]; go_wp2
  rw [rounds_succ]; go_wp2
  rw [rounds_succ]; go_wp2
  rw [rounds_succ]; go_wp2
  refine bodyPost_ret (v := qv (orQ (orQ ⟨a, b, cc, d⟩ ⟨a', b', cc', d'⟩) ⟨a'', b'', cc'', d''⟩)) ?_ rfl ⟨rfl, ?_⟩
  · simp [results, Tryd.results55, go_sem, qv, orQ]
    exact ⟨or3 a a' a'' g0 g0' g0'', or3 b b' b'' g1 g1' g1'', or3 cc cc' cc'' g2 g2' g2'', or3 d d' d'' g3 g3' g3''⟩
  · exact ((((((Below.refl _ _).alloc (Nat.le_refl _) _).alloc (by simp) _).alloc (by simp; omega) _).alloc (by simp; omega) _).alloc (by simp; omega) _).alloc (by simp; omega) _
end Go.Proofs.YtcglkekilaokaaaDoorC
