/-
  TEXTS JOINED: CW1, CW2, CW3.
-/
import Derived.Laws.Bits128
import Derived.Laws.BitsAllLaws
import Derived.LoopN
import Derived.Outline
import Derived.Test.YtpfcfadbilaleaaProg
import Derived.WalkKit
import Derived.WalkLawsBesides
import Derived.WalkSpells
import Derived.Test.YtpfcfadbilaleaaQ03
/-
  WALKS: chars.one, Has, Not, Minus; the reference's Has.
-/
namespace Go.Proofs.YtpfcfadbilaleaaC
open Go.RowKit

theorem hide {p : Prop} (h : p) : Hid p := h
theorem ret_bool {a b : Bool} (h : a = b) : Ending.returned (.bool a) = .returned (.bool b) := by rw [h]
theorem ret_int {k : IntKind} {a b : Int} (h : a = b) : Ending.returned (.int k a) = .returned (.int k b) := by rw [h]

/-- a set as the program has it -/
def qv (q : Q) : Value := .agg #[.int .u64 q.a, .int .u64 q.b, .int .u64 q.c, .int .u64 q.d]

theorem pow_cast (c : Int) (h0 : 0 ≤ c) : IntKind.u64.wrap (2 ^ (c % 64).toNat) = ((2 ^ (c.toNat % 64) : Nat) : Int) := by
  have e : (c % 64).toNat = c.toNat % 64 := by omega
  have h := pow_lt c.toNat
  have e2 : ((2 : Int) ^ (c.toNat % 64)) = ((2 ^ (c.toNat % 64) : Nat) : Int) := by rw [Int.natCast_pow]; rfl
  rw [e, IntKind.wrap_u64, e2]
  generalize 2 ^ (c.toNat % 64) = x at *
  omega

set_option maxHeartbeats 400000 in
theorem one_any (c : Int) (w : World) (h0 : 0 ≤ c) (h1 : c ≤ 255) :
    Calls Try.prog 93 #[.int .u8 c] w fun e w' => e = .returned (qv (oneQ c.toNat)) ∧ Below w.heap.size w w' := by
  have hp := pow_cast c h0
  have Hp := hide hp
  clear hp
  obtain ⟨k, hk⟩ : ∃ k, c / 64 = k := ⟨_, rfl⟩
  have hd : k = 0 ∨ k = 1 ∨ k = 2 ∨ k = 3 := by omega
  rcases hd with rfl | rfl | rfl | rfl
  all_goals
    go_enter Try.func93, Try.ntmps93
    go_wp2
    have ek : c.toNat / 64 = 0 ∨ c.toNat / 64 = 1 ∨ c.toNat / 64 = 2 ∨ c.toNat / 64 = 3 := by omega
    rcases ek with ek | ek | ek | ek <;> first | (exfalso; omega) | skip
    refine bodyPost_ret (v := qv (oneQ c.toNat)) ?_ rfl ⟨rfl, ?_⟩
    · simp [results, Try.results93, go_sem, qv, oneQ, ek]
      exact Hp.out
    · exact ((Below.refl _ _).alloc (Nat.le_refl _) _).alloc (by simp) _

theorem bit_of (x : Nat) (c : Int) (h0 : 0 ≤ c) (hx : x < 18446744073709551616) : (bits .and .u64 ((x : Int) / 2 ^ (c % 64).toNat) 1 == 1) = x.testBit (c.toNat % 64) := by
  have e : (c % 64).toNat = c.toNat % 64 := by omega
  rw [e]
  have e2 : ((x : Int) / 2 ^ (c.toNat % 64)) = ((x / 2 ^ (c.toNat % 64) : Nat) : Int) := by
    rw [Int.natCast_ediv, Int.natCast_pow]; rfl
  have hl : x / 2 ^ (c.toNat % 64) < 18446744073709551616 := Nat.lt_of_le_of_lt (Nat.div_le_self _ _) hx
  rw [e2, show (1 : Int) = ((1 : Nat) : Int) from rfl, u64_and_nat _ _ hl (by decide), Nat.testBit_eq_decide_div_mod_eq, Nat.and_one_is_mod, Bool.eq_iff_iff]
  simp
  omega

set_option maxHeartbeats 400000 in
theorem has_any (q : Q) (c : Int) (w : World) (hq : q.ok) (h0 : 0 ≤ c) (h1 : c ≤ 255) :
    Calls Try.prog 65 #[qv q, .int .u8 c] w fun e w' => e = .returned (.bool (q.has c.toNat)) ∧ Below w.heap.size w w' := by
  obtain ⟨a, b, cc, d⟩ := q
  obtain ⟨g0, g1, g2, g3⟩ := hq
  simp only at g0 g1 g2 g3
  have b0 := bit_of a c h0 g0
  have b1 := bit_of b c h0 g1
  have b2 := bit_of cc c h0 g2
  have b3 := bit_of d c h0 g3
  have B0 := hide b0
  have B1 := hide b1
  have B2 := hide b2
  have B3 := hide b3
  clear b0 b1 b2 b3
  obtain ⟨k, hk⟩ : ∃ k, c / 64 = k := ⟨_, rfl⟩
  have hd : k = 0 ∨ k = 1 ∨ k = 2 ∨ k = 3 := by omega
  unfold qv Q.has Q.word
  rcases hd with rfl | rfl | rfl | rfl
  all_goals
    have ek : c.toNat / 64 = 0 ∨ c.toNat / 64 = 1 ∨ c.toNat / 64 = 2 ∨ c.toNat / 64 = 3 := by omega
    rcases ek with ek | ek | ek | ek <;> first | (exfalso; omega) | skip
    simp only [ek]
    clear ek
    go_enter Try.func65, Try.ntmps65
    go_wp2
    go_ret
    refine ⟨ret_bool ?_, (Below.refl _ _).alloc (Nat.le_refl _) _⟩
    first | exact B0.out | exact B1.out | exact B2.out | exact B3.out

end Go.Proofs.YtpfcfadbilaleaaC
/-
  WALKS: chars.Not, Minus, Len; bits.OnesCount64.
-/
namespace Go.Proofs.YtpfcfadbilaleaaC
open Go.RowKit

theorem idx0 (x0 x1 x2 x3 : Int) (w : World) : (Instr.index 95 (.agg #[.int .u64 x0, .int .u64 x1, .int .u64 x2, .int .u64 x3]) (.int .i64 0)).run Try.prog w = .ok (.int .u64 x0) w := by kernel_rfl
theorem idx1 (x0 x1 x2 x3 : Int) (w : World) : (Instr.index 95 (.agg #[.int .u64 x0, .int .u64 x1, .int .u64 x2, .int .u64 x3]) (.int .i64 1)).run Try.prog w = .ok (.int .u64 x1) w := by kernel_rfl
theorem idx2 (x0 x1 x2 x3 : Int) (w : World) : (Instr.index 95 (.agg #[.int .u64 x0, .int .u64 x1, .int .u64 x2, .int .u64 x3]) (.int .i64 2)).run Try.prog w = .ok (.int .u64 x2) w := by kernel_rfl
theorem idx3 (x0 x1 x2 x3 : Int) (w : World) : (Instr.index 95 (.agg #[.int .u64 x0, .int .u64 x1, .int .u64 x2, .int .u64 x3]) (.int .i64 3)).run Try.prog w = .ok (.int .u64 x3) w := by kernel_rfl

end Go.Proofs.YtpfcfadbilaleaaC
/-
  WALKS: chars.Union of none, of two and of three sets.
-/
namespace Go.Proofs.YtpfcfadbilaleaaC
open Go.RowKit

theorem or1 (x : Nat) (hx : x < 18446744073709551616) : bits .or .u64 0 (x : Int) = (x : Int) := by
  have := u64_or_nat 0 x (by decide) hx
  rw [Nat.zero_or] at this
  exact this
theorem or2 (x y : Nat) (hx : x < 18446744073709551616) (hy : y < 18446744073709551616) : bits .or .u64 (bits .or .u64 0 (x : Int)) (y : Int) = ((x ||| y : Nat) : Int) := by
  rw [or1 x hx, u64_or_nat x y hx hy]
theorem or3 (x y z : Nat) (hx : x < 18446744073709551616) (hy : y < 18446744073709551616) (hz : z < 18446744073709551616) : bits .or .u64 (bits .or .u64 (bits .or .u64 0 (x : Int)) (y : Int)) (z : Int) = ((x ||| y ||| z : Nat) : Int) := by
  rw [or2 x y hx hy, u64_or_nat _ z (or_lt hx hy) hz]

set_option maxHeartbeats 4000000 in
theorem union2 (q r : Q) (w : World) (hq : q.ok) (hr : r.ok) :
    Calls Try.prog 62 #[.slice (some ⟨w.heap.size, 0, none⟩) 2 2] (w.alloc (.cells #[.int .u64 q.a, .int .u64 q.b, .int .u64 q.c, .int .u64 q.d, .int .u64 r.a, .int .u64 r.b, .int .u64 r.c, .int .u64 r.d] 95)) fun e w' => e = .returned (qv (orQ q r)) ∧ Below w.heap.size w w' := by
  obtain ⟨a, b, cc, d⟩ := q
  obtain ⟨g0, g1, g2, g3⟩ := hq
  simp only at g0 g1 g2 g3
  have i0 := idx0 a b cc d
  have i1 := idx1 a b cc d
  have i2 := idx2 a b cc d
  have i3 := idx3 a b cc d
  obtain ⟨a', b', cc', d'⟩ := r
  obtain ⟨g0', g1', g2', g3'⟩ := hr
  simp only at g0' g1' g2' g3'
  have i0' := idx0 a' b' cc' d'
  have i1' := idx1 a' b' cc' d'
  have i2' := idx2 a' b' cc' d'
  have i3' := idx3 a' b' cc' d'
  go_enter Try.func62, Try.ntmps62
  go_wp2
  refine wp_loop_rounds 3 ?_
  rw [rounds_succ]; go_wp2
  refine wp_loop_rounds 5 ?_
  rw [rounds_succ]; go_wp2
  rw [rounds_succ]; go_wp2
  rw [rounds_succ]; go_wp2
  rw [rounds_succ]; go_wp2
  rw [rounds_succ]; go_wp2
  rw [rounds_succ]; go_wp2
  refine wp_loop_rounds 5 ?_
  rw [rounds_succ]; go_wp2
  rw [rounds_succ]; go_wp2
  rw [rounds_succ]; go_wp2
  rw [rounds_succ]; go_wp2
  rw [rounds_succ]; go_wp2
  rw [rounds_succ]; go_wp2
  refine bodyPost_ret (v := qv (orQ ⟨a, b, cc, d⟩ ⟨a', b', cc', d'⟩)) ?_ rfl ⟨rfl, ?_⟩
  · simp [results, Try.results62, go_sem, qv, orQ]
    exact ⟨or2 a a' g0 g0', or2 b b' g1 g1', or2 cc cc' g2 g2', or2 d d' g3 g3'⟩
  · exact (((((Below.refl _ _).alloc (Nat.le_refl _) _).alloc (by simp) _).alloc (by simp; omega) _).alloc (by simp; omega) _).alloc (by simp; omega) _

set_option maxHeartbeats 4000000 in
theorem union3 (q r t : Q) (w : World) (hq : q.ok) (hr : r.ok) (ht : t.ok) :
    Calls Try.prog 62 #[.slice (some ⟨w.heap.size, 0, none⟩) 3 3] (w.alloc (.cells #[.int .u64 q.a, .int .u64 q.b, .int .u64 q.c, .int .u64 q.d, .int .u64 r.a, .int .u64 r.b, .int .u64 r.c, .int .u64 r.d, .int .u64 t.a, .int .u64 t.b, .int .u64 t.c, .int .u64 t.d] 95)) fun e w' => e = .returned (qv (orQ (orQ q r) t)) ∧ Below w.heap.size w w' := by
  obtain ⟨a, b, cc, d⟩ := q
  obtain ⟨g0, g1, g2, g3⟩ := hq
  simp only at g0 g1 g2 g3
  have i0 := idx0 a b cc d
  have i1 := idx1 a b cc d
  have i2 := idx2 a b cc d
  have i3 := idx3 a b cc d
  obtain ⟨a', b', cc', d'⟩ := r
  obtain ⟨g0', g1', g2', g3'⟩ := hr
  simp only at g0' g1' g2' g3'
  have i0' := idx0 a' b' cc' d'
  have i1' := idx1 a' b' cc' d'
  have i2' := idx2 a' b' cc' d'
  have i3' := idx3 a' b' cc' d'
  obtain ⟨a'', b'', cc'', d''⟩ := t
  obtain ⟨g0'', g1'', g2'', g3''⟩ := ht
  simp only at g0'' g1'' g2'' g3''
  have i0'' := idx0 a'' b'' cc'' d''
  have i1'' := idx1 a'' b'' cc'' d''
  have i2'' := idx2 a'' b'' cc'' d''
  have i3'' := idx3 a'' b'' cc'' d''
  go_enter Try.func62, Try.ntmps62
  go_wp2
  refine wp_loop_rounds 4 ?_
  rw [rounds_succ]; go_wp2
  refine wp_loop_rounds 5 ?_
  rw [rounds_succ]; go_wp2
  rw [rounds_succ]; go_wp2
  rw [rounds_succ]; go_wp2
  rw [rounds_succ]; go_wp2
  rw [rounds_succ]; go_wp2
  rw [rounds_succ]; go_wp2
  refine wp_loop_rounds 5 ?_
  rw [rounds_succ]; go_wp2
  rw [rounds_succ]; go_wp2
  rw [rounds_succ]; go_wp2
  rw [rounds_succ]; go_wp2
  rw [rounds_succ]; go_wp2
  rw [rounds_succ]; go_wp2
  refine wp_loop_rounds 5 ?_
  rw [rounds_succ]; go_wp2
  rw [rounds_succ]; go_wp2
  rw [rounds_succ]; go_wp2
  rw [rounds_succ]; go_wp2
  rw [rounds_succ]; go_wp2
  rw [rounds_succ]; go_wp2
  refine bodyPost_ret (v := qv (orQ (orQ ⟨a, b, cc, d⟩ ⟨a', b', cc', d'⟩) ⟨a'', b'', cc'', d''⟩)) ?_ rfl ⟨rfl, ?_⟩
  · simp [results, Try.results62, go_sem, qv, orQ]
    exact ⟨or3 a a' a'' g0 g0' g0'', or3 b b' b'' g1 g1' g1'', or3 cc cc' cc'' g2 g2' g2'', or3 d d' d'' g3 g3' g3''⟩
  · exact ((((((Below.refl _ _).alloc (Nat.le_refl _) _).alloc (by simp) _).alloc (by simp; omega) _).alloc (by simp; omega) _).alloc (by simp; omega) _).alloc (by simp; omega) _
end Go.Proofs.YtpfcfadbilaleaaC
