/-
  WALKS: chars.one, Has, Not, Minus; the reference's Has.
-/
import Derived.Test.YtcglkekilaokaaaDoorProg
import Derived.Test.YtcglkekilaokaaaDoorCQ
import Derived.WalkKit
import Derived.WalkSpells
import Derived.WalkLawsBesides
import Derived.Outline
import Derived.Laws.BitsAllLaws
namespace Go.Proofs.YtcglkekilaokaaaDoorC
open Go.RowKit

theorem hide {p : Prop} (h : p) : Hid p := h
theorem ret_bool {a b : Bool} (h : a = b) : Ending.returned (.bool a) = .returned (.bool b) := by rw [h]
theorem ret_int {k : IntKind} {a b : Int} (h : a = b) : Ending.returned (.int k a) = .returned (.int k b) := by rw [h]

/-- a set as the program has it -/
def qv (q : Q) : Value := .agg #[.int .u64 q.a, .int .u64 q.b, .int .u64 q.c, .int .u64 q.d]

theorem pow_cast (c : Int) (h0 : 0 ≤ c) : IntKind.u64.wrap (2 ^ (c % 64).toNat) = ((2 ^ (c.toNat % 64) : Nat) : Int) := by
  have e : (c % 64).toNat = c.toNat % 64 := by omega
  have h := pow_lt c.toNat
  have e2 : ((2 : Int) ^ (c.toNat % 64)) = ((2 ^ (c.toNat % 64) : Nat) : Int) := by rw [Int.natCast_pow]; rfl
  rw [e, IntKind.wrap_u64, e2]
  generalize 2 ^ (c.toNat % 64) = x at *
  omega

set_option maxHeartbeats 400000 in
theorem one_any (c : Int) (w : World) (h0 : 0 ≤ c) (h1 : c ≤ 255) :
    Calls Tryd.prog 57 #[.int .u8 c] w fun e w' => e = .returned (qv (oneQ c.toNat)) ∧ Below w.heap.size w w' := by
  have hp := pow_cast c h0
  have Hp := hide hp
  clear hp
  obtain ⟨k, hk⟩ : ∃ k, c / 64 = k := ⟨_, rfl⟩
  have hd : k = 0 ∨ k = 1 ∨ k = 2 ∨ k = 3 := by omega
  rcases hd with rfl | rfl | rfl | rfl
  all_goals
    go_enter Tryd.func57, Tryd.ntmps57
    go_wp2
    have ek : c.toNat / 64 = 0 ∨ c.toNat / 64 = 1 ∨ c.toNat / 64 = 2 ∨ c.toNat / 64 = 3 := by omega
    rcases ek with ek | ek | ek | ek <;> first | (exfalso; omega) | skip
    refine bodyPost_ret (v := qv (oneQ c.toNat)) ?_ rfl ⟨rfl, ?_⟩
    · simp [results, Tryd.results57, go_sem, qv, oneQ, ek]
      exact Hp.out
    · exact ((Below.refl _ _).alloc (Nat.le_refl _) _).alloc (by simp) _

theorem bit_of (x : Nat) (c : Int) (h0 : 0 ≤ c) (hx : x < 18446744073709551616) : (bits .and .u64 ((x : Int) / 2 ^ (c % 64).toNat) 1 == 1) = x.testBit (c.toNat % 64) := by
  have e : (c % 64).toNat = c.toNat % 64 := by omega
  rw [e]
  have e2 : ((x : Int) / 2 ^ (c.toNat % 64)) = ((x / 2 ^ (c.toNat % 64) : Nat) : Int) := by
    rw [Int.natCast_ediv, Int.natCast_pow]; rfl
  have hl : x / 2 ^ (c.toNat % 64) < 18446744073709551616 := Nat.lt_of_le_of_lt (Nat.div_le_self _ _) hx
  rw [e2, show (1 : Int) = ((1 : Nat) : Int) from rfl, u64_and_nat _ _ hl (by decide), Nat.testBit_eq_decide_div_mod_eq, Nat.and_one_is_mod, Bool.eq_iff_iff]
  simp
  omega

set_option maxHeartbeats 400000 in
theorem has_any (q : Q) (c : Int) (w : World) (hq : q.ok) (h0 : 0 ≤ c) (h1 : c ≤ 255) :
    Calls Tryd.prog 41 #[qv q, .int .u8 c] w fun e w' => e = .returned (.bool (q.has c.toNat)) ∧ Below w.heap.size w w' := by
  obtain ⟨a, b, cc, d⟩ := q
  obtain ⟨g0, g1, g2, g3⟩ := hq
  simp only at g0 g1 g2 g3
  have b0 := bit_of a c h0 g0
  have b1 := bit_of b c h0 g1
  have b2 := bit_of cc c h0 g2
  have b3 := bit_of d c h0 g3
  have B0 := hide b0
  have B1 := hide b1
  have B2 := hide b2
  have B3 := hide b3
  clear b0 b1 b2 b3
  obtain ⟨k, hk⟩ : ∃ k, c / 64 = k := ⟨_, rfl⟩
  have hd : k = 0 ∨ k = 1 ∨ k = 2 ∨ k = 3 := by omega
  unfold qv Q.has Q.word
  rcases hd with rfl | rfl | rfl | rfl
  all_goals
    have ek : c.toNat / 64 = 0 ∨ c.toNat / 64 = 1 ∨ c.toNat / 64 = 2 ∨ c.toNat / 64 = 3 := by omega
    rcases ek with ek | ek | ek | ek <;> first | (exfalso; omega) | skip
    simp only [ek]
    clear ek
    go_enter Tryd.func41, Tryd.ntmps41
    go_wp2
    go_ret
    refine ⟨ret_bool ?_, (Below.refl _ _).alloc (Nat.le_refl _) _⟩
    first | exact B0.out | exact B1.out | exact B2.out | exact B3.out

theorem half (x k : Nat) : ((x / 2 ^ k : Nat) : Int) / 2 = ((x / 2 ^ (k + 1) : Nat) : Int) := by
  rw [Nat.pow_succ, ← Nat.div_div_eq_div_mul, Int.natCast_ediv (x / 2 ^ k)]; rfl
theorem bit_of' (x : Nat) (k : Nat) : (((x / 2 ^ k : Nat) : Int) % 2 == 1) = x.testBit k := by
  rw [Nat.testBit_eq_decide_div_mod_eq, Bool.eq_iff_iff]
  generalize x / 2 ^ k = y
  simp
  omega

end Go.Proofs.YtcglkekilaokaaaDoorC
