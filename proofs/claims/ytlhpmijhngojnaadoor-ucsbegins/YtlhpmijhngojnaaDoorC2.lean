/-
  WALKS: ucs.lead, begun.
-/
import Derived.Test.YtlhpmijhngojnaaDoorC1
import Derived.Test.YtlhpmijhngojnaaDoorW9
import Derived.Laws.BitsAllLaws
import Derived.OwnWalk
namespace Go.Proofs.YtlhpmijhngojnaaDoor
open Go.RowKit

/-- the least number of a first byte's -/
def leastZ (c : Nat) : Nat := if sizeN c = 0 then 0 else leastN (sizeN c)
def leadZ (c : Nat) : Nat := if sizeN c = 0 then 0 else leadN (sizeN c) c
theorem ret_three {a b c a' b' c' : Int} (h1 : a = a') (h2 : b = b') (h3 : c = c') : Ending.returned (.tuple #[.int .i64 a, .int .i64 b, .int .i64 c]) = .returned (.tuple #[.int .i64 a', .int .i64 b', .int .i64 c']) := by rw [h1, h2, h3]
theorem lead_2 {c : Nat} (h : 192 ≤ c ∧ c < 224) : sizeN c = 2 ∧ leadZ c = c - 192 ∧ leastZ c = 128 := by
  have e : sizeN c = 2 := by unfold sizeN; (repeat' split) <;> omega
  refine ⟨e, ?_, ?_⟩
  · unfold leadZ leadN; rw [e]; simp
  · unfold leastZ leastN; rw [e]; simp
theorem lead_3 {c : Nat} (h : 224 ≤ c ∧ c < 240) : sizeN c = 3 ∧ leadZ c = c - 224 ∧ leastZ c = 2048 := by
  have e : sizeN c = 3 := by unfold sizeN; (repeat' split) <;> omega
  refine ⟨e, ?_, ?_⟩
  · unfold leadZ leadN; rw [e]; simp
  · unfold leastZ leastN; rw [e]; simp
theorem lead_4 {c : Nat} (h : 240 ≤ c ∧ c < 248) : sizeN c = 4 ∧ leadZ c = c - 240 ∧ leastZ c = 65536 := by
  have e : sizeN c = 4 := by unfold sizeN; (repeat' split) <;> omega
  refine ⟨e, ?_, ?_⟩
  · unfold leadZ leadN; rw [e]; simp
  · unfold leastZ leastN; rw [e]; simp
theorem lead_0 {c : Nat} (h : c < 192 ∨ 248 ≤ c) : sizeN c = 0 ∧ leadZ c = 0 ∧ leastZ c = 0 := by
  have e : sizeN c = 0 := by unfold sizeN; (repeat' split) <;> omega
  refine ⟨e, ?_, ?_⟩
  · unfold leadZ; rw [e]; simp
  · unfold leastZ; rw [e]; simp

set_option maxHeartbeats 1000000 in
theorem lead_any (c : Nat) (w : World) (h : c ≤ 255) :
    Calls Tryd.prog 30 #[.int .u8 c] w fun e w' => e = .returned (.tuple #[.int .i64 (sizeN c), .int .i64 (leadZ c), .int .i64 (leastZ c)]) ∧ w' = w := by
  go_enter Tryd.func30, Tryd.ntmps30
  go_wp2
  · rename_i h1
    go_ret3
    have h1 := beq_iff_eq.1 h1
    obtain ⟨e1, e2, e3⟩ := lead_2 (c := c) (by omega)
    exact ⟨ret_three (by omega) (by omega) (by omega), rfl⟩
  · rename_i h1 h2
    go_ret3
    have h2 := beq_iff_eq.1 h2
    obtain ⟨e1, e2, e3⟩ := lead_3 (c := c) (by omega)
    exact ⟨ret_three (by omega) (by omega) (by omega), rfl⟩
  · rename_i h1 h2 h3
    go_ret3
    have h3 := beq_iff_eq.1 h3
    obtain ⟨e1, e2, e3⟩ := lead_4 (c := c) (by omega)
    exact ⟨ret_three (by omega) (by omega) (by omega), rfl⟩
  · rename_i h1 h2 h3
    go_ret3
    have h1 := beq_eq_false_iff_ne.1 h1
    have h2 := beq_eq_false_iff_ne.1 h2
    have h3 := beq_eq_false_iff_ne.1 h3
    obtain ⟨e1, e2, e3⟩ := lead_0 (c := c) (by omega)
    exact ⟨ret_three (by omega) (by omega) (by omega), rfl⟩
theorem lead_is (c : Int) (z l m : Int) (w : World) (h0 : 0 ≤ c) (h : c ≤ 255) (hz : (sizeN c.toNat : Int) = z) (hl : (leadZ c.toNat : Int) = l) (hm : (leastZ c.toNat : Int) = m) :
    Calls Tryd.prog 30 #[.int .u8 c] w fun e w' => e = .returned (.tuple #[.int .i64 z, .int .i64 l, .int .i64 m]) ∧ w' = w := by
  subst hz hl hm
  have := lead_any c.toNat w (by omega)
  rwa [show ((c.toNat : Nat) : Int) = c by omega] at this
end Go.Proofs.YtlhpmijhngojnaaDoor
