/-
  WALKS: pct.Digit, One, Triplet, byteOf; the reference's Digit, One, Triplet.
-/
import Derived.Test.YtmpengiohfjofaaW9
import Derived.Test.YtmpengiohfjofaaZ
namespace Go.Proofs.Ytmpengiohfjofaa
open Go.RowKit

theorem un_fin : ∀ c : Fin 256, unresQ.has c.val = unN c.val := by decide +kernel
theorem re_fin : ∀ c : Fin 256, resQ.has c.val = reN c.val := by decide +kernel
theorem hx_fin : ∀ c : Fin 256, hexQ.has c.val = hexN c.val := by decide +kernel
theorem stay_fin : ∀ c : Fin 256, (orQ unresQ resQ).has c.val = (unN c.val || reN c.val) := by decide +kernel

theorem dig_le (n : Nat) : digN n ≤ 15 := by unfold digN; split <;> (try split) <;> (try split) <;> omega

theorem ret_two {a b : Int} {x y : Bool} (h : a = b) (k : x = y) : Ending.returned (.tuple #[.int .i64 a, .bool x]) = .returned (.tuple #[.int .i64 b, .bool y]) := by rw [h, k]

set_option maxHeartbeats 1000000 in
theorem dig_any (c : Int) (w : World) (h0 : 0 ≤ c) (h1 : c ≤ 255) :
    Calls Try.prog 10 #[.int .u8 c] w fun e w' => e = .returned (.tuple #[.int .i64 (digN c.toNat), .bool (hexN c.toNat)]) ∧ w' = w := by
  go_enter Try.func10, Try.ntmps10
  go_wp2
  all_goals go_ret2
  all_goals refine ⟨ret_two ?_ ?_, rfl⟩
  all_goals first | (unfold digN; split <;> (try split) <;> (try split) <;> omega) | (unfold hexN; simp; omega)

set_option maxHeartbeats 1000000 in
theorem rdig_any (c : Int) (w : World) (h0 : 0 ≤ c) (h1 : c ≤ 255) :
    Calls Try.prog 11 #[.int .u8 c] w fun e w' => e = .returned (.tuple #[.int .i64 (digN c.toNat), .bool (hexN c.toNat)]) ∧ w' = w := by
  go_enter Try.func11, Try.ntmps11
  go_wp2
  all_goals go_ret2
  all_goals refine ⟨ret_two ?_ ?_, rfl⟩
  all_goals first | (unfold digN; split <;> (try split) <;> (try split) <;> omega) | (unfold hexN; simp; omega)

end Go.Proofs.Ytmpengiohfjofaa
