/-
  WALKS: chars.Not, Minus, Len; bits.OnesCount64.
-/
import Derived.Test.YtcglkekilaokaaaDoorCW1
import Derived.Test.YtcglkekilaokaaaDoorCP
import Derived.LoopN
import Derived.Laws.Bits128
namespace Go.Proofs.YtcglkekilaokaaaDoorC
open Go.RowKit

theorem idx0 (x0 x1 x2 x3 : Int) (w : World) : (Instr.index 62 (.agg #[.int .u64 x0, .int .u64 x1, .int .u64 x2, .int .u64 x3]) (.int .i64 0)).run Tryd.prog w = .ok (.int .u64 x0) w := by kernel_rfl
theorem idx1 (x0 x1 x2 x3 : Int) (w : World) : (Instr.index 62 (.agg #[.int .u64 x0, .int .u64 x1, .int .u64 x2, .int .u64 x3]) (.int .i64 1)).run Tryd.prog w = .ok (.int .u64 x1) w := by kernel_rfl
theorem idx2 (x0 x1 x2 x3 : Int) (w : World) : (Instr.index 62 (.agg #[.int .u64 x0, .int .u64 x1, .int .u64 x2, .int .u64 x3]) (.int .i64 2)).run Tryd.prog w = .ok (.int .u64 x2) w := by kernel_rfl
theorem idx3 (x0 x1 x2 x3 : Int) (w : World) : (Instr.index 62 (.agg #[.int .u64 x0, .int .u64 x1, .int .u64 x2, .int .u64 x3]) (.int .i64 3)).run Tryd.prog w = .ok (.int .u64 x3) w := by kernel_rfl

theorem not_word (x : Nat) (hx : x < 18446744073709551616) : bits .xor .u64 IntKind.u64.max (x : Int) = ((18446744073709551615 - x : Nat) : Int) := by
  show IntKind.u64.wrap ((BitVec.ofInt 64 IntKind.u64.max ^^^ BitVec.ofInt 64 (x : Int)).toNat : Int) = _
  have h1 : BitVec.ofInt 64 IntKind.u64.max = BitVec.allOnes 64 := by decide
  rw [h1, BitVec.allOnes_xor, BitVec.toNat_not, ofInt_u64 x (by omega), IntKind.wrap_u64]
  omega

theorem and_div (y n : Nat) (m : Nat) (hy : y < 18446744073709551616) (hm : m < 18446744073709551616) : bits .and .u64 ((y : Int) / (n : Int)) (m : Int) = ((y / n &&& m : Nat) : Int) := by
  rw [← Int.natCast_ediv]
  exact u64_and_nat _ _ (Nat.lt_of_le_of_lt (Nat.div_le_self _ _) hy) hm
theorem wrap_is (z : Nat) (i : Int) (h : z < 18446744073709551616) (e : i = z) : IntKind.u64.wrap i = (z : Int) := by
  rw [IntKind.wrap_u64, e]; omega

theorem pop_nn (x : Nat) : (0 : Int) ≤ pop x ∧ (pop x : Int) ≤ 64 := by have := pop_le x; omega

end Go.Proofs.YtcglkekilaokaaaDoorC
