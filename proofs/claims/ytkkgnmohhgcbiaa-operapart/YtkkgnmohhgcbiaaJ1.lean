/-
  WALKS: what is an operator: the program's (layer 7), and all of them (layer 10).
-/
import Derived.Test.YtkkgnmohhgcbiaaR1
import Derived.Test.YtkkgnmohhgcbiaaShelf
namespace Go.Proofs.Ytkkgnmohhgcbiaa
open Go.RowKit

theorem op_index : ∀ n : Fin 256, decide (0 ≤ Lib.indexByte [43, 35, 46, 47, 59, 63, 38] n.val.toUInt8) = opN n.val := by decide +kernel
theorem written_is (c : Int) (b : Bool) (w : World) (h0 : 0 ≤ c) (h1 : c ≤ 255) (h : opN c.toNat = b) :
    Calls Try.prog 16 #[.int .u8 c] w fun e w' => e = .returned (.bool b) ∧ w' = w := by
  have e := op_index ⟨c.toNat, by omega⟩
  rw [h] at e
  have E := hide e
  clear e
  go_enter Try.func16, Try.ntmps16
  go_wp2_with (go_at_call 17; refine (strings_IndexByte _ _ _).mono ?_; rintro e w' ⟨rfl, hw⟩; rw [hw])
  go_ret
  exact ⟨ret_bool E.out, rfl⟩
theorem opZ_opN : ∀ n : Fin 256, opZ n.val = (decide (n.val = 0) || opN n.val) := by decide +kernel
theorem poper_is (n : Int) (b : Bool) (w : World) (h0 : 0 ≤ n) (h1 : n ≤ 255) (h : opZ n.toNat = b) : Calls Try.prog 14 #[.int .u8 n] w fun e w' => e = .returned (.bool b) ∧ w' = w := by
  have e := opZ_opN ⟨n.toNat, by omega⟩
  rw [h] at e
  subst e
  by_cases hc : n = 0
  · subst hc
    go_enter Try.func14, Try.ntmps14
    go_wp2
    go_ret
    exact ⟨rfl, rfl⟩
  · have hz : (n == 0) = false := by simp; omega
    have hz' : decide (n.toNat = 0) = false := by simp; omega
    have Hz' := hide hz'
    clear hz'
    have E : Hid (opN n.toNat = opN n.toNat) := rfl
    go_enter Try.func14, Try.ntmps14
    go_wp2_with (go_at_call 16; refine (written_is _ _ _ h0 h1 E.out).mono ?_; rintro e w' ⟨rfl, hw⟩; rw [hw])
    go_ret
    exact ⟨ret_bool (by rw [Hz'.out]; simp), rfl⟩
end Go.Proofs.Ytkkgnmohhgcbiaa
