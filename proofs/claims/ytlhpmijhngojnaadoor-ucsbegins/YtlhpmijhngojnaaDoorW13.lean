/-
  WALKS: awake (layer 4).
-/
import Derived.Test.YtlhpmijhngojnaaDoorW12
namespace Go.Proofs.YtlhpmijhngojnaaDoor
open Go.RowKit

theorem aw_c : takeC [194, 160, 120] = 160 := by decide +kernel
theorem aw_n : takeN [194, 160, 120] = 2 := by decide +kernel
set_option maxRecDepth 20000 in
set_option maxHeartbeats 1000000 in
theorem awake_any (w : World) (R : Ran w) : Calls Tryd.prog 9 #[] w fun e w' => e = .returned (.bool true) ∧ Below w.heap.size w w' := by
  have B := Below.refl w.heap.size w
  have R1 := hide R
  clear R
  go_enter Tryd.func9, Tryd.ntmps9
  go_wp2_with (first
    | (go_at_call 10; refine (ptake_is ⟨#[194, 160, 120]⟩ 160 2 _ (R1.out.next B) (by decide) aw_c (congrArg Nat.cast aw_n)).mono ?_; rintro e w1 ⟨rfl, bb⟩; replace B := B.trans (bb.mono B.size); clear bb)
    | (go_at_call_of 14 (Value.string { data := #[194] }); refine (pfits_is ⟨#[194]⟩ true _ (R1.out.next B) (by decide +kernel)).mono ?_; rintro e w1 ⟨rfl, bb⟩; replace B := B.trans (bb.mono B.size); clear bb)
    | (go_at_call_of 14 (Value.string { data := #[194, 160] }); refine (pfits_is ⟨#[194, 160]⟩ true _ (R1.out.next B) (by decide +kernel)).mono ?_; rintro e w1 ⟨rfl, bb⟩; replace B := B.trans (bb.mono B.size); clear bb)
    | (go_at_call_of 14 (Value.string { data := #[194, 128] }); refine (pfits_is ⟨#[194, 128]⟩ false _ (R1.out.next B) (by decide +kernel)).mono ?_; rintro e w1 ⟨rfl, bb⟩; replace B := B.trans (bb.mono B.size); clear bb)
    | (go_at_call_of 14 (Value.string { data := #[97] }); refine (pfits_is ⟨#[97]⟩ false _ (R1.out.next B) (by decide +kernel)).mono ?_; rintro e w1 ⟨rfl, bb⟩; replace B := B.trans (bb.mono B.size); clear bb)
    | (go_at_call_of 12 (Value.int IntKind.i64 160); refine (pmay_is 160 true _ (R1.out.next B) (by decide +kernel)).mono ?_; rintro e w1 ⟨rfl, bb⟩; replace B := B.trans (bb.mono B.size); clear bb)
    | (go_at_call_of 12 (Value.int IntKind.i64 159); refine (pmay_is 159 false _ (R1.out.next B) (by decide +kernel)).mono ?_; rintro e w1 ⟨rfl, bb⟩; replace B := B.trans (bb.mono B.size); clear bb))
  go_ret
  exact ⟨rfl, B⟩
end Go.Proofs.YtlhpmijhngojnaaDoor
