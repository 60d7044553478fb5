/-
  WALKS: awake (layer 5).
-/
import Derived.Test.YthiipiflljgbbaaDoorW6
namespace Go.Proofs.YthiipiflljgbbaaDoor
open Go.RowKit

set_option maxRecDepth 20000 in
set_option maxHeartbeats 2000000 in
theorem awake_any (w : World) : Calls Tryd.prog 9 #[] w fun e w' => e = .returned (.bool true) ∧ Below w.heap.size w w' := by
  have B := Below.refl w.heap.size w
  go_enter Tryd.func9, Tryd.ntmps9
  go_wp2_with (first
    | (go_at_call_of 10 (Value.string { data := #[97, 46, 98] }); refine (pmay_is ⟨#[97, 46, 98]⟩ true _ (by decide) (by decide +kernel)).mono ?_; rintro e w1 ⟨rfl, bb⟩; replace B := B.trans (bb.mono B.size); clear bb)
    | (go_at_call_of 10 (Value.string { data := #[37, 52, 49, 95] }); refine (pmay_is ⟨#[37, 52, 49, 95]⟩ true _ (by decide) (by decide +kernel)).mono ?_; rintro e w1 ⟨rfl, bb⟩; replace B := B.trans (bb.mono B.size); clear bb)
    | (go_at_call_of 10 (Value.string { data := #[97, 46, 46, 98] }); refine (pmay_is ⟨#[97, 46, 46, 98]⟩ false _ (by decide) (by decide +kernel)).mono ?_; rintro e w1 ⟨rfl, bb⟩; replace B := B.trans (bb.mono B.size); clear bb)
    | (go_at_call 12; refine (pbad_is ⟨#[97, 46, 46, 98]⟩ 2 _ (by decide) (by decide +kernel)).mono ?_; rintro e w1 ⟨rfl, bb⟩; replace B := B.trans (bb.mono B.size); clear bb)
    | (go_at_call 14; refine (pend_is ⟨#[97, 46, 46, 98]⟩ 1 _ (by decide) (by decide +kernel)).mono ?_; rintro e w1 ⟨rfl, bb⟩; replace B := B.trans (bb.mono B.size); clear bb)
    | (go_at_call 17; refine (psplit_is ⟨#[97, 46, 98]⟩ [[97], [98]] _ (by decide) (by decide +kernel)).mono ?_; rintro e w1 ⟨a, cap, rfl, hS, bb⟩; replace B := B.trans (bb.mono B.size); clear bb hS))
  go_ret
  exact ⟨rfl, B⟩
end Go.Proofs.YthiipiflljgbbaaDoor
