/-
  THE WALK of CharsClasses.
-/
import Derived.Test.YthflhfpbbnlddaaW9
namespace Go.Proofs.Ythflhfpbbnlddaa
open Go.RowKit

set_option maxHeartbeats 2000000 in
theorem classes_walk (c : Int) (w : World) (h0 : 0 ≤ c) (h1 : c ≤ 255) :
    Calls Try.prog 6 #[.int .u8 c] w fun e w' => e = .returned (.bool true) ∧ Below w.heap.size w w' := by
  have B := Below.refl w.heap.size w
  have K := zero_ok
  go_enter Try.func6, Try.ntmps6
  go_wp2_with (first | (go_at_call 9; refine (awake_any _).mono ?_; rintro e w1 ⟨rfl, bb⟩; replace B := B.trans (bb.mono B.size); clear bb) | (go_at_call 21; refine (digit_any _).mono ?_; rintro e w1 ⟨rfl, bb⟩; replace B := B.trans (bb.mono B.size); clear bb; replace K : digitQ.ok := digit_ok; simp only [qv]) | (go_at_call 22; refine (rdigit_any _ _ h0 h1).mono ?_; rintro e w1 ⟨rfl, hw⟩; rw [hw]; clear hw) | (go_at_call 23; refine (alpha_any _).mono ?_; rintro e w1 ⟨rfl, bb⟩; replace B := B.trans (bb.mono B.size); clear bb; replace K : alphaQ.ok := alpha_ok; simp only [qv]) | (go_at_call 24; refine (ralpha_any _ _ h0 h1).mono ?_; rintro e w1 ⟨rfl, hw⟩; rw [hw]; clear hw) | (go_at_call 25; refine (hex_any _).mono ?_; rintro e w1 ⟨rfl, bb⟩; replace B := B.trans (bb.mono B.size); clear bb; replace K : hexQ.ok := hex_ok; simp only [qv]) | (go_at_call 26; refine (rhex_any _ _ h0 h1).mono ?_; rintro e w1 ⟨rfl, hw⟩; rw [hw]; clear hw) | (go_at_call 27; refine (word_any _).mono ?_; rintro e w1 ⟨rfl, bb⟩; replace B := B.trans (bb.mono B.size); clear bb; replace K : wordQ.ok := word_ok; simp only [qv]) | (go_at_call 28; refine (rword_any _ _ h0 h1).mono ?_; rintro e w1 ⟨rfl, hw⟩; rw [hw]; clear hw) | (go_at_call 29; refine (unres_any _).mono ?_; rintro e w1 ⟨rfl, bb⟩; replace B := B.trans (bb.mono B.size); clear bb; replace K : unresQ.ok := unres_ok; simp only [qv]) | (go_at_call 30; refine (runres_any _ _ h0 h1).mono ?_; rintro e w1 ⟨rfl, hw⟩; rw [hw]; clear hw) | (go_at_call 31; refine (res_any _).mono ?_; rintro e w1 ⟨rfl, bb⟩; replace B := B.trans (bb.mono B.size); clear bb; replace K : resQ.ok := res_ok; simp only [qv]) | (go_at_call 32; refine (rres_any _ _ h0 h1).mono ?_; rintro e w1 ⟨rfl, hw⟩; rw [hw]; clear hw) | (go_at_call 33; refine (lit_any _).mono ?_; rintro e w1 ⟨rfl, bb⟩; replace B := B.trans (bb.mono B.size); clear bb; replace K : litQ.ok := lit_ok; simp only [qv]) | (go_at_call 34; refine (rlit_any _ _ h0 h1).mono ?_; rintro e w1 ⟨rfl, hw⟩; rw [hw]; clear hw) | (go_at_call 11; refine (has_any _ _ _ K h0 h1).mono ?_; rintro e w1 ⟨rfl, bb⟩; replace B := B.trans (bb.mono B.size); clear bb))
  go_ret
  exact ⟨rfl, B⟩
end Go.Proofs.Ythflhfpbbnlddaa
