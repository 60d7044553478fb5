/-
  THE WALK of VnameFew.
-/
import Derived.Test.YthiipiflljgbbaaDoorL5
import Derived.Deep.RegionHeld3
namespace Go.Proofs.YthiipiflljgbbaaDoor
open Go.RowKit

theorem str_add (a b : ByteArray) (h : a.size + b.size ≤ maxLen) (W : World) : (Op.stringOp .add a b).run Tryd.prog W = .ok (.string (a ++ b)) W := by
  unfold maxLen at h
  simp [Op.stringOp]
  omega

set_option maxRecDepth 20000 in
set_option maxHeartbeats 2000000 in
theorem few_walk (s : ByteArray) (at_ c : Int) (w : World) (h0 : 0 ≤ at_) (h1 : at_ ≤ 255) (g0 : 0 ≤ c) (g1 : c ≤ 255) :
    Calls Tryd.prog 7 #[.string s, .int .u8 at_, .int .u8 c] w fun e w' => e = .returned (.bool true) ∧ Below w.heap.size w w' := by
  have B := Below.refl w.heap.size w
  by_cases hbig : 200 < s.size
  · go_enter Tryd.func7, Tryd.ntmps7
    go_wp2_with (first
      | (go_at_call 9; refine (awake_any _).mono ?_; rintro e w1 ⟨rfl, bb⟩; replace B := B.trans (bb.mono B.size); clear bb))
    go_ret
    exact ⟨rfl, B⟩
  have hs : s.size ≤ 100000 := by omega
  cases hn : nameB s.data.toList with
  | false =>
    have Hn := hide hn
    clear hn
    go_enter Tryd.func7, Tryd.ntmps7
    go_wp2_with (first
      | (go_at_call 9; refine (awake_any _).mono ?_; rintro e w1 ⟨rfl, bb⟩; replace B := B.trans (bb.mono B.size); clear bb)
      | (go_at_call 10; refine (pmay_is s false _ hs Hn.out).mono ?_; rintro e w1 ⟨rfl, bb⟩; replace B := B.trans (bb.mono B.size); clear bb))
    go_ret
    first | exact ⟨rfl, B⟩ | exact ⟨ret_bool (by simp; omega), B⟩
  | true =>
    have hz0 : ((s.size : Int) + 1) ≠ 0 := by omega
    obtain ⟨k, hk⟩ : ∃ k : Nat, at_ % ((s.size : Int) + 1) = k := ⟨(at_ % ((s.size : Int) + 1)).toNat, (Int.toNat_of_nonneg (Int.emod_nonneg at_ hz0)).symm⟩
    have hk2 : (k : Int) < (s.size : Int) + 1 := by rw [← hk]; exact Int.emod_lt_of_pos _ (by omega)
    have hkt : at_.tmod ((s.size : Int) + 1) = k := by rw [Int.tmod_eq_emod_of_nonneg h0]; exact hk
    have hk3 : k ≤ s.size := by omega
    obtain ⟨j, hj⟩ : ∃ j : Nat, c % 12 = j := ⟨(c % 12).toNat, by omega⟩
    have hj2 : j < 12 := by omega
    obtain ⟨hM, hE, hfz, zM, zE⟩ := few_facts s k j hk3 hj2 (by omega) hn
    have HM := hide hM
    have HE := hide hE
    have Hn := hide hn
    have T0 : Hid True := trivial
    clear hn hk hM hE
    go_enter Tryd.func7, Tryd.ntmps7
    go_wp2_with (first
      | (go_at_call 9; refine (awake_any _).mono ?_; rintro e w1 ⟨rfl, bb⟩; replace B := B.trans (bb.mono B.size); clear bb)
      | (go_at_call 10; have z := T0; refine (pmay_is s true _ hs Hn.out).mono ?_; rintro e w1 ⟨rfl, bb⟩; replace B := B.trans (bb.mono B.size); clear bb T0 z))
    go_region
    replace B := B.drew
    unfold fewS at HM HE hfz zM zE
    generalize (ByteArray.extract ⟨#[123, 125, 44, 58, 42, 43, 35, 47, 59, 63, 38, 32]⟩ j (j + 1)) = O at *
    have i0 : (0 : Int) ≤ (k : Int) := by omega
    have i1 : (k : Int) ≤ (s.size : Int) := by omega
    have e1 : (s.extract 0 k).size = k := by rw [size_list, head_list, List.length_take, ← size_list]; omega
    have e2 : (s.extract k s.size).size = s.size - k := by rw [size_list, cut_list, List.length_drop, ← size_list]
    have e3 : (s.extract 0 k ++ O).size = k + 1 := by rw [ByteArray.size_append, e1, hfz]
    have a1 := str_add (s.extract 0 k) O (by rw [e1, hfz]; unfold maxLen; omega)
    have a2 := str_add (s.extract 0 k ++ O) (s.extract k s.size) (by rw [e3, e2]; unfold maxLen; omega)
    have a3 := str_add s O (by rw [hfz]; unfold maxLen; omega)
    clear hkt hz0 hj
    go_wp2
    go_region_held3 (fun W => Below w.heap.size w W) (first | exact B | exact B.drew) (first | (go_at_call 10; refine (pmay_is ((s.extract 0 k ++ O) ++ s.extract k s.size) false _ zM HM.out).mono ?_; rintro e w2 ⟨rfl, bb⟩; (first | replace B := B.trans (bb.mono B.size) | replace B := B.drew.trans (bb.mono B.size)); clear bb) | (go_at_call 14; refine (pend_is (s ++ O) s.size _ zE HE.out).mono ?_; rintro e w2 ⟨rfl, bb⟩; (first | replace B := B.trans (bb.mono B.size) | replace B := B.drew.trans (bb.mono B.size)); clear bb))
    all_goals go_wp2
    all_goals go_ret
    all_goals (first | exact ⟨rfl, B⟩ | exact ⟨ret_bool (by simp; omega), B⟩)
end Go.Proofs.YthiipiflljgbbaaDoor
