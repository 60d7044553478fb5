/-
  THE WALK of VnameBegins.
-/
import Derived.Test.YthiipiflljgbbaaDoorW7
namespace Go.Proofs.YthiipiflljgbbaaDoor
open Go.RowKit

set_option maxRecDepth 20000 in
set_option maxHeartbeats 2000000 in
theorem begins_walk (s more : ByteArray) (w : World) :
    Calls Tryd.prog 6 #[.string s, .string more] w fun e w' => e = .returned (.bool true) ∧ Below w.heap.size w w' := by
  have B := Below.refl w.heap.size w
  by_cases hbig : 200 < s.size
  · go_enter Tryd.func6, Tryd.ntmps6
    go_wp2_with (first
      | (go_at_call 9; refine (awake_any _).mono ?_; rintro e w1 ⟨rfl, bb⟩; replace B := B.trans (bb.mono B.size); clear bb))
    go_ret
    exact ⟨rfl, B⟩
  by_cases hbig2 : 200 < more.size
  · go_enter Tryd.func6, Tryd.ntmps6
    go_wp2_with (first
      | (go_at_call 9; refine (awake_any _).mono ?_; rintro e w1 ⟨rfl, bb⟩; replace B := B.trans (bb.mono B.size); clear bb))
    go_ret
    exact ⟨rfl, B⟩
  have hs : s.size ≤ 100000 := by omega
  obtain ⟨N, hN⟩ : ∃ N, badN s.data.toList = N := ⟨_, rfl⟩
  obtain ⟨E, hE⟩ : ∃ N, endN s.data.toList = N := ⟨_, rfl⟩
  have h1 : N ≤ s.size := by rw [← hN, size_list]; exact bad_le _
  have h2 : E ≤ N := by rw [← hN, ← hE]; exact end_bad _
  have hw := end_whole s.data.toList
  rw [hE, ← size_list] at hw
  have H0 : Hid ((badN s.data.toList : Int) = N) := congrArg Nat.cast hN
  have HE : Hid ((endN s.data.toList : Int) = E) := congrArg Nat.cast hE
  have H1 : Hid ((badN (s.extract 0 N).data.toList : Int) = N) := by show (badN (s.extract 0 N).data.toList : Int) = N; rw [head_list, ← hN, bad_take]
  have z1 : (s.extract 0 N).size ≤ 100000 := by rw [size_list, head_list, List.length_take, ← size_list]; omega
  have z3 : (s.extract 0 E).size ≤ 100000 := by rw [size_list, head_list, List.length_take, ← size_list]; omega
  have z2 : (s ++ more).size ≤ 100000 := by rw [ByteArray.size_append]; omega
  have H2 : Hid (N ≠ s.size → (badN (s ++ more).data.toList : Int) = N) := fun h => by
    rw [app_list, bad_more _ _ (by rw [hN, ← size_list]; exact h), hN]
  have H3 : Hid (E ≠ 0 → nameB (s.extract 0 E).data.toList = true) := fun h => by
    have := end_name s.data.toList s.data.toList.length (by unfold endN at hE; omega)
    rw [head_list, ← hE]; exact this
  have T0 : Hid True := trivial
  have T1 : Hid True := trivial
  have U0 : Hid True := trivial
  clear hN hE
  by_cases hN : N = s.size
  · subst hN
    clear H2
    by_cases hE0 : E = 0
    · subst hE0
      have hm : nameB s.data.toList = false := by rw [hw]; simp
      have Hm := hide hm
      clear hw hm U0
      go_enter Tryd.func6, Tryd.ntmps6
      go_wp2_with (first
        | (go_at_call 9; refine (awake_any _).mono ?_; rintro e w1 ⟨rfl, bb⟩; replace B := B.trans (bb.mono B.size); clear bb)
        | (go_at_call 12; have z := T0; refine (pbad_is s s.size _ hs H0.out).mono ?_; rintro e w1 ⟨rfl, bb⟩; replace B := B.trans (bb.mono B.size); clear bb T0 z)
        | (go_at_call 14; refine (pend_is s _ _ hs HE.out).mono ?_; rintro e w1 ⟨rfl, bb⟩; replace B := B.trans (bb.mono B.size); clear bb)
        | (go_at_call 12; have z := T1; refine (pbad_is s s.size _ hs H0.out).mono ?_; rintro e w1 ⟨rfl, bb⟩; replace B := B.trans (bb.mono B.size); clear bb T1 z)
        | (go_at_call 10; refine (pmay_is s false _ hs Hm.out).mono ?_; rintro e w1 ⟨rfl, bb⟩; replace B := B.trans (bb.mono B.size); clear bb))
      all_goals go_ret
      all_goals (first | exact ⟨rfl, B⟩ | exact ⟨ret_bool (by simp; omega), B⟩)
    · have fE : ((E : Int) == 0) = false := beq_eq_false_iff_ne.2 (by omega)
      by_cases hEs : E = s.size
      · subst hEs
        have hm : nameB s.data.toList = true := by rw [hw]; simp; omega
        have Hm := hide hm
        have H4 := hide (H3.out hE0)
        clear hw hm
        go_enter Tryd.func6, Tryd.ntmps6
        go_wp2_with (first
          | (go_at_call 9; refine (awake_any _).mono ?_; rintro e w1 ⟨rfl, bb⟩; replace B := B.trans (bb.mono B.size); clear bb)
          | (go_at_call 12; have z := T0; refine (pbad_is s s.size _ hs H0.out).mono ?_; rintro e w1 ⟨rfl, bb⟩; replace B := B.trans (bb.mono B.size); clear bb T0 z)
          | (go_at_call 14; refine (pend_is s s.size _ hs HE.out).mono ?_; rintro e w1 ⟨rfl, bb⟩; replace B := B.trans (bb.mono B.size); clear bb)
          | (go_at_call 10; have z := U0; refine (pmay_is s true _ hs Hm.out).mono ?_; rintro e w1 ⟨rfl, bb⟩; replace B := B.trans (bb.mono B.size); clear bb U0 z)
          | (go_at_call 12; have z := T1; refine (pbad_is s s.size _ hs H0.out).mono ?_; rintro e w1 ⟨rfl, bb⟩; replace B := B.trans (bb.mono B.size); clear bb T1 z)
          | (go_at_call 10; refine (pmay_is s true _ hs Hm.out).mono ?_; rintro e w1 ⟨rfl, bb⟩; replace B := B.trans (bb.mono B.size); clear bb))
        all_goals go_ret
        all_goals (first | exact ⟨rfl, B⟩ | exact ⟨ret_bool (by simp; omega), B⟩)
      · have fS : ((E : Int) == (s.size : Int)) = false := beq_eq_false_iff_ne.2 (by omega)
        have hm : nameB s.data.toList = false := by rw [hw]; simp [hEs]
        have Hm := hide hm
        have H4 := hide (H3.out hE0)
        clear hw hm
        go_enter Tryd.func6, Tryd.ntmps6
        go_wp2_with (first
          | (go_at_call 9; refine (awake_any _).mono ?_; rintro e w1 ⟨rfl, bb⟩; replace B := B.trans (bb.mono B.size); clear bb)
          | (go_at_call 12; have z := T0; refine (pbad_is s s.size _ hs H0.out).mono ?_; rintro e w1 ⟨rfl, bb⟩; replace B := B.trans (bb.mono B.size); clear bb T0 z)
          | (go_at_call 14; refine (pend_is s E _ hs HE.out).mono ?_; rintro e w1 ⟨rfl, bb⟩; replace B := B.trans (bb.mono B.size); clear bb)
          | (go_at_call 10; have z := U0; refine (pmay_is (s.extract 0 E) true _ z3 H4.out).mono ?_; rintro e w1 ⟨rfl, bb⟩; replace B := B.trans (bb.mono B.size); clear bb U0 z)
          | (go_at_call 12; have z := T1; refine (pbad_is s s.size _ hs H0.out).mono ?_; rintro e w1 ⟨rfl, bb⟩; replace B := B.trans (bb.mono B.size); clear bb T1 z)
          | (go_at_call 10; refine (pmay_is s false _ hs Hm.out).mono ?_; rintro e w1 ⟨rfl, bb⟩; replace B := B.trans (bb.mono B.size); clear bb))
        all_goals go_ret
        all_goals (first | exact ⟨rfl, B⟩ | exact ⟨ret_bool (by simp; omega), B⟩)
  · have fN : ((N : Int) == (s.size : Int)) = false := beq_eq_false_iff_ne.2 (by omega)
    have H5 := hide (H2.out hN)
    have hEs : E ≠ s.size := by omega
    have fS : ((E : Int) == (s.size : Int)) = false := beq_eq_false_iff_ne.2 (by omega)
    have hm : nameB s.data.toList = false := by rw [hw]; simp [hEs]
    have Hm := hide hm
    clear hw hm
    by_cases hE0 : E = 0
    · subst hE0
      clear U0
      go_enter Tryd.func6, Tryd.ntmps6
      go_wp2_with (first
        | (go_at_call 9; refine (awake_any _).mono ?_; rintro e w1 ⟨rfl, bb⟩; replace B := B.trans (bb.mono B.size); clear bb)
        | (go_at_call 12; have z := T0; refine (pbad_is s N _ hs H0.out).mono ?_; rintro e w1 ⟨rfl, bb⟩; replace B := B.trans (bb.mono B.size); clear bb T0 z)
        | (go_at_call 14; refine (pend_is s _ _ hs HE.out).mono ?_; rintro e w1 ⟨rfl, bb⟩; replace B := B.trans (bb.mono B.size); clear bb)
        | (go_at_call 12; have z := T1; refine (pbad_is (s.extract 0 N) N _ z1 H1.out).mono ?_; rintro e w1 ⟨rfl, bb⟩; replace B := B.trans (bb.mono B.size); clear bb T1 z)
        | (go_at_call 12; refine (pbad_is (s ++ more) N _ z2 H5.out).mono ?_; rintro e w1 ⟨rfl, bb⟩; replace B := B.trans (bb.mono B.size); clear bb)
        | (go_at_call 10; refine (pmay_is s false _ hs Hm.out).mono ?_; rintro e w1 ⟨rfl, bb⟩; replace B := B.trans (bb.mono B.size); clear bb))
      all_goals go_ret
      all_goals (first | exact ⟨rfl, B⟩ | exact ⟨ret_bool (by simp; omega), B⟩)
    · have fE : ((E : Int) == 0) = false := beq_eq_false_iff_ne.2 (by omega)
      have H4 := hide (H3.out hE0)
      go_enter Tryd.func6, Tryd.ntmps6
      go_wp2_with (first
        | (go_at_call 9; refine (awake_any _).mono ?_; rintro e w1 ⟨rfl, bb⟩; replace B := B.trans (bb.mono B.size); clear bb)
        | (go_at_call 12; have z := T0; refine (pbad_is s N _ hs H0.out).mono ?_; rintro e w1 ⟨rfl, bb⟩; replace B := B.trans (bb.mono B.size); clear bb T0 z)
        | (go_at_call 14; refine (pend_is s E _ hs HE.out).mono ?_; rintro e w1 ⟨rfl, bb⟩; replace B := B.trans (bb.mono B.size); clear bb)
        | (go_at_call 10; have z := U0; refine (pmay_is (s.extract 0 E) true _ z3 H4.out).mono ?_; rintro e w1 ⟨rfl, bb⟩; replace B := B.trans (bb.mono B.size); clear bb U0 z)
        | (go_at_call 12; have z := T1; refine (pbad_is (s.extract 0 N) N _ z1 H1.out).mono ?_; rintro e w1 ⟨rfl, bb⟩; replace B := B.trans (bb.mono B.size); clear bb T1 z)
        | (go_at_call 12; refine (pbad_is (s ++ more) N _ z2 H5.out).mono ?_; rintro e w1 ⟨rfl, bb⟩; replace B := B.trans (bb.mono B.size); clear bb)
        | (go_at_call 10; refine (pmay_is s false _ hs Hm.out).mono ?_; rintro e w1 ⟨rfl, bb⟩; replace B := B.trans (bb.mono B.size); clear bb))
      all_goals go_ret
      all_goals (first | exact ⟨rfl, B⟩ | exact ⟨ret_bool (by simp; omega), B⟩)
end Go.Proofs.YthiipiflljgbbaaDoor
