/-
  THE WALK of SpecBegins.
-/
import Derived.Test.YtcglkekilaokaaaDoorL0
namespace Go.Proofs.YtcglkekilaokaaaDoor
open Go.RowKit

set_option maxRecDepth 20000 in
set_option maxHeartbeats 4000000 in
theorem begins_walk (s more : ByteArray) (w : World) (RN : Ran w) :
    Calls Tryd.prog 6 #[.string s, .string more] w fun e w' => e = .returned (.bool true) ∧ Below w.heap.size w w' := by
  have B := Below.refl w.heap.size w
  by_cases hb1 : 200 < s.size
  · go_enter Tryd.func6, Tryd.ntmps6
    go_wp2_with (first
      | (go_at_call 9; refine (awake_any _ (by first | with_reducible exact RN.at B | with_reducible exact RN.at (B.alloc B.size _) | with_reducible exact RN.at T.below | with_reducible exact RN.at T.drew.below | with_reducible exact RN.alloc _ | with_reducible exact RN)).mono ?_; rintro e w1 ⟨rfl, bb⟩; replace B := B.trans (bb.mono B.size); clear bb))
    go_ret
    first | exact ⟨rfl, B⟩ | exact ⟨ret_bool (by simp [*]), B⟩ | exact ⟨ret_bool (by simp [*]; omega), B⟩ | exact ⟨rfl, B.alloc B.size _⟩ | exact ⟨ret_bool (by simp [*]), B.alloc B.size _⟩ | exact ⟨ret_bool (by simp [*]; omega), B.alloc B.size _⟩
  by_cases hb2 : 200 < more.size
  · go_enter Tryd.func6, Tryd.ntmps6
    go_wp2_with (first
      | (go_at_call 9; refine (awake_any _ (by first | with_reducible exact RN.at B | with_reducible exact RN.at (B.alloc B.size _) | with_reducible exact RN.at T.below | with_reducible exact RN.at T.drew.below | with_reducible exact RN.alloc _ | with_reducible exact RN)).mono ?_; rintro e w1 ⟨rfl, bb⟩; replace B := B.trans (bb.mono B.size); clear bb))
    go_ret
    first | exact ⟨rfl, B⟩ | exact ⟨ret_bool (by simp [*]), B⟩ | exact ⟨ret_bool (by simp [*]; omega), B⟩ | exact ⟨rfl, B.alloc B.size _⟩ | exact ⟨ret_bool (by simp [*]), B.alloc B.size _⟩ | exact ⟨ret_bool (by simp [*]; omega), B.alloc B.size _⟩
  have z1 : s.size ≤ 80000 := by omega
  obtain ⟨N, hN⟩ : ∃ N, badX s.data.toList = N := ⟨_, rfl⟩
  have hle := tk_bad s
  rw [hN] at hle
  obtain ⟨M, eM⟩ : ∃ S : ByteArray, s ++ more = S := ⟨_, rfl⟩
  have zM : M.size ≤ 80000 := by rw [← eM, ByteArray.size_append]; omega
  have hMl : M.data.toList = s.data.toList ++ more.data.toList := by rw [← eM, app_list]
  obtain ⟨K, hK⟩ : ∃ K, badX M.data.toList = K := ⟨_, rfl⟩
  have HA4 : Hid ((badX s.data.toList : Int) = N) := congrArg Nat.cast hN
  have HC4 : Hid ((badX M.data.toList : Int) = K) := congrArg Nat.cast hK
  by_cases hw : N = s.size
  · subst hw
    obtain ⟨A1, hA1⟩ : ∃ x, tkN s = x := ⟨_, rfl⟩
    obtain ⟨A2, hA2⟩ : ∃ x, tkM s = x := ⟨_, rfl⟩
    obtain ⟨A3, hA3⟩ : ∃ x, tkS s = x := ⟨_, rfl⟩
    obtain ⟨A5, hA5⟩ : ∃ x, tkE s = x := ⟨_, rfl⟩
    have HA1 := hide hA1
    have HA2 := hide hA2
    have HA3 := hide hA3
    have HA5 := hide hA5
    clear hA1 hA2 hA3 hA5
    obtain ⟨C1, hC1⟩ : ∃ x, tkN M = x := ⟨_, rfl⟩
    obtain ⟨C2, hC2⟩ : ∃ x, tkM M = x := ⟨_, rfl⟩
    obtain ⟨C3, hC3⟩ : ∃ x, tkS M = x := ⟨_, rfl⟩
    obtain ⟨C5, hC5⟩ : ∃ x, tkE M = x := ⟨_, rfl⟩
    have HC1 := hide hC1
    have HC2 := hide hC2
    have HC3 := hide hC3
    have HC5 := hide hC5
    clear hC1 hC2 hC3 hC5
    clear hK hMl hN
    have T0 : Hid True := trivial
    have T1 : Hid True := trivial
    have T2 : Hid True := trivial
    go_enter Tryd.func6, Tryd.ntmps6
    go_wp2_with (first
      | (go_at_call 9; refine (awake_any _ (by first | with_reducible exact RN.at B | with_reducible exact RN.at (B.alloc B.size _) | with_reducible exact RN.at T.below | with_reducible exact RN.at T.drew.below | with_reducible exact RN.alloc _ | with_reducible exact RN)).mono ?_; rintro e w1 ⟨rfl, bb⟩; replace B := B.trans (bb.mono B.size); clear bb)
      | (go_at_call 10; have z := T0; refine (pxtk_is s A1 A2 A3 s.size A5 _ z1 HA1.out HA2.out HA3.out HA4.out HA5.out (by first | with_reducible exact RN.at B | with_reducible exact RN.at (B.alloc B.size _) | with_reducible exact RN.at T.below | with_reducible exact RN.at T.drew.below | with_reducible exact RN.alloc _ | with_reducible exact RN)).mono ?_; rintro e w2 ⟨rfl, bb⟩; replace B := B.trans (bb.mono B.size); clear bb T0 z)
      | (go_at_call 10; have z := T1; refine (pxtk_is s A1 A2 A3 s.size A5 _ z1 HA1.out HA2.out HA3.out HA4.out HA5.out (by first | with_reducible exact RN.at B | with_reducible exact RN.at (B.alloc B.size _) | with_reducible exact RN.at T.below | with_reducible exact RN.at T.drew.below | with_reducible exact RN.alloc _ | with_reducible exact RN)).mono ?_; rintro e w3 ⟨rfl, bb⟩; replace B := bel_alloc B bb; clear bb T1 z)
      | (go_at_call 10; have z := T2; refine (pxtk_is M C1 C2 C3 K C5 _ zM HC1.out HC2.out HC3.out HC4.out HC5.out (by first | with_reducible exact RN.at B | with_reducible exact RN.at (B.alloc B.size _) | with_reducible exact RN.at T.below | with_reducible exact RN.at T.drew.below | with_reducible exact RN.alloc _ | with_reducible exact RN)).mono ?_; rintro e w4 ⟨rfl, bb⟩; replace B := bel_alloc B bb; clear bb T2 z))
    go_ret
    first | exact ⟨rfl, B⟩ | exact ⟨ret_bool (by simp [*]), B⟩ | exact ⟨ret_bool (by simp [*]; omega), B⟩ | exact ⟨rfl, B.alloc B.size _⟩ | exact ⟨ret_bool (by simp [*]), B.alloc B.size _⟩ | exact ⟨ret_bool (by simp [*]; omega), B.alloc B.size _⟩
  · have hlt : N < s.size := by omega
    have hb : badX s.data.toList ≠ s.data.toList.length := by rw [hN, ← size_list]; exact hw
    have hKN : K = N := by rw [← hK, hMl, badX_more _ _ hb, hN]
    subst hKN
    have i1 := is_bad hb
    have i2 : isX M.data.toList = false := is_bad (by rw [hK, hMl, List.length_append, ← size_list, ← size_list]; omega)
    obtain ⟨S1, e1⟩ : ∃ S : ByteArray, s.extract 0 K = S := ⟨_, rfl⟩
    have hS : S1.data.toList = s.data.toList.take K := by rw [← e1, head_list]
    have hSb : badX S1.data.toList = K := by rw [hS, ← hN, badX_take]
    have zS : S1.size ≤ 80000 := by rw [size_list, hS, List.length_take, ← size_list]; omega
    have HB4 : Hid ((badX S1.data.toList : Int) = K) := congrArg Nat.cast hSb
    have HA5 : Hid (tkE s = 2) := (tk_none i1).2.2.2
    have HC5 : Hid (tkE M = 2) := (tk_none i2).2.2.2
    obtain ⟨A1, hA1⟩ : ∃ x, tkN s = x := ⟨_, rfl⟩
    obtain ⟨A2, hA2⟩ : ∃ x, tkM s = x := ⟨_, rfl⟩
    obtain ⟨A3, hA3⟩ : ∃ x, tkS s = x := ⟨_, rfl⟩
    have HA1 := hide hA1
    have HA2 := hide hA2
    have HA3 := hide hA3
    clear hA1 hA2 hA3
    obtain ⟨C1, hC1⟩ : ∃ x, tkN M = x := ⟨_, rfl⟩
    obtain ⟨C2, hC2⟩ : ∃ x, tkM M = x := ⟨_, rfl⟩
    obtain ⟨C3, hC3⟩ : ∃ x, tkS M = x := ⟨_, rfl⟩
    have HC1 := hide hC1
    have HC2 := hide hC2
    have HC3 := hide hC3
    clear hC1 hC2 hC3
    obtain ⟨D1, hD1⟩ : ∃ x, tkN S1 = x := ⟨_, rfl⟩
    obtain ⟨D2, hD2⟩ : ∃ x, tkM S1 = x := ⟨_, rfl⟩
    obtain ⟨D3, hD3⟩ : ∃ x, tkS S1 = x := ⟨_, rfl⟩
    obtain ⟨D5, hD5⟩ : ∃ x, tkE S1 = x := ⟨_, rfl⟩
    have HD1 := hide hD1
    have HD2 := hide hD2
    have HD3 := hide hD3
    have HD5 := hide hD5
    clear hD1 hD2 hD3 hD5
    clear hK hMl hN hb i1 i2 hS hSb
    have T0 : Hid True := trivial
    have T1 : Hid True := trivial
    have T2 : Hid True := trivial
    go_enter Tryd.func6, Tryd.ntmps6
    go_wp2_with (first
      | (go_at_call 9; refine (awake_any _ (by first | with_reducible exact RN.at B | with_reducible exact RN.at (B.alloc B.size _) | with_reducible exact RN.at T.below | with_reducible exact RN.at T.drew.below | with_reducible exact RN.alloc _ | with_reducible exact RN)).mono ?_; rintro e w1 ⟨rfl, bb⟩; replace B := B.trans (bb.mono B.size); clear bb)
      | (go_at_call 10; have z := T0; refine (pxtk_is s A1 A2 A3 K 2 _ z1 HA1.out HA2.out HA3.out HA4.out HA5.out (by first | with_reducible exact RN.at B | with_reducible exact RN.at (B.alloc B.size _) | with_reducible exact RN.at T.below | with_reducible exact RN.at T.drew.below | with_reducible exact RN.alloc _ | with_reducible exact RN)).mono ?_; rintro e w2 ⟨rfl, bb⟩; replace B := B.trans (bb.mono B.size); clear bb T0 z)
      | (go_at_call 10; have z := T1; refine (pxtk_is S1 D1 D2 D3 K D5 _ zS HD1.out HD2.out HD3.out HB4.out HD5.out (by first | with_reducible exact RN.at B | with_reducible exact RN.at (B.alloc B.size _) | with_reducible exact RN.at T.below | with_reducible exact RN.at T.drew.below | with_reducible exact RN.alloc _ | with_reducible exact RN)).mono ?_; rintro e w3 ⟨rfl, bb⟩; replace B := bel_alloc B bb; clear bb T1 z)
      | (go_at_call 10; have z := T2; refine (pxtk_is M C1 C2 C3 K 2 _ zM HC1.out HC2.out HC3.out HC4.out HC5.out (by first | with_reducible exact RN.at B | with_reducible exact RN.at (B.alloc B.size _) | with_reducible exact RN.at T.below | with_reducible exact RN.at T.drew.below | with_reducible exact RN.alloc _ | with_reducible exact RN)).mono ?_; rintro e w4 ⟨rfl, bb⟩; replace B := bel_alloc B bb; clear bb T2 z))
    go_ret
    first | exact ⟨rfl, B⟩ | exact ⟨ret_bool (by simp [*]), B⟩ | exact ⟨ret_bool (by simp [*]; omega), B⟩ | exact ⟨rfl, B.alloc B.size _⟩ | exact ⟨ret_bool (by simp [*]), B.alloc B.size _⟩ | exact ⟨ret_bool (by simp [*]; omega), B.alloc B.size _⟩
end Go.Proofs.YtcglkekilaokaaaDoor
