/-
  THE WALK of SpecEnds.
-/
import Derived.Test.YtcglkekilaokaaaDoorL0
namespace Go.Proofs.YtcglkekilaokaaaDoor
open Go.RowKit

set_option maxRecDepth 20000 in
set_option maxHeartbeats 4000000 in
theorem ends_walk (name : ByteArray) (c : Int) (w : World) (RN : Ran w) (h0 : 0 ≤ c) (h1 : c ≤ 255) :
    Calls Tryd.prog 7 #[.string name, .int .u8 c] w fun e w' => e = .returned (.bool true) ∧ Below w.heap.size w w' := by
  have B := Below.refl w.heap.size w
  by_cases hb1 : 200 < name.size
  · go_enter Tryd.func7, Tryd.ntmps7
    go_wp2_with (first
      | (go_at_call 9; refine (awake_any _ (by first | with_reducible exact RN.at B | with_reducible exact RN.at (B.alloc B.size _) | with_reducible exact RN.at T.below | with_reducible exact RN.at T.drew.below | with_reducible exact RN.alloc _ | with_reducible exact RN)).mono ?_; rintro e w1 ⟨rfl, bb⟩; replace B := B.trans (bb.mono B.size); clear bb))
    go_ret
    first | exact ⟨rfl, B⟩ | exact ⟨ret_bool (by simp [*]), B⟩ | exact ⟨ret_bool (by simp [*]; omega), B⟩ | exact ⟨rfl, B.alloc B.size _⟩ | exact ⟨ret_bool (by simp [*]), B.alloc B.size _⟩ | exact ⟨ret_bool (by simp [*]; omega), B.alloc B.size _⟩
  have z1 : name.size ≤ 1000000 := by omega
  have z2 : name.size ≤ 80000 := by omega
  cases hn : nameB name.data.toList with
  | false =>
    have HN := hide hn
    clear hn
    go_enter Tryd.func7, Tryd.ntmps7
    go_wp2_with (first
      | (go_at_call 9; refine (awake_any _ (by first | with_reducible exact RN.at B | with_reducible exact RN.at (B.alloc B.size _) | with_reducible exact RN.at T.below | with_reducible exact RN.at T.drew.below | with_reducible exact RN.alloc _ | with_reducible exact RN)).mono ?_; rintro e w1 ⟨rfl, bb⟩; replace B := B.trans (bb.mono B.size); clear bb)
      | (go_at_call 16; refine (rmay_is name false _ HN.out).mono ?_; rintro e w' ⟨rfl, hw⟩; rw [hw]; clear hw))
    go_ret
    first | exact ⟨rfl, B⟩ | exact ⟨ret_bool (by simp [*]), B⟩ | exact ⟨ret_bool (by simp [*]; omega), B⟩ | exact ⟨rfl, B.alloc B.size _⟩ | exact ⟨ret_bool (by simp [*]), B.alloc B.size _⟩ | exact ⟨ret_bool (by simp [*]; omega), B.alloc B.size _⟩
  | true =>
    have HN := hide hn
    have hcv := fun W => conv_one W c h0 h1
    obtain ⟨O, hO⟩ : ∃ m : ByteArray, (⟨#[c.toNat.toUInt8]⟩ : ByteArray) = m := ⟨_, rfl⟩
    rw [hO] at hcv
    have hOz : O.size = 1 := by rw [← hO]; rfl
    have hOl : O.data.toList = [c.toNat.toUInt8] := by rw [← hO]
    obtain ⟨A', eA'⟩ : ∃ S : ByteArray, name ++ ⟨#[42]⟩ = S := ⟨_, rfl⟩
    obtain ⟨A, eA⟩ : ∃ S : ByteArray, A' ++ O = S := ⟨_, rfl⟩
    obtain ⟨D', eD'⟩ : ∃ S : ByteArray, name ++ ⟨#[58, 49, 50, 51, 52]⟩ = S := ⟨_, rfl⟩
    obtain ⟨D, eD⟩ : ∃ S : ByteArray, D' ++ O = S := ⟨_, rfl⟩
    obtain ⟨E, eE⟩ : ∃ S : ByteArray, name ++ O = S := ⟨_, rfl⟩
    have s1 : A'.size = name.size + 1 := by rw [← eA', ByteArray.size_append]; rfl
    have s2 : D'.size = name.size + 5 := by rw [← eD', ByteArray.size_append]; rfl
    have s3 : A'.size ≤ 300 := by omega
    have s4 : D'.size ≤ 300 := by omega
    have zA : A.size ≤ 80000 := by rw [← eA, ByteArray.size_append]; omega
    have zD : D.size ≤ 80000 := by rw [← eD, ByteArray.size_append]; omega
    have zE : E.size ≤ 80000 := by rw [← eE, ByteArray.size_append]; omega
    have zE2 : E.size ≤ 100000 := by omega
    have lA : A.data.toList = name.data.toList ++ 42 :: [c.toNat.toUInt8] := by rw [← eA, app_list, ← eA', app_list, hOl]; simp
    have lD : D.data.toList = name.data.toList ++ 58 :: [49, 50, 51, 52] ++ c.toNat.toUInt8 :: [] := by rw [← eD, app_list, ← eD', app_list, hOl]
    have lE : E.data.toList = name.data.toList ++ [c.toNat.toUInt8] := by rw [← eE, app_list, hOl]
    obtain ⟨hAi, hAb⟩ := star_behind hn c.toNat.toUInt8
    obtain ⟨hDi, hDb⟩ := full_behind hn num1234 rfl c.toNat.toUInt8 []
    have hone := one_behind hn c.toNat.toUInt8
    rw [← lA] at hAi hAb
    rw [← lD] at hDi hDb
    rw [← lE] at hone
    have HA4 : Hid ((badX A.data.toList : Int) = name.size + 1) := by show _ = _; rw [hAb, size_list]; simp
    have HD4 : Hid ((badX D.data.toList : Int) = name.size + 5) := by show _ = _; rw [hDb, size_list]; simp
    obtain ⟨k, hk⟩ : ∃ k, badX E.data.toList = k := ⟨_, rfl⟩
    obtain ⟨j, hj⟩ : ∃ k, badN E.data.toList = k := ⟨_, rfl⟩
    have HE4 : Hid ((badX E.data.toList : Int) = k) := congrArg Nat.cast hk
    have HJ : Hid (∀ w, Calls Tryd.prog 17 #[.string E] w fun e w' => e = .returned (.int .i64 j) ∧ w' = w) := fun w => by
      have := rbad_any E w zE2
      rwa [hj] at this
    rw [hk, hj] at hone
    have c58 : c.toNat.toUInt8 = 58 ↔ c = 58 := by
      constructor
      · intro e
        have := congrArg UInt8.toNat e
        rw [u8_of _ (by omega)] at this
        have h2 : (58 : UInt8).toNat = 58 := rfl
        omega
      · rintro rfl; rfl
    have c42 : c.toNat.toUInt8 = 42 ↔ c = 42 := by
      constructor
      · intro e
        have := congrArg UInt8.toNat e
        rw [u8_of _ (by omega)] at this
        have h2 : (42 : UInt8).toNat = 42 := rfl
        omega
      · rintro rfl; rfl
    rw [c58, c42, ← size_list] at hone
    obtain ⟨hA1, hA2, hA3, hA5⟩ := tk_none hAi
    have HA1 := hide hA1
    have HA2 := hide hA2
    have HA3 := hide hA3
    have HA5 := hide hA5
    clear hA1 hA2 hA3 hA5
    obtain ⟨hD1, hD2, hD3, hD5⟩ := tk_none hDi
    have HD1 := hide hD1
    have HD2 := hide hD2
    have HD3 := hide hD3
    have HD5 := hide hD5
    clear hD1 hD2 hD3 hD5
    obtain ⟨E1, hE1⟩ : ∃ x, tkN E = x := ⟨_, rfl⟩
    obtain ⟨E2, hE2⟩ : ∃ x, tkM E = x := ⟨_, rfl⟩
    obtain ⟨E3, hE3⟩ : ∃ x, tkS E = x := ⟨_, rfl⟩
    obtain ⟨E5, hE5⟩ : ∃ x, tkE E = x := ⟨_, rfl⟩
    have HE1 := hide hE1
    have HE2 := hide hE2
    have HE3 := hide hE3
    have HE5 := hide hE5
    clear hE1 hE2 hE3 hE5
    have HO := hide hone
    clear hn hone lA lD lE hAi hAb hDi hDb hk hj c58 c42 hOl hO s1 s2
    have T0 : Hid True := trivial
    have T1 : Hid True := trivial
    have T2 : Hid True := trivial
    by_cases g0 : name.size < k
    · by_cases g1 : name.size < j
      · go_enter Tryd.func7, Tryd.ntmps7
        go_wp2_with (first
          | (go_at_call 9; refine (awake_any _ (by first | with_reducible exact RN.at B | with_reducible exact RN.at (B.alloc B.size _) | with_reducible exact RN.at T.below | with_reducible exact RN.at T.drew.below | with_reducible exact RN.alloc _ | with_reducible exact RN)).mono ?_; rintro e w1 ⟨rfl, bb⟩; replace B := B.trans (bb.mono B.size); clear bb)
          | (go_at_call 16; refine (rmay_is name true _ HN.out).mono ?_; rintro e w' ⟨rfl, hw⟩; rw [hw]; clear hw)
          | (go_at_call 10; have z := T0; refine (pxtk_is A ⟨#[]⟩ 0 false (name.size + 1) 2 _ zA HA1.out HA2.out HA3.out HA4.out HA5.out (by first | with_reducible exact RN.at B | with_reducible exact RN.at (B.alloc B.size _) | with_reducible exact RN.at T.below | with_reducible exact RN.at T.drew.below | with_reducible exact RN.alloc _ | with_reducible exact RN)).mono ?_; rintro e w2 ⟨rfl, bb⟩; replace B := bel_alloc B bb; clear bb T0 z)
          | (go_at_call 10; have z := T1; refine (pxtk_is D ⟨#[]⟩ 0 false (name.size + 5) 2 _ zD HD1.out HD2.out HD3.out HD4.out HD5.out (by first | with_reducible exact RN.at B | with_reducible exact RN.at (B.alloc B.size _) | with_reducible exact RN.at T.below | with_reducible exact RN.at T.drew.below | with_reducible exact RN.alloc _ | with_reducible exact RN)).mono ?_; rintro e w3 ⟨rfl, bb⟩; replace B := bel_alloc B bb; clear bb T1 z)
          | (go_at_call 10; have z := T2; refine (pxtk_is E E1 E2 E3 k E5 _ zE HE1.out HE2.out HE3.out HE4.out HE5.out (by first | with_reducible exact RN.at B | with_reducible exact RN.at (B.alloc B.size _) | with_reducible exact RN.at T.below | with_reducible exact RN.at T.drew.below | with_reducible exact RN.alloc _ | with_reducible exact RN)).mono ?_; rintro e w4 ⟨rfl, bb⟩; replace B := bel_alloc B bb; clear bb T2 z)
          | (go_at_call 17; refine (HJ.out _).mono ?_; rintro e w' ⟨rfl, hw⟩; rw [hw]; clear hw))
        go_ret
        first | exact ⟨rfl, B⟩ | exact ⟨ret_bool (by simp [*]), B⟩ | exact ⟨ret_bool (by simp [*]; omega), B⟩ | exact ⟨rfl, B.alloc B.size _⟩ | exact ⟨ret_bool (by simp [*]), B.alloc B.size _⟩ | exact ⟨ret_bool (by simp [*]; omega), B.alloc B.size _⟩
      · by_cases g2 : c = 58
        · subst g2
          go_enter Tryd.func7, Tryd.ntmps7
          go_wp2_with (first
            | (go_at_call 9; refine (awake_any _ (by first | with_reducible exact RN.at B | with_reducible exact RN.at (B.alloc B.size _) | with_reducible exact RN.at T.below | with_reducible exact RN.at T.drew.below | with_reducible exact RN.alloc _ | with_reducible exact RN)).mono ?_; rintro e w1 ⟨rfl, bb⟩; replace B := B.trans (bb.mono B.size); clear bb)
            | (go_at_call 16; refine (rmay_is name true _ HN.out).mono ?_; rintro e w' ⟨rfl, hw⟩; rw [hw]; clear hw)
            | (go_at_call 10; have z := T0; refine (pxtk_is A ⟨#[]⟩ 0 false (name.size + 1) 2 _ zA HA1.out HA2.out HA3.out HA4.out HA5.out (by first | with_reducible exact RN.at B | with_reducible exact RN.at (B.alloc B.size _) | with_reducible exact RN.at T.below | with_reducible exact RN.at T.drew.below | with_reducible exact RN.alloc _ | with_reducible exact RN)).mono ?_; rintro e w2 ⟨rfl, bb⟩; replace B := bel_alloc B bb; clear bb T0 z)
            | (go_at_call 10; have z := T1; refine (pxtk_is D ⟨#[]⟩ 0 false (name.size + 5) 2 _ zD HD1.out HD2.out HD3.out HD4.out HD5.out (by first | with_reducible exact RN.at B | with_reducible exact RN.at (B.alloc B.size _) | with_reducible exact RN.at T.below | with_reducible exact RN.at T.drew.below | with_reducible exact RN.alloc _ | with_reducible exact RN)).mono ?_; rintro e w3 ⟨rfl, bb⟩; replace B := bel_alloc B bb; clear bb T1 z)
            | (go_at_call 10; have z := T2; refine (pxtk_is E E1 E2 E3 k E5 _ zE HE1.out HE2.out HE3.out HE4.out HE5.out (by first | with_reducible exact RN.at B | with_reducible exact RN.at (B.alloc B.size _) | with_reducible exact RN.at T.below | with_reducible exact RN.at T.drew.below | with_reducible exact RN.alloc _ | with_reducible exact RN)).mono ?_; rintro e w4 ⟨rfl, bb⟩; replace B := bel_alloc B bb; clear bb T2 z)
            | (go_at_call 17; refine (HJ.out _).mono ?_; rintro e w' ⟨rfl, hw⟩; rw [hw]; clear hw))
          go_ret
          first | exact ⟨rfl, B⟩ | exact ⟨ret_bool (by simp [*]), B⟩ | exact ⟨ret_bool (by simp [*]; omega), B⟩ | exact ⟨rfl, B.alloc B.size _⟩ | exact ⟨ret_bool (by simp [*]), B.alloc B.size _⟩ | exact ⟨ret_bool (by simp [*]; omega), B.alloc B.size _⟩
        · have g3 : c = 42 := by have := HO.out.1 g0; omega
          subst g3
          go_enter Tryd.func7, Tryd.ntmps7
          go_wp2_with (first
            | (go_at_call 9; refine (awake_any _ (by first | with_reducible exact RN.at B | with_reducible exact RN.at (B.alloc B.size _) | with_reducible exact RN.at T.below | with_reducible exact RN.at T.drew.below | with_reducible exact RN.alloc _ | with_reducible exact RN)).mono ?_; rintro e w1 ⟨rfl, bb⟩; replace B := B.trans (bb.mono B.size); clear bb)
            | (go_at_call 16; refine (rmay_is name true _ HN.out).mono ?_; rintro e w' ⟨rfl, hw⟩; rw [hw]; clear hw)
            | (go_at_call 10; have z := T0; refine (pxtk_is A ⟨#[]⟩ 0 false (name.size + 1) 2 _ zA HA1.out HA2.out HA3.out HA4.out HA5.out (by first | with_reducible exact RN.at B | with_reducible exact RN.at (B.alloc B.size _) | with_reducible exact RN.at T.below | with_reducible exact RN.at T.drew.below | with_reducible exact RN.alloc _ | with_reducible exact RN)).mono ?_; rintro e w2 ⟨rfl, bb⟩; replace B := bel_alloc B bb; clear bb T0 z)
            | (go_at_call 10; have z := T1; refine (pxtk_is D ⟨#[]⟩ 0 false (name.size + 5) 2 _ zD HD1.out HD2.out HD3.out HD4.out HD5.out (by first | with_reducible exact RN.at B | with_reducible exact RN.at (B.alloc B.size _) | with_reducible exact RN.at T.below | with_reducible exact RN.at T.drew.below | with_reducible exact RN.alloc _ | with_reducible exact RN)).mono ?_; rintro e w3 ⟨rfl, bb⟩; replace B := bel_alloc B bb; clear bb T1 z)
            | (go_at_call 10; have z := T2; refine (pxtk_is E E1 E2 E3 k E5 _ zE HE1.out HE2.out HE3.out HE4.out HE5.out (by first | with_reducible exact RN.at B | with_reducible exact RN.at (B.alloc B.size _) | with_reducible exact RN.at T.below | with_reducible exact RN.at T.drew.below | with_reducible exact RN.alloc _ | with_reducible exact RN)).mono ?_; rintro e w4 ⟨rfl, bb⟩; replace B := bel_alloc B bb; clear bb T2 z)
            | (go_at_call 17; refine (HJ.out _).mono ?_; rintro e w' ⟨rfl, hw⟩; rw [hw]; clear hw))
          go_ret
          first | exact ⟨rfl, B⟩ | exact ⟨ret_bool (by simp [*]), B⟩ | exact ⟨ret_bool (by simp [*]; omega), B⟩ | exact ⟨rfl, B.alloc B.size _⟩ | exact ⟨ret_bool (by simp [*]), B.alloc B.size _⟩ | exact ⟨ret_bool (by simp [*]; omega), B.alloc B.size _⟩
    · have g1 : ¬ name.size < j := fun h => g0 (HO.out.2 (.inl h))
      have g2 : c ≠ 58 := fun h => g0 (HO.out.2 (.inr (.inl h)))
      have g3 : c ≠ 42 := fun h => g0 (HO.out.2 (.inr (.inr h)))
      go_enter Tryd.func7, Tryd.ntmps7
      go_wp2_with (first
        | (go_at_call 9; refine (awake_any _ (by first | with_reducible exact RN.at B | with_reducible exact RN.at (B.alloc B.size _) | with_reducible exact RN.at T.below | with_reducible exact RN.at T.drew.below | with_reducible exact RN.alloc _ | with_reducible exact RN)).mono ?_; rintro e w1 ⟨rfl, bb⟩; replace B := B.trans (bb.mono B.size); clear bb)
        | (go_at_call 16; refine (rmay_is name true _ HN.out).mono ?_; rintro e w' ⟨rfl, hw⟩; rw [hw]; clear hw)
        | (go_at_call 10; have z := T0; refine (pxtk_is A ⟨#[]⟩ 0 false (name.size + 1) 2 _ zA HA1.out HA2.out HA3.out HA4.out HA5.out (by first | with_reducible exact RN.at B | with_reducible exact RN.at (B.alloc B.size _) | with_reducible exact RN.at T.below | with_reducible exact RN.at T.drew.below | with_reducible exact RN.alloc _ | with_reducible exact RN)).mono ?_; rintro e w2 ⟨rfl, bb⟩; replace B := bel_alloc B bb; clear bb T0 z)
        | (go_at_call 10; have z := T1; refine (pxtk_is D ⟨#[]⟩ 0 false (name.size + 5) 2 _ zD HD1.out HD2.out HD3.out HD4.out HD5.out (by first | with_reducible exact RN.at B | with_reducible exact RN.at (B.alloc B.size _) | with_reducible exact RN.at T.below | with_reducible exact RN.at T.drew.below | with_reducible exact RN.alloc _ | with_reducible exact RN)).mono ?_; rintro e w3 ⟨rfl, bb⟩; replace B := bel_alloc B bb; clear bb T1 z)
        | (go_at_call 10; have z := T2; refine (pxtk_is E E1 E2 E3 k E5 _ zE HE1.out HE2.out HE3.out HE4.out HE5.out (by first | with_reducible exact RN.at B | with_reducible exact RN.at (B.alloc B.size _) | with_reducible exact RN.at T.below | with_reducible exact RN.at T.drew.below | with_reducible exact RN.alloc _ | with_reducible exact RN)).mono ?_; rintro e w4 ⟨rfl, bb⟩; replace B := bel_alloc B bb; clear bb T2 z)
        | (go_at_call 17; refine (HJ.out _).mono ?_; rintro e w' ⟨rfl, hw⟩; rw [hw]; clear hw))
      go_ret
      first | exact ⟨rfl, B⟩ | exact ⟨ret_bool (by simp [*]), B⟩ | exact ⟨ret_bool (by simp [*]; omega), B⟩ | exact ⟨rfl, B.alloc B.size _⟩ | exact ⟨ret_bool (by simp [*]), B.alloc B.size _⟩ | exact ⟨ret_bool (by simp [*]; omega), B.alloc B.size _⟩
end Go.Proofs.YtcglkekilaokaaaDoor
