/-
  THE WALK of SpecForms.
-/
import Derived.Test.YtcglkekilaokaaaDoorL0
namespace Go.Proofs.YtcglkekilaokaaaDoor
open Go.RowKit

set_option maxRecDepth 20000 in
set_option maxHeartbeats 4000000 in
theorem forms_walk (name : ByteArray) (n : Int) (w : World) (RN : Ran w) (h0 : 0 ≤ n) (h1 : n ≤ 65535) :
    Calls Tryd.prog 8 #[.string name, .int .u16 n] w fun e w' => e = .returned (.bool true) ∧ Below w.heap.size w w' := by
  have B := Below.refl w.heap.size w
  by_cases hb1 : 200 < name.size
  · go_enter Tryd.func8, Tryd.ntmps8
    go_wp2_with (first
      | (go_at_call 9; refine (awake_any _ (by first | with_reducible exact RN.at B | with_reducible exact RN.at (B.alloc B.size _) | with_reducible exact RN.at T.below | with_reducible exact RN.at T.drew.below | with_reducible exact RN.alloc _ | with_reducible exact RN)).mono ?_; rintro e w1 ⟨rfl, bb⟩; replace B := B.trans (bb.mono B.size); clear bb))
    go_ret
    first | exact ⟨rfl, B⟩ | exact ⟨ret_bool (by simp [*]), B⟩ | exact ⟨ret_bool (by simp [*]; omega), B⟩ | exact ⟨rfl, B.alloc B.size _⟩ | exact ⟨ret_bool (by simp [*]), B.alloc B.size _⟩ | exact ⟨ret_bool (by simp [*]; omega), B.alloc B.size _⟩
  have z1 : name.size ≤ 1000000 := by omega
  have z2 : name.size ≤ 80000 := by omega
  cases hn : nameB name.data.toList with
  | false =>
    have HN := hide hn
    clear hn
    go_enter Tryd.func8, Tryd.ntmps8
    go_wp2_with (first
      | (go_at_call 9; refine (awake_any _ (by first | with_reducible exact RN.at B | with_reducible exact RN.at (B.alloc B.size _) | with_reducible exact RN.at T.below | with_reducible exact RN.at T.drew.below | with_reducible exact RN.alloc _ | with_reducible exact RN)).mono ?_; rintro e w1 ⟨rfl, bb⟩; replace B := B.trans (bb.mono B.size); clear bb)
      | (go_at_call 16; refine (rmay_is name false _ HN.out).mono ?_; rintro e w' ⟨rfl, hw⟩; rw [hw]; clear hw))
    go_ret
    first | exact ⟨rfl, B⟩ | exact ⟨ret_bool (by simp [*]), B⟩ | exact ⟨ret_bool (by simp [*]; omega), B⟩ | exact ⟨rfl, B.alloc B.size _⟩ | exact ⟨ret_bool (by simp [*]), B.alloc B.size _⟩ | exact ⟨ret_bool (by simp [*]; omega), B.alloc B.size _⟩
  | true =>
    have HN := hide hn
    obtain ⟨k, hk⟩ : ∃ k : Int, 1 + n % 9999 = k := ⟨_, rfl⟩
    have hk1 : 1 ≤ k := by omega
    have hk2 : k ≤ 9999 := by omega
    have hm0 : mayX (spA name 0 false) = true := by rw [may_iff]; exact ⟨hn, by simp [spA], by simp [spA], fun h => by cases h⟩
    have hm1 : mayX (spA name 0 true) = true := by rw [may_iff]; exact ⟨hn, by simp [spA], by simp [spA], fun _ => rfl⟩
    have hm2 : mayX (spA name k false) = true := by rw [may_iff]; exact ⟨hn, by simp [spA]; omega, by simp [spA]; omega, fun h => by cases h⟩
    have hp0 : name.data.toList = putL (spA name 0 false) := by rw [put_name hm0 rfl (by simp [spA])]; rfl
    obtain ⟨S, eS⟩ : ∃ S : ByteArray, name ++ ⟨#[42]⟩ = S := ⟨_, rfl⟩
    have hp1 : S.data.toList = putL (spA name 0 true) := by rw [put_star hm1 rfl, ← eS, app_list]; rfl
    obtain ⟨p, hp2⟩ : ∃ p : ByteArray, p.data.toList = putL (spA name k false) := ⟨putA name k false, rfl⟩
    have hpl : p.data.toList = name.data.toList ++ 58 :: figL k.toNat := by rw [hp2, put_colon hm2 rfl (by simp [spA]; omega)]; rfl
    have hfl := fig_len k.toNat 3 (by omega)
    have hps : p.size = name.size + 1 + (figL k.toNat).length := by rw [size_list, size_list, hpl]; simp; omega
    have zS : S.size ≤ 80000 := by rw [← eS, ByteArray.size_append]; show name.size + 1 ≤ _; omega
    have zP : p.size ≤ 80000 := by omega
    have hne : (p.toList == name.toList) = false := by
      rw [beq_eq_false_iff_ne]
      intro e
      rw [Lib.toList_data, Lib.toList_data] at e
      have := congrArg List.length e
      rw [← size_list, ← size_list] at this
      omega
    obtain ⟨a1, a2, a3, a4, a5⟩ := tk_put hm0 hp0
    obtain ⟨b1, b2, b3, b4, b5⟩ := tk_put hm1 hp1
    obtain ⟨c1, c2, c3, c4, c5⟩ := tk_put hm2 hp2
    have A1 := hide a1
    have A2 := hide a2
    have A3 := hide a3
    have A4 := hide a4
    have A5 := hide a5
    have B1 := hide b1
    have B2 := hide b2
    have B3 := hide b3
    have B4 := hide b4
    have B5 := hide b5
    have C1 := hide c1
    have C2 := hide c2
    have C3 := hide c3
    have C4 := hide c4
    have C5 := hide c5
    have HP := hide hp2
    have hke : (n.tmod 9999) = n % 9999 := Int.tmod_eq_emod_of_nonneg h0
    have HK := hide hk
    clear hn hm0 hm1 hm2 hp0 hp1 hp2 hpl hfl hps a1 a2 a3 a4 a5 b1 b2 b3 b4 b5 c1 c2 c3 c4 c5
    have hg := guard23
    have he := eq23_same
    have T0 : Hid True := trivial
    have T1 : Hid True := trivial
    have T2 : Hid True := trivial
    go_enter Tryd.func8, Tryd.ntmps8
    go_wp2_with (first
      | (go_at_call 9; refine (awake_any _ (by first | with_reducible exact RN.at B | with_reducible exact RN.at (B.alloc B.size _) | with_reducible exact RN.at T.below | with_reducible exact RN.at T.drew.below | with_reducible exact RN.alloc _ | with_reducible exact RN)).mono ?_; rintro e w1 ⟨rfl, bb⟩; replace B := B.trans (bb.mono B.size); clear bb)
      | (go_at_call 16; refine (rmay_is name true _ HN.out).mono ?_; rintro e w' ⟨rfl, hw⟩; rw [hw]; clear hw)
      | (go_at_call 10; have z := T0; refine (pxtk_is name name 0 false name.size 0 _ z2 A1.out A2.out A3.out A4.out A5.out (by first | with_reducible exact RN.at B | with_reducible exact RN.at (B.alloc B.size _) | with_reducible exact RN.at T.below | with_reducible exact RN.at T.drew.below | with_reducible exact RN.alloc _ | with_reducible exact RN)).mono ?_; rintro e w2 ⟨rfl, bb⟩; replace B := B.trans (bb.mono B.size); clear bb T0 z)
      | (go_at_call 10; have z := T1; refine (pxtk_is S name 0 true S.size 0 _ zS B1.out B2.out B3.out B4.out B5.out (by first | with_reducible exact RN.at B | with_reducible exact RN.at (B.alloc B.size _) | with_reducible exact RN.at T.below | with_reducible exact RN.at T.drew.below | with_reducible exact RN.alloc _ | with_reducible exact RN)).mono ?_; rintro e w3 ⟨rfl, bb⟩; have X := (Bx.made w2 #[.string name, .int .i64 0, .bool false] 23).next bb; replace B := bel_alloc B bb; clear bb T1 z)
      | (go_at_call 14; refine (pxput_is name k false p _ z1 HP.out (by first | with_reducible exact RN.at B | with_reducible exact RN.at (B.alloc B.size _) | with_reducible exact RN.at T.below | with_reducible exact RN.at T.drew.below | with_reducible exact RN.alloc _ | with_reducible exact RN)).mono ?_; rintro e w4 ⟨rfl, bb⟩; replace X := (X.later _).next bb; have Y := (Bx.made w3 #[.string name, .int .i64 0, .bool true] 23).next bb; replace B := bel_alloc B bb; clear bb)
      | (go_at_call 10; have z := T2; refine (pxtk_is p name k false p.size 0 _ zP C1.out C2.out C3.out C4.out C5.out (by first | with_reducible exact RN.at B | with_reducible exact RN.at (B.alloc B.size _) | with_reducible exact RN.at T.below | with_reducible exact RN.at T.drew.below | with_reducible exact RN.alloc _ | with_reducible exact RN)).mono ?_; rintro e w5 ⟨rfl, bb⟩; replace X := X.next bb; replace Y := Y.next bb; replace B := B.trans (bb.mono B.size); clear bb T2 z; have XL := fun o => cells3 (X.later o); have x0 := fun o => (XL o).1; have x1 := fun o => (XL o).2.1; have x2 := fun o => (XL o).2.2; have YL := fun o => cells3 (Y.later o); have y0 := fun o => (YL o).1; have y1 := fun o => (YL o).2.1; have y2 := fun o => (YL o).2.2; clear XL YL))
    go_ret
    first | exact ⟨rfl, B⟩ | exact ⟨ret_bool (by simp [*]), B⟩ | exact ⟨ret_bool (by simp [*]; omega), B⟩ | exact ⟨rfl, B.alloc B.size _⟩ | exact ⟨ret_bool (by simp [*]), B.alloc B.size _⟩ | exact ⟨ret_bool (by simp [*]; omega), B.alloc B.size _⟩
end Go.Proofs.YtcglkekilaokaaaDoor
