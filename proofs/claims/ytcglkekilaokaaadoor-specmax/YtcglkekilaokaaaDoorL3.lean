/-
  THE WALK of SpecMax.
-/
import Derived.Test.YtcglkekilaokaaaDoorL0
namespace Go.Proofs.YtcglkekilaokaaaDoor
open Go.RowKit

set_option maxRecDepth 20000 in
set_option maxHeartbeats 4000000 in
theorem max_walk (name : ByteArray) (n : Int) (w : World) (RN : Ran w) (h0 : 0 ≤ n) (h1 : n ≤ 65535) :
    Calls Tryd.prog 5 #[.string name, .int .u16 n] w fun e w' => e = .returned (.bool true) ∧ Below w.heap.size w w' := by
  have B := Below.refl w.heap.size w
  by_cases hb1 : 200 < name.size
  · go_enter Tryd.func5, Tryd.ntmps5
    go_wp2_with (first
      | (go_at_call 9; refine (awake_any _ (by first | with_reducible exact RN.at B | with_reducible exact RN.at (B.alloc B.size _) | with_reducible exact RN.at T.below | with_reducible exact RN.at T.drew.below | with_reducible exact RN.alloc _ | with_reducible exact RN)).mono ?_; rintro e w1 ⟨rfl, bb⟩; replace B := B.trans (bb.mono B.size); clear bb))
    go_ret
    first | exact ⟨rfl, B⟩ | exact ⟨ret_bool (by simp [*]), B⟩ | exact ⟨ret_bool (by simp [*]; omega), B⟩
  have z1 : name.size ≤ 1000000 := by omega
  cases hn : nameB name.data.toList with
  | false =>
    have HN := hide hn
    clear hn
    go_enter Tryd.func5, Tryd.ntmps5
    go_wp2_with (first
      | (go_at_call 9; refine (awake_any _ (by first | with_reducible exact RN.at B | with_reducible exact RN.at (B.alloc B.size _) | with_reducible exact RN.at T.below | with_reducible exact RN.at T.drew.below | with_reducible exact RN.alloc _ | with_reducible exact RN)).mono ?_; rintro e w1 ⟨rfl, bb⟩; replace B := B.trans (bb.mono B.size); clear bb)
      | (go_at_call 16; refine (rmay_is name false _ HN.out).mono ?_; rintro e w' ⟨rfl, hw⟩; rw [hw]; clear hw))
    go_ret
    first | exact ⟨rfl, B⟩ | exact ⟨ret_bool (by simp [*]), B⟩ | exact ⟨ret_bool (by simp [*]; omega), B⟩
  | true =>
    have HN := hide hn
    obtain ⟨p, hp⟩ : ∃ p : ByteArray, p.data.toList = putL (spA name n false) := ⟨putA name n false, rfl⟩
    have HP := hide hp
    have hm : mayX (spA name n false) = decide (n ≤ 9999) := by
      have : mayX (spA name n false) = (nameB name.data.toList && decide (0 ≤ n ∧ n ≤ 9999) && (!false || decide (n = 0))) := rfl
      rw [this, hn]; simp; omega
    by_cases g1 : 9999 < n
    · have hm2 : mayX (spA name n false) = false := by rw [hm]; simp; omega
      have hpe : p.toList.isEmpty = true := by
        apply eq_none
        rw [size_list, hp, put_none hm2]
        simp
      have HM := hide hm2
      clear hm hm2 hp hn
      go_enter Tryd.func5, Tryd.ntmps5
      go_wp2_with (first
        | (go_at_call 9; refine (awake_any _ (by first | with_reducible exact RN.at B | with_reducible exact RN.at (B.alloc B.size _) | with_reducible exact RN.at T.below | with_reducible exact RN.at T.drew.below | with_reducible exact RN.alloc _ | with_reducible exact RN)).mono ?_; rintro e w1 ⟨rfl, bb⟩; replace B := B.trans (bb.mono B.size); clear bb)
        | (go_at_call 16; refine (rmay_is name true _ HN.out).mono ?_; rintro e w' ⟨rfl, hw⟩; rw [hw]; clear hw)
        | (go_at_call 14; refine (pxput_is name n false p _ z1 HP.out (by first | with_reducible exact RN.at B | with_reducible exact RN.at (B.alloc B.size _) | with_reducible exact RN.at T.below | with_reducible exact RN.at T.drew.below | with_reducible exact RN.alloc _ | with_reducible exact RN)).mono ?_; rintro e w2 ⟨rfl, bb⟩; have X := (Bx.made w1 #[.string name, .int .i64 n, .bool false] 23).next bb; replace B := bel_alloc B bb; clear bb; obtain ⟨x0, x1, x2⟩ := cells3 X)
        | (go_at_call 12; refine (pxmay_is name n false false _ z1 HM.out).mono ?_; rintro e w3 ⟨rfl, bb⟩; replace B := B.trans (bb.mono B.size); clear bb))
      go_ret
      first | exact ⟨rfl, B⟩ | exact ⟨ret_bool (by simp [*]), B⟩ | exact ⟨ret_bool (by simp [*]; omega), B⟩
    have hm2 : mayX (spA name n false) = true := by rw [hm]; simp; omega
    by_cases g2 : n = 0
    · subst g2
      have e : p = name := arr_ext (by rw [hp, put_name hm2 rfl (by simp [spA])]; rfl)
      subst e
      clear hm hm2 hp hn
      go_enter Tryd.func5, Tryd.ntmps5
      go_wp2_with (first
        | (go_at_call 9; refine (awake_any _ (by first | with_reducible exact RN.at B | with_reducible exact RN.at (B.alloc B.size _) | with_reducible exact RN.at T.below | with_reducible exact RN.at T.drew.below | with_reducible exact RN.alloc _ | with_reducible exact RN)).mono ?_; rintro e w1 ⟨rfl, bb⟩; replace B := B.trans (bb.mono B.size); clear bb)
        | (go_at_call 16; refine (rmay_is p true _ HN.out).mono ?_; rintro e w' ⟨rfl, hw⟩; rw [hw]; clear hw)
        | (go_at_call 14; refine (pxput_is p 0 false p _ z1 HP.out (by first | with_reducible exact RN.at B | with_reducible exact RN.at (B.alloc B.size _) | with_reducible exact RN.at T.below | with_reducible exact RN.at T.drew.below | with_reducible exact RN.alloc _ | with_reducible exact RN)).mono ?_; rintro e w2 ⟨rfl, bb⟩; have X := (Bx.made w1 #[.string p, .int .i64 0, .bool false] 23).next bb; replace B := bel_alloc B bb; clear bb; obtain ⟨x0, x1, x2⟩ := cells3 X))
      go_ret
      first | exact ⟨rfl, B⟩ | exact ⟨ret_bool (by simp [*]), B⟩ | exact ⟨ret_bool (by simp [*]; omega), B⟩
    have hpl : p.data.toList = name.data.toList ++ 58 :: figL n.toNat := by rw [hp, put_colon hm2 rfl (by simp [spA]; omega)]; rfl
    have hfl := fig_len n.toNat 3 (by omega)
    have hf1 := List.length_pos_iff.2 (fig_ne n.toNat)
    have hps : p.size = name.size + 1 + (figL n.toNat).length := by rw [size_list, size_list, hpl]; simp; omega
    have hps2 : name.size + 2 ≤ p.size := by omega
    have hps3 : p.size ≤ 300 := by omega
    obtain ⟨Q1, e1⟩ : ∃ S : ByteArray, name ++ ⟨#[58, 48]⟩ = S := ⟨_, rfl⟩
    obtain ⟨Q2, e2⟩ : ∃ S : ByteArray, p.extract (name.size + 1) p.size = S := ⟨_, rfl⟩
    obtain ⟨Q, e3⟩ : ∃ S : ByteArray, Q1 ++ Q2 = S := ⟨_, rfl⟩
    obtain ⟨R, e4⟩ : ∃ S : ByteArray, p ++ ⟨#[48]⟩ = S := ⟨_, rfl⟩
    have hQ : Q.data.toList = name.data.toList ++ 58 :: 48 :: figL n.toNat := by
      rw [← e3, app_list, ← e1, app_list, ← e2, cut_list, hpl]
      rw [show name.size + 1 = name.data.toList.length + 1 by rw [size_list], List.drop_append]
      simp
    have hR : R.data.toList = name.data.toList ++ 58 :: figL n.toNat ++ [48] := by
      rw [← e4, app_list, hpl]
    have hq1 : Q1.size = name.size + 2 := by rw [← e1, ByteArray.size_append]; rfl
    have hq2 : Q2.size = p.size - (name.size + 1) := by rw [← e2]; simp
    have hqs1 : Q1.size ≤ 300 := by omega
    have hqs2 : Q2.size ≤ 300 := by omega
    have zQ : Q.size ≤ 80000 := by rw [← e3, ByteArray.size_append]; omega
    have zR : R.size ≤ 80000 := by rw [← e4, ByteArray.size_append]; show p.size + 1 ≤ _; omega
    obtain ⟨q1, q2⟩ := zero_ahead hn (figL n.toNat)
    rw [← hQ] at q1 q2
    obtain ⟨k1, k2, k3, k5⟩ := tk_none q1
    have k4 : (badX Q.data.toList : Int) = name.size + 1 := by rw [q2, size_list]; simp
    have K1 := hide k1
    have K2 := hide k2
    have K3 := hide k3
    have K4 := hide k4
    have K5 := hide k5
    by_cases g3 : n < 1000
    · have r1 := zero_behind hn (m := n.toNat) (by omega) (by omega)
      rw [← hR] at r1
      obtain ⟨_, _, r3, r4, _⟩ := tk_is r1
      obtain ⟨tn, h1'⟩ : ∃ x, tkN R = x := ⟨_, rfl⟩
      obtain ⟨tm, h2'⟩ : ∃ x, tkM R = x := ⟨_, rfl⟩
      obtain ⟨ts, h3'⟩ : ∃ x, tkS R = x := ⟨_, rfl⟩
      have R1 := hide h1'
      have R2 := hide h2'
      have R3 := hide h3'
      have R4 := hide r3
      have R5 := hide r4
      clear hm hm2 hp hn hpl hfl hf1 hps hQ hR q1 q2 k1 k2 k3 k4 k5 r1 r3 r4 h1' h2' h3' hq1 hq2
      have T0 : Hid True := trivial
      go_enter Tryd.func5, Tryd.ntmps5
      go_wp2_with (first
        | (go_at_call 9; refine (awake_any _ (by first | with_reducible exact RN.at B | with_reducible exact RN.at (B.alloc B.size _) | with_reducible exact RN.at T.below | with_reducible exact RN.at T.drew.below | with_reducible exact RN.alloc _ | with_reducible exact RN)).mono ?_; rintro e w1 ⟨rfl, bb⟩; replace B := B.trans (bb.mono B.size); clear bb)
        | (go_at_call 16; refine (rmay_is name true _ HN.out).mono ?_; rintro e w' ⟨rfl, hw⟩; rw [hw]; clear hw)
        | (go_at_call 14; refine (pxput_is name n false p _ z1 HP.out (by first | with_reducible exact RN.at B | with_reducible exact RN.at (B.alloc B.size _) | with_reducible exact RN.at T.below | with_reducible exact RN.at T.drew.below | with_reducible exact RN.alloc _ | with_reducible exact RN)).mono ?_; rintro e w2 ⟨rfl, bb⟩; have X := (Bx.made w1 #[.string name, .int .i64 n, .bool false] 23).next bb; replace B := bel_alloc B bb; clear bb; obtain ⟨x0, x1, x2⟩ := cells3 X)
        | (go_at_call 10; have z := T0; refine (pxtk_is Q ⟨#[]⟩ 0 false (name.size + 1) 2 _ zQ K1.out K2.out K3.out K4.out K5.out (by first | with_reducible exact RN.at B | with_reducible exact RN.at (B.alloc B.size _) | with_reducible exact RN.at T.below | with_reducible exact RN.at T.drew.below | with_reducible exact RN.alloc _ | with_reducible exact RN)).mono ?_; rintro e w3 ⟨rfl, bb⟩; replace B := B.trans (bb.mono B.size); clear bb T0 z)
        | (go_at_call 10; refine (pxtk_is R tn tm ts R.size 0 _ zR R1.out R2.out R3.out R4.out R5.out (by first | with_reducible exact RN.at B | with_reducible exact RN.at (B.alloc B.size _) | with_reducible exact RN.at T.below | with_reducible exact RN.at T.drew.below | with_reducible exact RN.alloc _ | with_reducible exact RN)).mono ?_; rintro e w4 ⟨rfl, bb⟩; replace B := bel_alloc B bb; clear bb))
      go_ret
      first | exact ⟨rfl, B⟩ | exact ⟨ret_bool (by simp [*]), B⟩ | exact ⟨ret_bool (by simp [*]; omega), B⟩ | exact ⟨rfl, B.alloc B.size _⟩ | exact ⟨ret_bool (by simp [*]), B.alloc B.size _⟩ | exact ⟨ret_bool (by simp [*]; omega), B.alloc B.size _⟩
    · obtain ⟨r1, r2⟩ := four_behind hn (m := n.toNat) (by omega) (by omega)
      rw [← hR] at r1 r2
      obtain ⟨t1, t2, t3, t5⟩ := tk_none r1
      have t4 : (badX R.data.toList : Int) = p.size := by rw [r2, size_list, hpl]
      have R1 := hide t1
      have R2 := hide t2
      have R3 := hide t3
      have R4 := hide t4
      have R5 := hide t5
      clear hm hm2 hp hn hpl hfl hf1 hps hQ hR q1 q2 k1 k2 k3 k4 k5 r1 r2 t1 t2 t3 t4 t5 hq1 hq2
      have T0 : Hid True := trivial
      go_enter Tryd.func5, Tryd.ntmps5
      go_wp2_with (first
        | (go_at_call 9; refine (awake_any _ (by first | with_reducible exact RN.at B | with_reducible exact RN.at (B.alloc B.size _) | with_reducible exact RN.at T.below | with_reducible exact RN.at T.drew.below | with_reducible exact RN.alloc _ | with_reducible exact RN)).mono ?_; rintro e w1 ⟨rfl, bb⟩; replace B := B.trans (bb.mono B.size); clear bb)
        | (go_at_call 16; refine (rmay_is name true _ HN.out).mono ?_; rintro e w' ⟨rfl, hw⟩; rw [hw]; clear hw)
        | (go_at_call 14; refine (pxput_is name n false p _ z1 HP.out (by first | with_reducible exact RN.at B | with_reducible exact RN.at (B.alloc B.size _) | with_reducible exact RN.at T.below | with_reducible exact RN.at T.drew.below | with_reducible exact RN.alloc _ | with_reducible exact RN)).mono ?_; rintro e w2 ⟨rfl, bb⟩; have X := (Bx.made w1 #[.string name, .int .i64 n, .bool false] 23).next bb; replace B := bel_alloc B bb; clear bb; obtain ⟨x0, x1, x2⟩ := cells3 X)
        | (go_at_call 10; have z := T0; refine (pxtk_is Q ⟨#[]⟩ 0 false (name.size + 1) 2 _ zQ K1.out K2.out K3.out K4.out K5.out (by first | with_reducible exact RN.at B | with_reducible exact RN.at (B.alloc B.size _) | with_reducible exact RN.at T.below | with_reducible exact RN.at T.drew.below | with_reducible exact RN.alloc _ | with_reducible exact RN)).mono ?_; rintro e w3 ⟨rfl, bb⟩; replace B := B.trans (bb.mono B.size); clear bb T0 z)
        | (go_at_call 10; refine (pxtk_is R ⟨#[]⟩ 0 false p.size 2 _ zR R1.out R2.out R3.out R4.out R5.out (by first | with_reducible exact RN.at B | with_reducible exact RN.at (B.alloc B.size _) | with_reducible exact RN.at T.below | with_reducible exact RN.at T.drew.below | with_reducible exact RN.alloc _ | with_reducible exact RN)).mono ?_; rintro e w4 ⟨rfl, bb⟩; replace B := bel_alloc B bb; clear bb))
      go_ret
      first | exact ⟨rfl, B⟩ | exact ⟨ret_bool (by simp [*]), B⟩ | exact ⟨ret_bool (by simp [*]; omega), B⟩ | exact ⟨rfl, B.alloc B.size _⟩ | exact ⟨ret_bool (by simp [*]), B.alloc B.size _⟩ | exact ⟨ret_bool (by simp [*]; omega), B.alloc B.size _⟩
end Go.Proofs.YtcglkekilaokaaaDoor
