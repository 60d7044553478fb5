/-
  Joined by program out of the texts C4 C5 C6.
-/
import Derived.Test.YtjbnofljoijnmaaGreatDoorY19
/-
  WALKS: the law TmplReserved.
-/
namespace Go.Proofs.YtjbnofljoijnmaaGreatDoor
open Go.RowKit Go.Lib

set_option maxRecDepth 20000 in
set_option maxHeartbeats 4000000 in
theorem reserved_walk {R : World → Prop} (P : Prg R) (lit : ByteArray) (cc : UInt8) (w : World) (hR : R w) : Calls Tryz.prog 5 #[.string lit, .int .u8 (cc.toNat : Int)] w fun e w' => e = .returned (.bool true) ∧ Below w.heap.size w w' := by
  have B := Below.refl w.heap.size w
  by_cases hbig : 100 < lit.size
  · go_enter Tryz.func5, Tryz.ntmps5
    go_wp2_with (go_at_call 6; refine (awake_any P _ hR).mono ?_; rintro e w1 ⟨rfl, bb⟩; replace B := bb; have hR1 := P.next _ _ hR bb; clear bb)
    go_ret
    exact ⟨rfl, B⟩
  · obtain ⟨lb, hlb⟩ : ∃ lb, literalB lit.data.toList = lb := ⟨_, rfl⟩
    have Hlb := hide hlb
    cases lb
    · clear hlb
      go_enter Tryz.func5, Tryz.ntmps5
      go_wp2_with (first | (go_at_call 6; refine (awake_any P _ hR).mono ?_; rintro e w1 ⟨rfl, bb⟩; replace B := bb; have hR1 := P.next _ _ hR bb; clear bb) | (go_at_call 22; refine (rliteral_is lit false _ (by omega) Hlb.out).mono ?_; rintro e w2 ⟨rfl, bb⟩; replace B := B.trans (bb.mono B.size); have hR2 := P.next _ _ hR1 bb; clear bb))
      go_ret
      exact ⟨rfl, B⟩
    · have hcl := UInt8.toNat_lt cc
      have hcv := fun W => conv_one W (cc.toNat : Int) (by omega) (by omega)
      obtain ⟨O, hO⟩ : ∃ O : ByteArray, O = ⟨#[((cc.toNat : Int)).toNat.toUInt8]⟩ := ⟨_, rfl⟩
      simp only [← hO] at hcv
      have hOl : O.data.toList = [cc] := by rw [hO]; simp
      have hOs : O.size = 1 := by rw [size_list, hOl]; rfl
      have a1 := str_add lit ⟨#[123]⟩ (by show lit.size + 1 ≤ maxLen; unfold maxLen; omega)
      obtain ⟨D1, hD1⟩ : ∃ D, lit ++ ⟨#[123]⟩ = D := ⟨_, rfl⟩
      have hD1s : D1.size = lit.size + 1 := by rw [← hD1, ByteArray.size_append]; rfl
      have a2 := str_add D1 O (by unfold maxLen; omega)
      obtain ⟨D2, hD2⟩ : ∃ D, D1 ++ O = D := ⟨_, rfl⟩
      have hD2s : D2.size = lit.size + 2 := by rw [← hD2, ByteArray.size_append]; omega
      have a3 := str_add D2 ⟨#[97, 125]⟩ (by show D2.size + 2 ≤ maxLen; unfold maxLen; omega)
      obtain ⟨D3, hD3⟩ : ∃ D, D2 ++ ⟨#[97, 125]⟩ = D := ⟨_, rfl⟩
      have hD3s : D3.size = lit.size + 4 := by
        rw [← hD3, ByteArray.size_append, hD2s]; rfl
      have hD3l : D3.data.toList = lit.data.toList ++ 123 :: cc :: [97, 125] := by
        rw [← hD3, ← hD2, ← hD1, app_list, app_list, app_list, hOl]; simp
      have a4 := str_add O ⟨#[97]⟩ (by show O.size + 1 ≤ maxLen; unfold maxLen; omega)
      obtain ⟨N1, hN1⟩ : ∃ D, O ++ ⟨#[97]⟩ = D := ⟨_, rfl⟩
      have hN1l : N1.data.toList = [cc, 97] := by rw [← hN1, app_list, hOl]; rfl
      rw [hD1] at a1
      rw [hD2] at a2
      rw [hD3] at a3
      rw [hN1] at a4
      have hsome := reserved_is hlb cc
      have hbad := reserved_bad hlb cc
      rw [← hD3l] at hsome hbad
      obtain ⟨nb, hnb⟩ : ∃ b, nameB N1.data.toList = b := ⟨_, rfl⟩
      rw [hN1l] at hnb
      rw [hnb] at hsome hbad
      have Hnb : Hid (nameB N1.data.toList = nb) := by show nameB N1.data.toList = nb; rw [hN1l]; exact hnb
      obtain ⟨k, hk⟩ : ∃ k, badT D3.data.toList = k := ⟨_, rfl⟩
      rw [hk, ← size_list] at hbad
      have Hk := hide hk
      by_cases hop : opB cc = true
      · have hz : ((cc.toNat : Int) != 0) = true := by
          have : cc.toNat ≠ 0 := fun e => (op_dead hop).2.1 (UInt8.toNat_inj.1 e)
          simp; omega
        have hop2 : operB cc = true := by unfold operB; rw [hop]; simp
        have he : (if (isT D3.data.toList).isSome then (0 : Int) else 2) = 0 := by rw [hsome, hop]; rfl
        have Hop := hide hop2
        have He := hide he
        clear hop hop2 he hsome hbad hk hnb hN1l hD3l hD2s hD1s hO hOl hOs hlb hcl
        go_enter Tryz.func5, Tryz.ntmps5
        go_wp2_with (first | (go_at_call 6; refine (awake_any P _ hR).mono ?_; rintro e w1 ⟨rfl, bb⟩; replace B := bb; have hR1 := P.next _ _ hR bb; clear bb) | (go_at_call 22; refine (rliteral_is lit true _ (by omega) Hlb.out).mono ?_; rintro e w2 ⟨rfl, bb⟩; replace B := B.trans (bb.mono B.size); have hR2 := P.next _ _ hR1 bb; clear bb) | (go_at_call 7; refine (pfar_is P D3 k 0 _ (P.next _ _ hR2 ((Below.refl _ _).alloc (Nat.le_refl _) _)) (by omega) Hk.out He.out).mono ?_; rintro e w3 ⟨⟨x1, x2, x3, rfl⟩, bb⟩; have hR3 := P.next _ _ (P.next _ _ hR2 ((Below.refl _ _).alloc (Nat.le_refl _) _)) bb; replace B := bel_alloc B bb; clear bb) | (go_at_call_of 20 (Value.int IntKind.u8 ↑cc.toNat); refine (poper_is P cc true _ hR3 Hop.out).mono ?_; rintro e w4 ⟨rfl, bb⟩; replace B := B.trans (bb.mono B.size); replace hR3 := P.next _ _ hR3 bb; clear bb) | (go_at_call_of 20 (Value.int IntKind.u8 61); refine (poper_is P 61 false _ hR3 (by decide)).mono ?_; rintro e w6 ⟨rfl, bb⟩; replace B := B.trans (bb.mono B.size); replace hR3 := P.next _ _ hR3 bb; clear bb) | (go_at_call_of 20 (Value.int IntKind.u8 44); refine (poper_is P 44 false _ hR3 (by decide)).mono ?_; rintro e w6 ⟨rfl, bb⟩; replace B := B.trans (bb.mono B.size); replace hR3 := P.next _ _ hR3 bb; clear bb) | (go_at_call_of 20 (Value.int IntKind.u8 33); refine (poper_is P 33 false _ hR3 (by decide)).mono ?_; rintro e w6 ⟨rfl, bb⟩; replace B := B.trans (bb.mono B.size); replace hR3 := P.next _ _ hR3 bb; clear bb) | (go_at_call_of 20 (Value.int IntKind.u8 64); refine (poper_is P 64 false _ hR3 (by decide)).mono ?_; rintro e w6 ⟨rfl, bb⟩; replace B := B.trans (bb.mono B.size); replace hR3 := P.next _ _ hR3 bb; clear bb) | (go_at_call_of 20 (Value.int IntKind.u8 124); refine (poper_is P 124 false _ hR3 (by decide)).mono ?_; rintro e w6 ⟨rfl, bb⟩; replace B := B.trans (bb.mono B.size); replace hR3 := P.next _ _ hR3 bb; clear bb))
        all_goals go_ret
        all_goals exact ⟨rfl, B⟩
      · have hop0 : opB cc = false := by
          cases h : opB cc with
          | false => rfl
          | true => exact absurd h hop
        rw [hop0, Bool.false_or] at hsome hbad
        have hlast : nb = false → cc = 37 ∨ k = lit.size + 1 := hbad
        have Hlast := hide hlast
        clear hbad hlast hop
        by_cases hcz : cc = 0
        · have hz : ((cc.toNat : Int) != 0) = false := by simp [hcz]
          cases nb
          · have he : (if (isT D3.data.toList).isSome then (0 : Int) else 2) = 2 := by rw [hsome]; rfl
            have He := hide he
            have hk1 : k = lit.size + 1 := by
              rcases Hlast.out rfl with h | h
              · rw [h] at hcz; exact absurd hcz (by decide)
              · exact h
            have hk2 : ((k : Int) == (lit.size : Int) + 1) = true := by simp; omega
            clear he hsome hk hnb hN1l hD3l hD2s hD1s hO hOl hOs hlb hcl hop0 hcz hk1
            go_enter Tryz.func5, Tryz.ntmps5
            go_wp2_with (first | (go_at_call 6; refine (awake_any P _ hR).mono ?_; rintro e w1 ⟨rfl, bb⟩; replace B := bb; have hR1 := P.next _ _ hR bb; clear bb) | (go_at_call 22; refine (rliteral_is lit true _ (by omega) Hlb.out).mono ?_; rintro e w2 ⟨rfl, bb⟩; replace B := B.trans (bb.mono B.size); have hR2 := P.next _ _ hR1 bb; clear bb) | (go_at_call 7; refine (pfar_is P D3 k 2 _ (P.next _ _ hR2 ((Below.refl _ _).alloc (Nat.le_refl _) _)) (by omega) Hk.out He.out).mono ?_; rintro e w3 ⟨⟨x1, x2, x3, rfl⟩, bb⟩; have hR3 := P.next _ _ (P.next _ _ hR2 ((Below.refl _ _).alloc (Nat.le_refl _) _)) bb; replace B := bel_alloc B bb; clear bb) | (go_at_call 23; refine (rmay_is N1 false _ Hnb.out).mono ?_; rintro e w5 ⟨rfl, hw⟩; rw [hw]; clear hw; replace B := B.alloc B.size (.cells #[.int .u8 cc.toNat] 5); replace hR3 := P.next _ _ hR3 ((Below.refl _ _).alloc (Nat.le_refl _) (.cells #[.int .u8 cc.toNat] 5))) | (go_at_call_of 20 (Value.int IntKind.u8 61); refine (poper_is P 61 false _ hR3 (by decide)).mono ?_; rintro e w6 ⟨rfl, bb⟩; replace B := B.trans (bb.mono B.size); replace hR3 := P.next _ _ hR3 bb; clear bb) | (go_at_call_of 20 (Value.int IntKind.u8 44); refine (poper_is P 44 false _ hR3 (by decide)).mono ?_; rintro e w6 ⟨rfl, bb⟩; replace B := B.trans (bb.mono B.size); replace hR3 := P.next _ _ hR3 bb; clear bb) | (go_at_call_of 20 (Value.int IntKind.u8 33); refine (poper_is P 33 false _ hR3 (by decide)).mono ?_; rintro e w6 ⟨rfl, bb⟩; replace B := B.trans (bb.mono B.size); replace hR3 := P.next _ _ hR3 bb; clear bb) | (go_at_call_of 20 (Value.int IntKind.u8 64); refine (poper_is P 64 false _ hR3 (by decide)).mono ?_; rintro e w6 ⟨rfl, bb⟩; replace B := B.trans (bb.mono B.size); replace hR3 := P.next _ _ hR3 bb; clear bb) | (go_at_call_of 20 (Value.int IntKind.u8 124); refine (poper_is P 124 false _ hR3 (by decide)).mono ?_; rintro e w6 ⟨rfl, bb⟩; replace B := B.trans (bb.mono B.size); replace hR3 := P.next _ _ hR3 bb; clear bb))
            all_goals go_ret
            all_goals exact ⟨rfl, B⟩
          · have he : (if (isT D3.data.toList).isSome then (0 : Int) else 2) = 0 := by rw [hsome]; rfl
            have He := hide he
            clear he hsome hk hnb hN1l hD3l hD2s hD1s hO hOl hOs hlb hcl hop0 hcz
            go_enter Tryz.func5, Tryz.ntmps5
            go_wp2_with (first | (go_at_call 6; refine (awake_any P _ hR).mono ?_; rintro e w1 ⟨rfl, bb⟩; replace B := bb; have hR1 := P.next _ _ hR bb; clear bb) | (go_at_call 22; refine (rliteral_is lit true _ (by omega) Hlb.out).mono ?_; rintro e w2 ⟨rfl, bb⟩; replace B := B.trans (bb.mono B.size); have hR2 := P.next _ _ hR1 bb; clear bb) | (go_at_call 7; refine (pfar_is P D3 k 0 _ (P.next _ _ hR2 ((Below.refl _ _).alloc (Nat.le_refl _) _)) (by omega) Hk.out He.out).mono ?_; rintro e w3 ⟨⟨x1, x2, x3, rfl⟩, bb⟩; have hR3 := P.next _ _ (P.next _ _ hR2 ((Below.refl _ _).alloc (Nat.le_refl _) _)) bb; replace B := bel_alloc B bb; clear bb) | (go_at_call 23; refine (rmay_is N1 true _ Hnb.out).mono ?_; rintro e w5 ⟨rfl, hw⟩; rw [hw]; clear hw; replace B := B.alloc B.size (.cells #[.int .u8 cc.toNat] 5); replace hR3 := P.next _ _ hR3 ((Below.refl _ _).alloc (Nat.le_refl _) (.cells #[.int .u8 cc.toNat] 5))) | (go_at_call_of 20 (Value.int IntKind.u8 61); refine (poper_is P 61 false _ hR3 (by decide)).mono ?_; rintro e w6 ⟨rfl, bb⟩; replace B := B.trans (bb.mono B.size); replace hR3 := P.next _ _ hR3 bb; clear bb) | (go_at_call_of 20 (Value.int IntKind.u8 44); refine (poper_is P 44 false _ hR3 (by decide)).mono ?_; rintro e w6 ⟨rfl, bb⟩; replace B := B.trans (bb.mono B.size); replace hR3 := P.next _ _ hR3 bb; clear bb) | (go_at_call_of 20 (Value.int IntKind.u8 33); refine (poper_is P 33 false _ hR3 (by decide)).mono ?_; rintro e w6 ⟨rfl, bb⟩; replace B := B.trans (bb.mono B.size); replace hR3 := P.next _ _ hR3 bb; clear bb) | (go_at_call_of 20 (Value.int IntKind.u8 64); refine (poper_is P 64 false _ hR3 (by decide)).mono ?_; rintro e w6 ⟨rfl, bb⟩; replace B := B.trans (bb.mono B.size); replace hR3 := P.next _ _ hR3 bb; clear bb) | (go_at_call_of 20 (Value.int IntKind.u8 124); refine (poper_is P 124 false _ hR3 (by decide)).mono ?_; rintro e w6 ⟨rfl, bb⟩; replace B := B.trans (bb.mono B.size); replace hR3 := P.next _ _ hR3 bb; clear bb))
            all_goals go_ret
            all_goals exact ⟨rfl, B⟩
        · have hz : ((cc.toNat : Int) != 0) = true := by
            have : cc.toNat ≠ 0 := fun e => hcz (UInt8.toNat_inj.1 e)
            simp; omega
          have hop2 : operB cc = false := by
            have : (cc == 0) = false := by simp [hcz]
            unfold operB; rw [hop0, this]; rfl
          have Hop := hide hop2
          cases nb
          · have he : (if (isT D3.data.toList).isSome then (0 : Int) else 2) = 2 := by rw [hsome]; rfl
            have He := hide he
            rcases Hlast.out rfl with h37 | hk1
            · have hc37 : ((cc.toNat : Int) == 37) = true := by simp [h37]
              clear he hsome hk hnb hN1l hD3l hD2s hD1s hO hOl hOs hlb hcl hop0 hcz hop2 h37
              go_enter Tryz.func5, Tryz.ntmps5
              go_wp2_with (first | (go_at_call 6; refine (awake_any P _ hR).mono ?_; rintro e w1 ⟨rfl, bb⟩; replace B := bb; have hR1 := P.next _ _ hR bb; clear bb) | (go_at_call 22; refine (rliteral_is lit true _ (by omega) Hlb.out).mono ?_; rintro e w2 ⟨rfl, bb⟩; replace B := B.trans (bb.mono B.size); have hR2 := P.next _ _ hR1 bb; clear bb) | (go_at_call 7; refine (pfar_is P D3 k 2 _ (P.next _ _ hR2 ((Below.refl _ _).alloc (Nat.le_refl _) _)) (by omega) Hk.out He.out).mono ?_; rintro e w3 ⟨⟨x1, x2, x3, rfl⟩, bb⟩; have hR3 := P.next _ _ (P.next _ _ hR2 ((Below.refl _ _).alloc (Nat.le_refl _) _)) bb; replace B := bel_alloc B bb; clear bb) | (go_at_call_of 20 (Value.int IntKind.u8 ↑cc.toNat); refine (poper_is P cc false _ hR3 Hop.out).mono ?_; rintro e w4 ⟨rfl, bb⟩; replace B := B.trans (bb.mono B.size); replace hR3 := P.next _ _ hR3 bb; clear bb) | (go_at_call 23; refine (rmay_is N1 false _ Hnb.out).mono ?_; rintro e w5 ⟨rfl, hw⟩; rw [hw]; clear hw; replace B := B.alloc B.size (.cells #[.int .u8 cc.toNat] 5); replace hR3 := P.next _ _ hR3 ((Below.refl _ _).alloc (Nat.le_refl _) (.cells #[.int .u8 cc.toNat] 5))) | (go_at_call_of 20 (Value.int IntKind.u8 61); refine (poper_is P 61 false _ hR3 (by decide)).mono ?_; rintro e w6 ⟨rfl, bb⟩; replace B := B.trans (bb.mono B.size); replace hR3 := P.next _ _ hR3 bb; clear bb) | (go_at_call_of 20 (Value.int IntKind.u8 44); refine (poper_is P 44 false _ hR3 (by decide)).mono ?_; rintro e w6 ⟨rfl, bb⟩; replace B := B.trans (bb.mono B.size); replace hR3 := P.next _ _ hR3 bb; clear bb) | (go_at_call_of 20 (Value.int IntKind.u8 33); refine (poper_is P 33 false _ hR3 (by decide)).mono ?_; rintro e w6 ⟨rfl, bb⟩; replace B := B.trans (bb.mono B.size); replace hR3 := P.next _ _ hR3 bb; clear bb) | (go_at_call_of 20 (Value.int IntKind.u8 64); refine (poper_is P 64 false _ hR3 (by decide)).mono ?_; rintro e w6 ⟨rfl, bb⟩; replace B := B.trans (bb.mono B.size); replace hR3 := P.next _ _ hR3 bb; clear bb) | (go_at_call_of 20 (Value.int IntKind.u8 124); refine (poper_is P 124 false _ hR3 (by decide)).mono ?_; rintro e w6 ⟨rfl, bb⟩; replace B := B.trans (bb.mono B.size); replace hR3 := P.next _ _ hR3 bb; clear bb))
              all_goals go_ret
              all_goals exact ⟨rfl, B⟩
            · have hk2 : ((k : Int) == (lit.size : Int) + 1) = true := by simp; omega
              clear he hsome hk hnb hN1l hD3l hD2s hD1s hO hOl hOs hlb hcl hop0 hcz hop2 hk1
              go_enter Tryz.func5, Tryz.ntmps5
              go_wp2_with (first | (go_at_call 6; refine (awake_any P _ hR).mono ?_; rintro e w1 ⟨rfl, bb⟩; replace B := bb; have hR1 := P.next _ _ hR bb; clear bb) | (go_at_call 22; refine (rliteral_is lit true _ (by omega) Hlb.out).mono ?_; rintro e w2 ⟨rfl, bb⟩; replace B := B.trans (bb.mono B.size); have hR2 := P.next _ _ hR1 bb; clear bb) | (go_at_call 7; refine (pfar_is P D3 k 2 _ (P.next _ _ hR2 ((Below.refl _ _).alloc (Nat.le_refl _) _)) (by omega) Hk.out He.out).mono ?_; rintro e w3 ⟨⟨x1, x2, x3, rfl⟩, bb⟩; have hR3 := P.next _ _ (P.next _ _ hR2 ((Below.refl _ _).alloc (Nat.le_refl _) _)) bb; replace B := bel_alloc B bb; clear bb) | (go_at_call_of 20 (Value.int IntKind.u8 ↑cc.toNat); refine (poper_is P cc false _ hR3 Hop.out).mono ?_; rintro e w4 ⟨rfl, bb⟩; replace B := B.trans (bb.mono B.size); replace hR3 := P.next _ _ hR3 bb; clear bb) | (go_at_call 23; refine (rmay_is N1 false _ Hnb.out).mono ?_; rintro e w5 ⟨rfl, hw⟩; rw [hw]; clear hw; replace B := B.alloc B.size (.cells #[.int .u8 cc.toNat] 5); replace hR3 := P.next _ _ hR3 ((Below.refl _ _).alloc (Nat.le_refl _) (.cells #[.int .u8 cc.toNat] 5))) | (go_at_call_of 20 (Value.int IntKind.u8 61); refine (poper_is P 61 false _ hR3 (by decide)).mono ?_; rintro e w6 ⟨rfl, bb⟩; replace B := B.trans (bb.mono B.size); replace hR3 := P.next _ _ hR3 bb; clear bb) | (go_at_call_of 20 (Value.int IntKind.u8 44); refine (poper_is P 44 false _ hR3 (by decide)).mono ?_; rintro e w6 ⟨rfl, bb⟩; replace B := B.trans (bb.mono B.size); replace hR3 := P.next _ _ hR3 bb; clear bb) | (go_at_call_of 20 (Value.int IntKind.u8 33); refine (poper_is P 33 false _ hR3 (by decide)).mono ?_; rintro e w6 ⟨rfl, bb⟩; replace B := B.trans (bb.mono B.size); replace hR3 := P.next _ _ hR3 bb; clear bb) | (go_at_call_of 20 (Value.int IntKind.u8 64); refine (poper_is P 64 false _ hR3 (by decide)).mono ?_; rintro e w6 ⟨rfl, bb⟩; replace B := B.trans (bb.mono B.size); replace hR3 := P.next _ _ hR3 bb; clear bb) | (go_at_call_of 20 (Value.int IntKind.u8 124); refine (poper_is P 124 false _ hR3 (by decide)).mono ?_; rintro e w6 ⟨rfl, bb⟩; replace B := B.trans (bb.mono B.size); replace hR3 := P.next _ _ hR3 bb; clear bb))
              all_goals go_ret
              all_goals exact ⟨rfl, B⟩
          · have he : (if (isT D3.data.toList).isSome then (0 : Int) else 2) = 0 := by rw [hsome]; rfl
            have He := hide he
            clear he hsome hk hnb hN1l hD3l hD2s hD1s hO hOl hOs hlb hcl hop0 hcz hop2
            go_enter Tryz.func5, Tryz.ntmps5
            go_wp2_with (first | (go_at_call 6; refine (awake_any P _ hR).mono ?_; rintro e w1 ⟨rfl, bb⟩; replace B := bb; have hR1 := P.next _ _ hR bb; clear bb) | (go_at_call 22; refine (rliteral_is lit true _ (by omega) Hlb.out).mono ?_; rintro e w2 ⟨rfl, bb⟩; replace B := B.trans (bb.mono B.size); have hR2 := P.next _ _ hR1 bb; clear bb) | (go_at_call 7; refine (pfar_is P D3 k 0 _ (P.next _ _ hR2 ((Below.refl _ _).alloc (Nat.le_refl _) _)) (by omega) Hk.out He.out).mono ?_; rintro e w3 ⟨⟨x1, x2, x3, rfl⟩, bb⟩; have hR3 := P.next _ _ (P.next _ _ hR2 ((Below.refl _ _).alloc (Nat.le_refl _) _)) bb; replace B := bel_alloc B bb; clear bb) | (go_at_call_of 20 (Value.int IntKind.u8 ↑cc.toNat); refine (poper_is P cc false _ hR3 Hop.out).mono ?_; rintro e w4 ⟨rfl, bb⟩; replace B := B.trans (bb.mono B.size); replace hR3 := P.next _ _ hR3 bb; clear bb) | (go_at_call 23; refine (rmay_is N1 true _ Hnb.out).mono ?_; rintro e w5 ⟨rfl, hw⟩; rw [hw]; clear hw; replace B := B.alloc B.size (.cells #[.int .u8 cc.toNat] 5); replace hR3 := P.next _ _ hR3 ((Below.refl _ _).alloc (Nat.le_refl _) (.cells #[.int .u8 cc.toNat] 5))) | (go_at_call_of 20 (Value.int IntKind.u8 61); refine (poper_is P 61 false _ hR3 (by decide)).mono ?_; rintro e w6 ⟨rfl, bb⟩; replace B := B.trans (bb.mono B.size); replace hR3 := P.next _ _ hR3 bb; clear bb) | (go_at_call_of 20 (Value.int IntKind.u8 44); refine (poper_is P 44 false _ hR3 (by decide)).mono ?_; rintro e w6 ⟨rfl, bb⟩; replace B := B.trans (bb.mono B.size); replace hR3 := P.next _ _ hR3 bb; clear bb) | (go_at_call_of 20 (Value.int IntKind.u8 33); refine (poper_is P 33 false _ hR3 (by decide)).mono ?_; rintro e w6 ⟨rfl, bb⟩; replace B := B.trans (bb.mono B.size); replace hR3 := P.next _ _ hR3 bb; clear bb) | (go_at_call_of 20 (Value.int IntKind.u8 64); refine (poper_is P 64 false _ hR3 (by decide)).mono ?_; rintro e w6 ⟨rfl, bb⟩; replace B := B.trans (bb.mono B.size); replace hR3 := P.next _ _ hR3 bb; clear bb) | (go_at_call_of 20 (Value.int IntKind.u8 124); refine (poper_is P 124 false _ hR3 (by decide)).mono ?_; rintro e w6 ⟨rfl, bb⟩; replace B := B.trans (bb.mono B.size); replace hR3 := P.next _ _ hR3 bb; clear bb))
            all_goals go_ret
            all_goals exact ⟨rfl, B⟩
end Go.Proofs.YtjbnofljoijnmaaGreatDoor

/-
  WALKS: the law TmplBack.
-/
namespace Go.Proofs.YtjbnofljoijnmaaGreatDoor
open Go.RowKit Go.Lib

/-- what any parts are that memory can hold -/
def WideT (ts : List Pt) : Prop := ts.length ≤ 9223372036854775807 ∧ (∀ x ∈ ts, x.specs.length ≤ 9223372036854775807) ∧ ∀ x ∈ ts, x.lit.length ≤ 9223372036854775807 ∧ ∀ y ∈ x.specs, y.name.length ≤ 9223372036854775807
theorem put_le (y : Sp) : (putL y).length ≤ y.name.length + 5 := by
  unfold putL
  split
  · rename_i h
    obtain ⟨_, h2, h3, _⟩ := (may_iff y).1 h
    split
    · simp
    · split
      · have := fig_len y.max.toNat 3 (by omega)
        simp only [List.length_append, List.length_cons]
        omega
      · omega
  · simp
theorem join_le (ps : List (List UInt8)) (M : Nat) (h : ∀ p ∈ ps, p.length ≤ M) : (joinC ps).length ≤ ps.length * (M + 1) := by
  induction ps with
  | nil => simp [joinC]
  | cons a r ih =>
    have h1 := h a (by simp)
    have h2 := ih (fun p hp => h p (by simp [hp]))
    cases r with
    | nil =>
      show a.length ≤ 1 * (M + 1)
      omega
    | cons b r =>
      show (a ++ 44 :: joinC (b :: r)).length ≤ ((b :: r).length + 1) * (M + 1)
      rw [List.length_append, List.length_cons, Nat.add_mul]
      omega
theorem few_len {x : Pt} (h1 : x.lit.length ≤ 200) (h2 : x.specs.length ≤ 20) (h3 : ∀ y ∈ x.specs, y.name.length ≤ 200) : (putPt x).length ≤ 5000 := by
  have hj := join_le (x.specs.map putL) 205 (fun p hp => by
    obtain ⟨y, hy, rfl⟩ := List.mem_map.1 hp
    have := put_le y
    have := h3 y hy
    omega)
  rw [List.length_map] at hj
  have ho : (opL x.op).length ≤ 1 := by unfold opL; split <;> simp
  unfold putPt bodyL
  rw [List.length_append]
  split
  · simp; omega
  · simp only [List.length_cons, List.length_append, List.length_nil]
    omega
theorem few_all_len {ts : List Pt} (h : ∀ x ∈ ts, (putPt x).length ≤ 5000) : (putF ts).length ≤ 5000 * ts.length := by
  induction ts with
  | nil => simp [putF]
  | cons a r ih =>
    have h1 := h a (by simp)
    have h2 := ih (fun x hx => h x (by simp [hx]))
    show (putPt a ++ putF r).length ≤ 5000 * (r.length + 1)
    rw [List.length_append]
    omega
end Go.Proofs.YtjbnofljoijnmaaGreatDoor

/-
  WALKS: the law TmplTells.
-/
namespace Go.Proofs.YtjbnofljoijnmaaGreatDoor
open Go.RowKit Go.Lib

theorem strs_form {w : World} {v : Value} {ps : List (List UInt8)} (h : StrsAt w v ps) : ∃ a cap, v = .slice a ps.length cap := by
  rcases h with ⟨rfl, ao, cap, rfl⟩ | ⟨hp, b, off, cap, rfl, hc⟩
  · exact ⟨_, _, rfl⟩
  · exact ⟨_, _, rfl⟩
theorem texts_same (ts : List Pt) (u v : Value) (w : World) (hn : (namesT ts).length ≤ 1000000) (h1 : StrsAt w u (namesT ts)) (h2 : StrsAt w v (namesT ts)) : Calls Tryz.prog 16 #[u, v] w fun e w' => e = .returned (.bool true) ∧ Below w.heap.size w w' := by
  refine (texts_any (namesT ts) (namesT ts) u v w (by omega) h1 h2).mono ?_
  rintro e w' ⟨rfl, bb⟩
  exact ⟨by simp, bb⟩
theorem many_is (v : Value) (ts : List Pt) (n : Nat) (w : World) (h : PtsAt w v ts) (hn : ts.length ≤ 1000) (hs : ∀ x ∈ ts, x.specs.length ≤ 1000) (hm : manyT ts = n) : Calls Tryz.prog 19 #[v] w fun e w' => e = .returned (.int .i64 (n : Int)) ∧ w' = w := by
  subst hm; exact many_any v ts w h hn hs
set_option maxRecDepth 20000 in
set_option maxHeartbeats 4000000 in
theorem tells_walk {R : World → Prop} (P : Prg R) (v : Value) (ts : List Pt) (cc : UInt8) (w : World) (hR : R w) (H : PtsAt w v ts) (hw : WideT ts) : Calls Tryz.prog 4 #[v, .int .u8 (cc.toNat : Int)] w fun e w' => e = .returned (.bool true) ∧ Below w.heap.size w w' := by
  have B := Below.refl w.heap.size w
  obtain ⟨a0, c0, rfl⟩ := H.form
  cases hfew : fewT ts with
  | false =>
    have Hfew := hide hfew
    clear hfew
    go_enter Tryz.func4, Tryz.ntmps4
    go_wp2_with (first | (go_at_call 6; refine (awake_any P _ hR).mono ?_; rintro e w1 ⟨rfl, bb⟩; replace B := bb; have hR1 := P.next _ _ hR bb; have H1 := H.later bb; clear bb) | (go_at_call 10; refine (few_is _ ts false _ H1 hw.1 hw.2.1 hw.2.2 Hfew.out).mono ?_; rintro e w2 ⟨rfl, hw2⟩; rw [hw2]; clear hw2))
    all_goals go_ret
    all_goals exact ⟨rfl, B⟩
  | true =>
    obtain ⟨hsm, hl30⟩ := small_few hfew
    have hpl : (putF ts).length ≤ 150000 := by
      have := few_all_len (ts := ts) (fun x hx => by
        obtain ⟨a, b, c⟩ := (few_all hfew).2 x hx
        exact few_len a b c)
      omega
    have hs1 : ∀ x ∈ ts, x.specs.length ≤ 1000 := fun x hx => (hsm.2 x hx).1
    have hs5 : ∀ x ∈ ts, x.specs.length ≤ 100000 := fun x hx => by have := (hsm.2 x hx).1; omega
    have hl5 : ∀ x ∈ ts, x.lit.length ≤ 100000 := fun x hx => (hsm.2 x hx).2.1
    have hy5 : ∀ x ∈ ts, ∀ y ∈ x.specs, y.name.length ≤ 1000000 := fun x hx y hy => by have := (hsm.2 x hx).2.2 y hy; omega
    have hnn : (namesT ts).length ≤ 1000000 := by
      have := names_lenT ts hs1 ts.length
      rw [List.take_length] at this
      omega
    obtain ⟨mb, hm⟩ : ∃ mb, mayT ts = mb := ⟨_, rfl⟩
    obtain ⟨ob, hob⟩ : ∃ ob, operB cc = ob := ⟨_, rfl⟩
    obtain ⟨PB, hPB⟩ : ∃ PB : ByteArray, PB = ⟨(putT ts).toArray⟩ := ⟨_, rfl⟩
    have hPBl : PB.data.toList = putT ts := by rw [hPB]
    obtain ⟨nl, hnl⟩ : ∃ nl, (namesT ts).length = nl := ⟨_, rfl⟩
    obtain ⟨mt, hmt⟩ : ∃ mt, manyT ts = mt := ⟨_, rfl⟩
    have hon : onceT ts = decide (nl = mt) := by unfold onceT; rw [hnl, hmt]
    have Hfew := hide hfew
    have Hsm := hide hsm
    have Hm := hide hm
    have Hop := hide hob
    have HPB := hide hPBl
    have Hs1 := hide hs1
    have Hs5 := hide hs5
    have Hl5 := hide hl5
    have Hy5 := hide hy5
    have Hnn := hide hnn
    have Hnl := hide hnl
    have Hmt := hide hmt
    clear hfew hsm hm hob hPB hPBl hs1 hs5 hl5 hy5 hnn hnl hmt
    by_cases heq : nl = mt
    · have hon2 : onceT ts = true := by rw [hon]; simp [heq]
      have Hon := hide hon2
      have hq : ((nl : Int) == (mt : Int)) = true := by simp [heq]
      clear hon hon2 heq
      go_enter Tryz.func4, Tryz.ntmps4
      go_wp2_with (first | (go_at_call 6; refine (awake_any P _ hR).mono ?_; rintro e w1 ⟨rfl, bb⟩; replace B := bb; have hR1 := P.next _ _ hR bb; have H1 := H.later bb; clear bb) | (go_at_call 10; refine (few_is _ ts true _ H1 hw.1 hw.2.1 hw.2.2 Hfew.out).mono ?_; rintro e w2 ⟨rfl, hw2⟩; rw [hw2]; clear hw2) | (go_at_call 11; refine (names_any _ ts _ H1 (by omega) Hs1.out).mono ?_; rintro e w3 ⟨u, rfl, hu, bb⟩; obtain ⟨ua, uc, eu⟩ := strs_form hu; rw [eu] at hu; rw [eu]; clear eu; rw [Hnl.out] at hu ⊢; replace B := B.trans (bb.mono B.size); replace hR1 := P.next _ _ hR1 bb; replace H1 := H1.later bb; clear bb) | (go_at_call 12; refine (pmayT_is P _ ts mb _ hR1 H1 Hsm.out Hm.out).mono ?_; rintro e w4 ⟨rfl, bb⟩; replace B := B.trans (bb.mono B.size); replace hR1 := P.next _ _ hR1 bb; replace H1 := H1.later bb; replace hu := hu.later bb; clear bb) | (go_at_call 13; refine (rmayT_is _ ts mb _ H1 (by omega) Hs5.out Hl5.out Hm.out).mono ?_; rintro e w5 ⟨rfl, bb⟩; replace B := B.trans (bb.mono B.size); replace hR1 := P.next _ _ hR1 bb; replace H1 := H1.later bb; replace hu := hu.later bb; clear bb) | (go_at_call 14; refine (pputT_is P _ ts PB _ hR1 H1 Hsm.out (by omega) HPB.out).mono ?_; rintro e w6 ⟨rfl, bb⟩; replace B := B.trans (bb.mono B.size); replace hR1 := P.next _ _ hR1 bb; replace H1 := H1.later bb; replace hu := hu.later bb; clear bb) | (go_at_call 15; refine (rputT_is _ ts PB _ H1 (by omega) Hs5.out Hl5.out Hy5.out (by omega) HPB.out).mono ?_; rintro e w7 ⟨rfl, bb⟩; replace B := B.trans (bb.mono B.size); replace hR1 := P.next _ _ hR1 bb; replace H1 := H1.later bb; replace hu := hu.later bb; clear bb) | (go_at_call 17; refine (P.names _ ts _ hR1 H1 Hsm.out).mono ?_; rintro e w8 ⟨u2, rfl, hu2, bb⟩; replace B := B.trans (bb.mono B.size); replace hR1 := P.next _ _ hR1 bb; replace H1 := H1.later bb; replace hu := hu.later bb; clear bb) | (go_at_call 16; refine (texts_same ts _ _ _ Hnn.out hu2 hu).mono ?_; rintro e w9 ⟨rfl, bb⟩; replace B := B.trans (bb.mono B.size); replace hR1 := P.next _ _ hR1 bb; replace H1 := H1.later bb; replace hu := hu.later bb; clear bb) | (go_at_call 18; refine (ponce_is P _ ts true _ hR1 H1 Hsm.out Hon.out).mono ?_; rintro e w10 ⟨rfl, bb⟩; replace B := B.trans (bb.mono B.size); replace hR1 := P.next _ _ hR1 bb; replace H1 := H1.later bb; clear bb) | (go_at_call 19; refine (many_is _ ts mt _ H1 (by omega) Hs1.out Hmt.out).mono ?_; rintro e w11 ⟨rfl, hw2⟩; rw [hw2]; clear hw2) | (go_at_call 20; refine (poper_is P cc ob _ hR1 Hop.out).mono ?_; rintro e w12 ⟨rfl, bb⟩; replace B := B.trans (bb.mono B.size); replace hR1 := P.next _ _ hR1 bb; replace H1 := H1.later bb; clear bb) | (go_at_call 21; refine (roper_is cc ob _ Hop.out).mono ?_; rintro e w13 ⟨rfl, hw2⟩; rw [hw2]; clear hw2))
      all_goals go_ret
      all_goals exact ⟨rfl, B⟩
    · have hon2 : onceT ts = false := by rw [hon]; simp [heq]
      have Hon := hide hon2
      have hq : ((nl : Int) == (mt : Int)) = false := by simp; omega
      clear hon hon2 heq
      go_enter Tryz.func4, Tryz.ntmps4
      go_wp2_with (first | (go_at_call 6; refine (awake_any P _ hR).mono ?_; rintro e w1 ⟨rfl, bb⟩; replace B := bb; have hR1 := P.next _ _ hR bb; have H1 := H.later bb; clear bb) | (go_at_call 10; refine (few_is _ ts true _ H1 hw.1 hw.2.1 hw.2.2 Hfew.out).mono ?_; rintro e w2 ⟨rfl, hw2⟩; rw [hw2]; clear hw2) | (go_at_call 11; refine (names_any _ ts _ H1 (by omega) Hs1.out).mono ?_; rintro e w3 ⟨u, rfl, hu, bb⟩; obtain ⟨ua, uc, eu⟩ := strs_form hu; rw [eu] at hu; rw [eu]; clear eu; rw [Hnl.out] at hu ⊢; replace B := B.trans (bb.mono B.size); replace hR1 := P.next _ _ hR1 bb; replace H1 := H1.later bb; clear bb) | (go_at_call 12; refine (pmayT_is P _ ts mb _ hR1 H1 Hsm.out Hm.out).mono ?_; rintro e w4 ⟨rfl, bb⟩; replace B := B.trans (bb.mono B.size); replace hR1 := P.next _ _ hR1 bb; replace H1 := H1.later bb; replace hu := hu.later bb; clear bb) | (go_at_call 13; refine (rmayT_is _ ts mb _ H1 (by omega) Hs5.out Hl5.out Hm.out).mono ?_; rintro e w5 ⟨rfl, bb⟩; replace B := B.trans (bb.mono B.size); replace hR1 := P.next _ _ hR1 bb; replace H1 := H1.later bb; replace hu := hu.later bb; clear bb) | (go_at_call 14; refine (pputT_is P _ ts PB _ hR1 H1 Hsm.out (by omega) HPB.out).mono ?_; rintro e w6 ⟨rfl, bb⟩; replace B := B.trans (bb.mono B.size); replace hR1 := P.next _ _ hR1 bb; replace H1 := H1.later bb; replace hu := hu.later bb; clear bb) | (go_at_call 15; refine (rputT_is _ ts PB _ H1 (by omega) Hs5.out Hl5.out Hy5.out (by omega) HPB.out).mono ?_; rintro e w7 ⟨rfl, bb⟩; replace B := B.trans (bb.mono B.size); replace hR1 := P.next _ _ hR1 bb; replace H1 := H1.later bb; replace hu := hu.later bb; clear bb) | (go_at_call 17; refine (P.names _ ts _ hR1 H1 Hsm.out).mono ?_; rintro e w8 ⟨u2, rfl, hu2, bb⟩; replace B := B.trans (bb.mono B.size); replace hR1 := P.next _ _ hR1 bb; replace H1 := H1.later bb; replace hu := hu.later bb; clear bb) | (go_at_call 16; refine (texts_same ts _ _ _ Hnn.out hu2 hu).mono ?_; rintro e w9 ⟨rfl, bb⟩; replace B := B.trans (bb.mono B.size); replace hR1 := P.next _ _ hR1 bb; replace H1 := H1.later bb; replace hu := hu.later bb; clear bb) | (go_at_call 18; refine (ponce_is P _ ts false _ hR1 H1 Hsm.out Hon.out).mono ?_; rintro e w10 ⟨rfl, bb⟩; replace B := B.trans (bb.mono B.size); replace hR1 := P.next _ _ hR1 bb; replace H1 := H1.later bb; clear bb) | (go_at_call 19; refine (many_is _ ts mt _ H1 (by omega) Hs1.out Hmt.out).mono ?_; rintro e w11 ⟨rfl, hw2⟩; rw [hw2]; clear hw2) | (go_at_call 20; refine (poper_is P cc ob _ hR1 Hop.out).mono ?_; rintro e w12 ⟨rfl, bb⟩; replace B := B.trans (bb.mono B.size); replace hR1 := P.next _ _ hR1 bb; replace H1 := H1.later bb; clear bb) | (go_at_call 21; refine (roper_is cc ob _ Hop.out).mono ?_; rintro e w13 ⟨rfl, hw2⟩; rw [hw2]; clear hw2))
      all_goals go_ret
      all_goals exact ⟨rfl, B⟩
end Go.Proofs.YtjbnofljoijnmaaGreatDoor
