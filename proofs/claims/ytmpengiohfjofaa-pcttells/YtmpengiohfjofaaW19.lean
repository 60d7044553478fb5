/-
  WALKS: the reference's Decode.
-/
import Derived.Test.YtmpengiohfjofaaW18
namespace Go.Proofs.Ytmpengiohfjofaa
open Go.RowKit

theorem dec_head (x : ByteArray) (hp : 0 < x.size) (h : x[0] ≠ 37) : decL x.data.toList = (decL (x.extract 1 x.size).data.toList).map (x[0] :: ·) := by
  rw [cut_list]
  have e := list_one x hp
  have := dec_byte h (x.data.toList.drop 1)
  rw [← e] at this
  exact this
theorem dec_head3 (x : ByteArray) (h3 : 3 ≤ x.size) (h : tripB x.data.toList = true) : decL x.data.toList = (decL (x.extract 3 x.size).data.toList).map (pairV x[1] x[2] :: ·) := by
  rw [cut_list]
  have e := list_three x h3
  rw [trip_at x h3] at h
  simp at h
  have := dec_trip (b := x[1]) (c := x[2]) h.1.2 h.2 (x.data.toList.drop 3)
  rw [h.1.1] at e
  rw [← e] at this
  exact this
theorem dec_none (x : ByteArray) (hp : 0 < x.size) (h : x[0] = 37) (ht : tripB x.data.toList = false) : decL x.data.toList = none := by
  have e := list_one x hp
  rw [h] at e
  rw [e] at ht ⊢
  exact dec_bad ht
theorem dec_round {l r : List UInt8} {acc : List UInt8} {c : UInt8} {x : List UInt8} (hD : decL l = (decL x).map (acc ++ ·)) (hH : decL x = (decL r).map (c :: ·)) : decL l = (decL r).map ((acc ++ [c]) ++ ·) := by
  rw [hD, hH]
  cases decL r <;> simp
theorem cellsU_one (l : List UInt8) (c : UInt8) : cellsU (l ++ [c]) = cellsU l ++ [.int .u8 (c.toNat : Int)] := by
  unfold cellsU; simp

set_option maxRecDepth 20000 in
set_option maxHeartbeats 1000000 in
theorem rdec_any (s : ByteArray) (w : World) (hs : s.size ≤ 1000000) :
    Calls Try.prog 17 #[.string s] w fun e w' => e = .returned (decR (decL s.data.toList)) ∧ Below w.heap.size w w' := by
  obtain ⟨i0, hi, hz0, hz1, hz2⟩ := info_parts info5
  go_enter Try.func17, Try.ntmps17
  go_wp2
  go_loopw [0, 4] (fun v o wr => ∃ (x : ByteArray) (acc : List UInt8) (vo : Option Addr) (vc : Nat), v = .string x ∧ o = .slice vo acc.length vc ∧ wr.ownsRow w.heap.size 5 1 o acc.length (cellsU acc) ∧ Below w.heap.size w wr ∧ w.heap.size ≤ wr.heap.size ∧ acc.length + x.size ≤ s.size ∧ decL s.data.toList = (decL x.data.toList).map (acc ++ ·)) (fun v _ _ => lenOf v)
  case atStart => exact ⟨s, [], none, 0, rfl, rfl, World.ownsRow_nil _ _ _ _, Below.refl _ _, Nat.le_refl _, by simp, by cases decL s.data.toList <;> simp⟩
  case round =>
    obtain ⟨x, acc, vo, vc, rfl, rfl, hown, hB, hsz, hlen, hD⟩ := hrel
    have HD := hide hD
    clear hD
    by_cases hp : 0 < x.size
    · have hne := ne_some x hp
      have hb0 := UInt8.toNat_lt x[0]
      have hi0 : (0 : Int) ≤ x[0].toNat := by omega
      have hi1 : (x[0].toNat : Int) ≤ 255 := by omega
      by_cases h0 : x[0] = 37
      · have hc : ((x[0].toNat : Int) != 37) = false := by simp [h0]
        cases htr : tripB x.data.toList with
        | false =>
          have Hn := hide (dec_none x hp h0 htr)
          have Htr := hide htr
          clear htr h0
          go_wp2_with (first | (go_at_call 15; refine (rtrip_is _ _ _ Htr.out).mono ?_; rintro e w4 ⟨rfl, hw4⟩; rw [hw4]))
          go_ret2
          refine ⟨?_, hB⟩
          rw [HD.out, Hn.out]
          rfl
        | true =>
          have h3 : 3 ≤ x.size := Classical.byContradiction fun h' => by rw [trip_short x h'] at htr; cases htr
          have HR := hide (dec_round HD.out (dec_head3 x h3 htr))
          have Htr := hide htr
          have b1 := UInt8.toNat_lt x[1]
          have b2 := UInt8.toNat_lt x[2]
          have d1 := dig_le x[1].toNat
          have d2 := dig_le x[2].toNat
          have hsr : (x.extract 3 x.size).size = x.size - 3 := by simp
          obtain ⟨c, hcv⟩ : ∃ c, pairV x[1] x[2] = c := ⟨_, rfl⟩
          obtain ⟨hi', hhx⟩ : ∃ n, digN (x[1].toNat : Int).toNat = n := ⟨_, rfl⟩
          obtain ⟨lo', hly⟩ : ∃ n, digN (x[2].toNat : Int).toNat = n := ⟨_, rfl⟩
          have hcn : 16 * hi' + lo' = c.toNat := by
            rw [← hcv, ← hhx, ← hly, Int.toNat_natCast, Int.toNat_natCast]
            unfold pairV digV
            rw [u8_of _ (by omega)]
          rw [Int.toNat_natCast] at hhx hly
          rw [hhx] at d1
          rw [hly] at d2
          have Hx : Hid ((digN (x[1].toNat : Int).toNat : Int) = (hi' : Int)) := by rw [Int.toNat_natCast, hhx]; exact rfl
          have Hy : Hid ((digN (x[2].toNat : Int).toNat : Int) = (lo' : Int)) := by rw [Int.toNat_natCast, hly]; exact rfl
          have Hc := hide hcv
          have Hcn := hide hcn
          have T1 : Hid True := trivial
          clear htr h0 hcv hcn hhx hly
          go_wp2_with (first
            | (go_at_call 15; refine (rtrip_is _ _ _ Htr.out).mono ?_; rintro e w4 ⟨rfl, hw4⟩; rw [hw4])
            | (go_at_call 11; have z := T1; refine (rdig_is _ (hi' : Int) _ _ (by omega) (by omega) Hx.out rfl).mono ?_; rintro e w5 ⟨rfl, hw5⟩; rw [hw5]; clear T1 z)
            | (go_at_call 11; refine (rdig_is _ (lo' : Int) _ _ (by omega) (by omega) Hy.out rfl).mono ?_; rintro e w6 ⟨rfl, hw6⟩; rw [hw6])
            | (at_builtin; refine wpList_append_own _ rfl _ _ 36 rfl w.heap.size 5 i0 (.int .u8 0) 1 1 Try.underlying36 hi hz0 hz1 hz2 rfl (by decide) _ _ _ rfl (hown.alloc _) ⟨wr.heap.size, 0, none⟩ 1 1 [.int .u8 (16 * (hi' : Int) + (lo' : Int))] rfl rfl ?c1 ?c2 ?c3 ?c4 ?c5 ?_))
          case c1 =>
            intro j u hj
            match j, hj with
            | 0, hj => simp at hj; subst hj; simp [Addr.add]
          case c2 => intro u hu; simp at hu; subst hu; rfl
          case c3 => unfold maxLen; omega
          case c4 => omega
          case c5 => simp; omega
          · intro v' w2 hown' hgrow _
            have hB2 := below_own hB (Nat.le_refl _) hsz hown hgrow
            have hsz2 := hB2.size
            have hvs' : ∃ a c', v' = .slice a (acc.length + 1) c' := by
              rcases hown'.2 with ⟨_, h⟩ | ⟨g, cap, cur, rfl, _⟩
              · omega
              · exact ⟨_, _, rfl⟩
            obtain ⟨va', vc', hv'⟩ := hvs'
            rw [hv'] at hown' ⊢
            rw [show ((16 : Int) * (hi' : Int) + (lo' : Int)) = ((pairV x[1] x[2]).toNat : Int) by rw [Hc.out, ← Hcn.out]; omega] at hown'
            have Hown := hide hown'
            clear hown' hgrow hown hv'
            go_wp2
            go_roundw
            case rel => exact ⟨_, acc ++ [pairV x[1] x[2]], va', vc', rfl, by rw [List.length_append, List.length_singleton], by rw [cellsU_one, List.length_append, List.length_singleton]; exact Hown.out, hB2, hsz2, by rw [List.length_append, List.length_singleton]; omega, HR.out⟩
            case measure => simp only [lenOf]; omega
      · have hc : ((x[0].toNat : Int) != 37) = true := by
          have : x[0].toNat ≠ 37 := fun e => h0 (UInt8.toNat_inj.1 e)
          simp; omega
        have HR := hide (dec_round HD.out (dec_head x hp h0))
        have hsr : (x.extract 1 x.size).size = x.size - 1 := by simp
        clear h0
        go_wp2_with (first | (at_builtin; refine wpList_append_own _ rfl _ _ 36 rfl w.heap.size 5 i0 (.int .u8 0) 1 1 Try.underlying36 hi hz0 hz1 hz2 rfl (by decide) _ _ _ rfl (hown.alloc _) ⟨wr.heap.size, 0, none⟩ 1 1 [.int .u8 ((x[0].toNat : Int))] rfl rfl ?c1 ?c2 ?c3 ?c4 ?c5 ?_))
        case c1 =>
          intro j u hj
          match j, hj with
          | 0, hj => simp at hj; subst hj; simp [Addr.add]
        case c2 => intro u hu; simp at hu; subst hu; rfl
        case c3 => unfold maxLen; omega
        case c4 => omega
        case c5 => simp; omega
        · intro v' w2 hown' hgrow _
          have hB2 := below_own hB (Nat.le_refl _) hsz hown hgrow
          have hsz2 := hB2.size
          have hvs' : ∃ a c', v' = .slice a (acc.length + 1) c' := by
            rcases hown'.2 with ⟨_, h⟩ | ⟨g, cap, cur, rfl, _⟩
            · omega
            · exact ⟨_, _, rfl⟩
          obtain ⟨va', vc', hv'⟩ := hvs'
          rw [hv'] at hown' ⊢
          have Hown := hide hown'
          clear hown' hgrow hown hv'
          go_wp2
          go_roundw
          case rel => exact ⟨_, acc ++ [x[0]], va', vc', rfl, by rw [List.length_append, List.length_singleton], by rw [cellsU_one, List.length_append, List.length_singleton]; exact Hown.out, hB2, hsz2, by rw [List.length_append, List.length_singleton]; omega, HR.out⟩
          case measure => simp only [lenOf]; omega
    · have hne := ne_none x hp
      have hx := list_none x hp
      have HD2 : Hid (decL s.data.toList = some acc) := by show decL s.data.toList = some acc; rw [HD.out, hx, dec_nil]; simp
      clear hx
      have hcv := own_conv hown
      go_wp2
      go_ret2
      refine ⟨?_, hB⟩
      rw [HD2.out]
      rfl
end Go.Proofs.Ytmpengiohfjofaa
