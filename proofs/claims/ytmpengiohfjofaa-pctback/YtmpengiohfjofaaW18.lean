/-
  WALKS: the reference's Encode.
-/
import Derived.Test.YtmpengiohfjofaaW17
namespace Go.Proofs.Ytmpengiohfjofaa
open Go.RowKit

theorem runres_is (c : Int) (b : Bool) (w : World) (h0 : 0 ≤ c) (h1 : c ≤ 255) (h : unN c.toNat = b) : Calls Try.prog 23 #[.int .u8 c] w fun e w' => e = .returned (.bool b) ∧ w' = w := by
  have := runres_any c w h0 h1
  rw [un_fin ⟨c.toNat, by omega⟩] at this
  subst h; exact this
theorem rres_is (c : Int) (b : Bool) (w : World) (h0 : 0 ≤ c) (h1 : c ≤ 255) (h : reN c.toNat = b) : Calls Try.prog 24 #[.int .u8 c] w fun e w' => e = .returned (.bool b) ∧ w' = w := by
  have := rres_any c w h0 h1
  rw [re_fin ⟨c.toNat, by omega⟩] at this
  subst h; exact this
theorem rone3_is (c : Int) (m : ByteArray) (w : World) (h0 : 0 ≤ c) (h1 : c ≤ 255) (hm : m = ⟨(oneN c.toNat).toArray⟩) :
    Calls Try.prog 13 #[.int .u8 c] w fun e w' => e = .returned (.string m) ∧ Below w.heap.size w w' := by
  subst hm; exact rone3_any c w h0 h1

theorem app_list (a b : ByteArray) : (a ++ b).data.toList = a.data.toList ++ b.data.toList := by
  simp
theorem ne_some (x : ByteArray) (h : 0 < x.size) : (!x.toList.isEmpty) = true := by
  rw [Lib.toList_data, list_one x h]; rfl
theorem ne_none (x : ByteArray) (h : ¬ 0 < x.size) : (!x.toList.isEmpty) = false := by
  rw [Lib.toList_data, list_none x h]; rfl
theorem enc_head {keep : Bool} (x : ByteArray) (hp : 0 < x.size) (h : (keep && tripB x.data.toList) = false) : encL keep x.data.toList = pieceL keep x[0] ++ encL keep (x.extract 1 x.size).data.toList := by
  rw [cut_list]
  have e := list_one x hp
  rw [e] at h
  have := enc_byte h
  rw [← e] at this
  exact this
theorem head_one' (x : ByteArray) (hp : 0 < x.size) : (x.extract 0 1).data.toList = [x[0]] := by
  rw [head_list, list_one x hp]; rfl
theorem enc_head3 (x : ByteArray) (h : tripB x.data.toList = true) : 3 ≤ x.size ∧ encL true x.data.toList = (x.extract 0 3).data.toList ++ encL true (x.extract 3 x.size).data.toList := by
  have h3 : 3 ≤ x.size := Classical.byContradiction fun h' => by rw [trip_short x h'] at h; cases h
  refine ⟨h3, ?_⟩
  obtain ⟨b, c, r, hl, hb, hc⟩ := trip_is h
  rw [cut_list, head_list, hl, enc_trip hb hc]
  rfl
theorem size_list (x : ByteArray) : x.size = x.data.toList.length := by simp
/-- what a round leaves -/
theorem enc_round {keep : Bool} {s x y z r : ByteArray} (hE : encL keep s.data.toList = y.data.toList ++ encL keep x.data.toList) (hH : encL keep x.data.toList = z.data.toList ++ encL keep r.data.toList) : encL keep s.data.toList = (y ++ z).data.toList ++ encL keep r.data.toList := by
  rw [hE, hH, app_list, List.append_assoc]

set_option maxRecDepth 20000 in
set_option maxHeartbeats 4000000 in
theorem renc_any (keep : Bool) (s : ByteArray) (w : World) (hs : s.size ≤ 300000) :
    Calls Try.prog 19 #[.string s, .bool keep] w fun e w' => e = .returned (.string ⟨(encL keep s.data.toList).toArray⟩) ∧ Below w.heap.size w w' := by
  go_enter Try.func19, Try.ntmps19
  go_wp2
  go_loopw [0, 5] (fun v o wr => ∃ x y : ByteArray, v = .string x ∧ o = .string y ∧ Below w.heap.size w wr ∧ w.heap.size ≤ wr.heap.size ∧ y.size + 3 * x.size ≤ 3 * s.size ∧ encL keep s.data.toList = y.data.toList ++ encL keep x.data.toList) (fun v _ _ => lenOf v)
  case atStart => exact ⟨s, ⟨#[]⟩, rfl, rfl, Below.refl _ _, Nat.le_refl _, by show 0 + _ ≤ _; omega, rfl⟩
  case round =>
    obtain ⟨x, y, rfl, rfl, hB, hsz, hlen, hE⟩ := hrel
    have HE := hide hE
    clear hE
    by_cases hp : 0 < x.size
    · have hne := ne_some x hp
      have hb0 := UInt8.toNat_lt x[0]
      have hi0 : (0 : Int) ≤ x[0].toNat := by omega
      have hi1 : (x[0].toNat : Int) ≤ 255 := by omega
      obtain ⟨m, hm⟩ : ∃ m : ByteArray, m = ⟨(oneN (x[0].toNat : Int).toNat).toArray⟩ := ⟨_, rfl⟩
      have hml : m.data.toList = oneL x[0] := by rw [hm, one_N]; rfl
      have hm3 : m.size = 3 := by rw [size_list, hml]; rfl
      have hx1 := head_one' x hp
      have hx1s : (x.extract 0 1).size = 1 := by rw [size_list, hx1]; rfl
      have Hm := hide hm
      have Hml := hide hml
      have Hx1 := hide hx1
      clear hm hml hx1
      have hsr1 : (x.extract 1 x.size).size = x.size - 1 := by simp
      obtain ⟨tr, htr⟩ : ∃ t, tripB x.data.toList = t := ⟨_, rfl⟩
      obtain ⟨un, hu⟩ : ∃ t, unN (x[0].toNat : Int).toNat = t := ⟨_, rfl⟩
      obtain ⟨re, hr⟩ : ∃ t, reN (x[0].toNat : Int).toNat = t := ⟨_, rfl⟩
      have Htr := hide htr
      have Hu := hide hu
      have Hr := hide hr
      clear htr hu hr
      cases hkt : (keep && tr) with
      | true =>
        have hk : keep = true := by revert hkt; cases keep <;> simp
        have ht : tr = true := by revert hkt; cases keep <;> cases tr <;> simp
        subst hk ht
        obtain ⟨h3, hh⟩ := enc_head3 x Htr.out
        have HR := hide (enc_round HE.out hh)
        have hx3s : (x.extract 0 3).size = 3 := by simp; omega
        have hsr3 : (x.extract 3 x.size).size = x.size - 3 := by simp
        clear hh hkt
        cases un <;> cases re
        all_goals
          go_wp2_with (first
            | (go_at_call 13; refine (rone3_is _ m _ hi0 hi1 Hm.out).mono ?_; rintro e w1 ⟨rfl, b1⟩)
            | (go_at_call 23; refine (runres_is _ _ _ hi0 hi1 Hu.out).mono ?_; rintro e w2 ⟨rfl, hw⟩; rw [hw])
            | (go_at_call 24; refine (rres_is _ _ _ hi0 hi1 Hr.out).mono ?_; rintro e w3 ⟨rfl, hw3⟩; rw [hw3])
            | (go_at_call 15; refine (rtrip_is _ _ _ Htr.out).mono ?_; rintro e w4 ⟨rfl, hw4⟩; rw [hw4]))
          go_roundw
          case rel => exact ⟨_, _, rfl, rfl, hB.trans (b1.mono hsz), Nat.le_trans hsz b1.size, by rw [ByteArray.size_append]; omega, HR.out⟩
          case measure => simp only [lenOf]; omega
      | false =>
        have hh := enc_head (keep := keep) x hp (by rw [Htr.out]; exact hkt)
        have hstay : pieceL keep x[0] = if (un || (keep && re)) = true then (x.extract 0 1).data.toList else m.data.toList := by
          rw [Hml.out, Hx1.out]
          unfold pieceL stayB
          have e1 := Hu.out
          have e2 := Hr.out
          rw [Int.toNat_natCast] at e1 e2
          rw [e1, e2]
        rw [hstay] at hh
        clear hstay
        cases keep <;> cases un <;> cases re <;> cases tr <;> first | (cases hkt; done) | skip
        all_goals
          first | (have HR := hide (enc_round (z := m) HE.out hh)) | (have HR := hide (enc_round (z := x.extract 0 1) HE.out hh))
          clear hh hkt
          go_wp2_with (first
            | (go_at_call 13; refine (rone3_is _ m _ hi0 hi1 Hm.out).mono ?_; rintro e w1 ⟨rfl, b1⟩)
            | (go_at_call 23; refine (runres_is _ _ _ hi0 hi1 Hu.out).mono ?_; rintro e w2 ⟨rfl, hw⟩; rw [hw])
            | (go_at_call 24; refine (rres_is _ _ _ hi0 hi1 Hr.out).mono ?_; rintro e w3 ⟨rfl, hw3⟩; rw [hw3])
            | (go_at_call 15; refine (rtrip_is _ _ _ Htr.out).mono ?_; rintro e w4 ⟨rfl, hw4⟩; rw [hw4]))
          go_roundw
          case rel => exact ⟨_, _, rfl, rfl, hB.trans (b1.mono hsz), Nat.le_trans hsz b1.size, by rw [ByteArray.size_append]; omega, HR.out⟩
          case measure => simp only [lenOf]; omega
    · have hne := ne_none x hp
      have hx := list_none x hp
      have HE2 : Hid (encL keep s.data.toList = y.data.toList) := by show encL keep s.data.toList = y.data.toList; rw [HE.out, hx, enc_nil, List.append_nil]
      clear hx
      go_wp2
      go_ret
      refine ⟨?_, hB⟩
      rw [HE2.out]
      rfl
end Go.Proofs.Ytmpengiohfjofaa
