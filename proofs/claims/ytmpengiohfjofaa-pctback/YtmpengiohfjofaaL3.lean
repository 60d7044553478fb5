/-
  THE WALK of PctBack.
-/
import Derived.Test.YtmpengiohfjofaaW20
namespace Go.Proofs.Ytmpengiohfjofaa
open Go.RowKit

theorem enc_size {keep : Bool} {s m : ByteArray} (h : m.data.toList = encL keep s.data.toList) : s.size ≤ m.size ∧ m.size ≤ 3 * s.size := by
  have := enc_len keep s.data.toList
  rw [← h, ← size_list, ← size_list] at this
  exact this
theorem plain_all {l : List UInt8} (h : plainB l = true) : ∀ c ∈ l, c ≠ 37 := by
  intro c hc
  unfold plainB at h
  rw [List.all_eq_true] at h
  simpa using h c hc

set_option maxRecDepth 20000 in
set_option maxHeartbeats 2000000 in
theorem back_walk (s : ByteArray) (w : World) :
    Calls Try.prog 5 #[.string s] w fun e w' => e = .returned (.bool true) ∧ Below w.heap.size w w' := by
  have B := Below.refl w.heap.size w
  by_cases hbig : 2000 < s.size
  · go_enter Try.func5, Try.ntmps5
    go_wp2_with (first
      | (go_at_call 9; refine (awake_any _).mono ?_; rintro e w1 ⟨rfl, bb⟩; replace B := B.trans (bb.mono B.size); clear bb))
    go_ret
    exact ⟨rfl, B⟩
  · have hs1 : s.size ≤ 300000 := by omega
    have hs2 : s.size ≤ 1000000 := by omega
    obtain ⟨m1, hm1⟩ : ∃ m : ByteArray, m.data.toList = encL true s.data.toList := ⟨⟨(encL true s.data.toList).toArray⟩, rfl⟩
    obtain ⟨m2, hm2⟩ : ∃ m : ByteArray, m.data.toList = encL false s.data.toList := ⟨⟨(encL false s.data.toList).toArray⟩, rfl⟩
    have z1 := (enc_size hm1).2
    have z2 := (enc_size hm2).2
    have hz1 : m1.size ≤ 1000000 := by omega
    have hz2 : m2.size ≤ 1000000 := by omega
    have Hd2 : Hid (decR (decL m2.data.toList) = .tuple #[.string s, .bool true]) := by show decR (decL m2.data.toList) = _; rw [hm2, back_false]; rfl
    obtain ⟨x, hx, hpx⟩ := back_true s.data.toList
    obtain ⟨d, hdd⟩ : ∃ d : ByteArray, d = ⟨x.toArray⟩ := ⟨_, rfl⟩
    have Hd1 : Hid (decR (decL m1.data.toList) = .tuple #[.string d, .bool true]) := by show decR (decL m1.data.toList) = _; rw [hm1, hx, hdd]; rfl
    have Hm1 := hide hm1
    have Hm2 := hide hm2
    obtain ⟨T1, _⟩ : Hid True ∧ True := ⟨trivial, trivial⟩
    cases hpl : plainB s.data.toList with
    | true =>
      have hds : d = s := by rw [hdd, hpx (plain_all hpl)]
      subst hds
      have Hpl := hide hpl
      clear hm1 hm2 hx hpx hdd hpl
      go_enter Try.func5, Try.ntmps5
      go_wp2_with (first
        | (go_at_call 9; refine (awake_any _).mono ?_; rintro e w1 ⟨rfl, bb⟩; replace B := B.trans (bb.mono B.size); clear bb)
        | (go_at_call_of 16 m2; refine (dec_is m2 _ _ hz2 Hd2.out).mono ?_; rintro e w1 ⟨rfl, bb⟩; replace B := B.trans (bb.mono B.size); clear bb)
        | (go_at_call_of 16 m1; refine (dec_is m1 _ _ hz1 Hd1.out).mono ?_; rintro e w1 ⟨rfl, bb⟩; replace B := B.trans (bb.mono B.size); clear bb)
        | (go_at_call_of 18 (Value.bool true); refine (enc_is _ true m1 _ hs1 Hm1.out).mono ?_; rintro e w1 ⟨rfl, bb⟩; replace B := B.trans (bb.mono B.size); clear bb)
        | (go_at_call_of 18 (Value.bool false); refine (enc_is _ false m2 _ hs1 Hm2.out).mono ?_; rintro e w1 ⟨rfl, bb⟩; replace B := B.trans (bb.mono B.size); clear bb)
        | (go_at_call 22; refine (plain_is _ _ _ hs2 Hpl.out).mono ?_; rintro e w1 ⟨rfl, hw⟩; rw [hw]; clear hw))
      go_ret
      exact ⟨rfl, B⟩
    | false =>
      have Hpl := hide hpl
      clear hm1 hm2 hx hpx hdd hpl
      go_enter Try.func5, Try.ntmps5
      go_wp2_with (first
        | (go_at_call 9; refine (awake_any _).mono ?_; rintro e w1 ⟨rfl, bb⟩; replace B := B.trans (bb.mono B.size); clear bb)
        | (go_at_call_of 16 m2; refine (dec_is m2 _ _ hz2 Hd2.out).mono ?_; rintro e w1 ⟨rfl, bb⟩; replace B := B.trans (bb.mono B.size); clear bb)
        | (go_at_call_of 16 m1; refine (dec_is m1 _ _ hz1 Hd1.out).mono ?_; rintro e w1 ⟨rfl, bb⟩; replace B := B.trans (bb.mono B.size); clear bb)
        | (go_at_call_of 18 (Value.bool true); refine (enc_is _ true m1 _ hs1 Hm1.out).mono ?_; rintro e w1 ⟨rfl, bb⟩; replace B := B.trans (bb.mono B.size); clear bb)
        | (go_at_call_of 18 (Value.bool false); refine (enc_is _ false m2 _ hs1 Hm2.out).mono ?_; rintro e w1 ⟨rfl, bb⟩; replace B := B.trans (bb.mono B.size); clear bb)
        | (go_at_call 22; refine (plain_is _ _ _ hs2 Hpl.out).mono ?_; rintro e w1 ⟨rfl, hw⟩; rw [hw]; clear hw))
      go_ret
      exact ⟨rfl, B⟩
end Go.Proofs.Ytmpengiohfjofaa
