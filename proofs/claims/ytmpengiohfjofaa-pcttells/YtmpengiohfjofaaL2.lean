/-
  THE WALK of PctTells.
-/
import Derived.Test.YtmpengiohfjofaaW20
namespace Go.Proofs.Ytmpengiohfjofaa
open Go.RowKit

set_option maxRecDepth 20000 in
set_option maxHeartbeats 2000000 in
theorem tells_walk (s : ByteArray) (w : World) :
    Calls Try.prog 4 #[.string s] w fun e w' => e = .returned (.bool true) ∧ Below w.heap.size w w' := by
  have B := Below.refl w.heap.size w
  by_cases hbig : 2000 < s.size
  · go_enter Try.func4, Try.ntmps4
    go_wp2_with (first
      | (go_at_call 9; refine (awake_any _).mono ?_; rintro e w1 ⟨rfl, bb⟩; replace B := B.trans (bb.mono B.size); clear bb))
    go_ret
    exact ⟨rfl, B⟩
  · have hs1 : s.size ≤ 300000 := by omega
    have hs2 : s.size ≤ 1000000 := by omega
    obtain ⟨m1, hm1⟩ : ∃ m : ByteArray, m.data.toList = encL true s.data.toList := ⟨⟨(encL true s.data.toList).toArray⟩, rfl⟩
    obtain ⟨m2, hm2⟩ : ∃ m : ByteArray, m.data.toList = encL false s.data.toList := ⟨⟨(encL false s.data.toList).toArray⟩, rfl⟩
    obtain ⟨m3, hm3⟩ : ∃ m : ByteArray, m.data.toList = normL s.data.toList := ⟨⟨(normL s.data.toList).toArray⟩, rfl⟩
    obtain ⟨d, b, hd⟩ : ∃ d b, decR (decL s.data.toList) = .tuple #[.string d, .bool b] := by cases decL s.data.toList <;> exact ⟨_, _, rfl⟩
    have Hm1 := hide hm1
    have Hm2 := hide hm2
    have Hm3 := hide hm3
    have Hd := hide hd
    clear hm1 hm2 hm3 hd
    go_enter Try.func4, Try.ntmps4
    go_wp2_with (first
      | (go_at_call 9; refine (awake_any _).mono ?_; rintro e w1 ⟨rfl, bb⟩; replace B := B.trans (bb.mono B.size); clear bb)
      | (go_at_call 16; refine (dec_is s _ _ hs2 Hd.out).mono ?_; rintro e w1 ⟨rfl, bb⟩; replace B := B.trans (bb.mono B.size); clear bb)
      | (go_at_call 17; refine (rdec_is s _ _ hs2 Hd.out).mono ?_; rintro e w1 ⟨rfl, bb⟩; replace B := B.trans (bb.mono B.size); clear bb)
      | (go_at_call_of 18 (Value.bool true); refine (enc_is s true m1 _ hs1 Hm1.out).mono ?_; rintro e w1 ⟨rfl, bb⟩; replace B := B.trans (bb.mono B.size); clear bb)
      | (go_at_call_of 19 (Value.bool true); refine (renc_is s true m1 _ hs1 Hm1.out).mono ?_; rintro e w1 ⟨rfl, bb⟩; replace B := B.trans (bb.mono B.size); clear bb)
      | (go_at_call_of 18 (Value.bool false); refine (enc_is s false m2 _ hs1 Hm2.out).mono ?_; rintro e w1 ⟨rfl, bb⟩; replace B := B.trans (bb.mono B.size); clear bb)
      | (go_at_call_of 19 (Value.bool false); refine (renc_is s false m2 _ hs1 Hm2.out).mono ?_; rintro e w1 ⟨rfl, bb⟩; replace B := B.trans (bb.mono B.size); clear bb)
      | (go_at_call 20; refine (norm_is s m3 _ hs2 Hm3.out).mono ?_; rintro e w1 ⟨rfl, bb⟩; replace B := B.trans (bb.mono B.size); clear bb)
      | (go_at_call 21; refine (rnorm_is s m3 _ hs2 Hm3.out).mono ?_; rintro e w1 ⟨rfl, bb⟩; replace B := B.trans (bb.mono B.size); clear bb))
    go_ret
    exact ⟨rfl, B⟩
end Go.Proofs.Ytmpengiohfjofaa
