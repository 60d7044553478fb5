/-
  THE WALK of PctNorm.
-/
import Derived.Test.YtmpengiohfjofaaL3
namespace Go.Proofs.Ytmpengiohfjofaa
open Go.RowKit

theorem norm_size {s m : ByteArray} (h : m.data.toList = normL s.data.toList) : m.size = s.size := by
  rw [size_list, h, norm_len, ← size_list]

set_option maxRecDepth 20000 in
set_option maxHeartbeats 2000000 in
theorem norm_walk (s : ByteArray) (w : World) :
    Calls Try.prog 7 #[.string s] w fun e w' => e = .returned (.bool true) ∧ Below w.heap.size w w' := by
  have B := Below.refl w.heap.size w
  by_cases hbig : 2000 < s.size
  · go_enter Try.func7, Try.ntmps7
    go_wp2_with (first
      | (go_at_call 9; refine (awake_any _).mono ?_; rintro e w1 ⟨rfl, bb⟩; replace B := B.trans (bb.mono B.size); clear bb))
    go_ret
    exact ⟨rfl, B⟩
  · have hs1 : s.size ≤ 300000 := by omega
    have hs2 : s.size ≤ 1000000 := by omega
    obtain ⟨m2, hm2⟩ : ∃ m : ByteArray, m.data.toList = encL false s.data.toList := ⟨⟨(encL false s.data.toList).toArray⟩, rfl⟩
    obtain ⟨m3, hm3⟩ : ∃ m : ByteArray, m.data.toList = normL s.data.toList := ⟨⟨(normL s.data.toList).toArray⟩, rfl⟩
    have z2 := (enc_size hm2).2
    have z3 := norm_size hm3
    have hz2 : m2.size ≤ 1000000 := by omega
    have hz3 : m3.size ≤ 1000000 := by omega
    obtain ⟨d, b, hd⟩ : ∃ d b, decR (decL s.data.toList) = .tuple #[.string d, .bool b] := by cases decL s.data.toList <;> exact ⟨_, _, rfl⟩
    have Hd3 : Hid (decR (decL m3.data.toList) = .tuple #[.string d, .bool b]) := by show decR (decL m3.data.toList) = _; rw [hm3, dec_norm, hd]
    have Hn3 : Hid (m3.data.toList = normL m3.data.toList) := by show m3.data.toList = normL m3.data.toList; rw [hm3, norm_again]
    have Hn2 : Hid (m2.data.toList = normL m2.data.toList) := by show m2.data.toList = normL m2.data.toList; rw [hm2, norm_enc]
    have Hm2 := hide hm2
    have Hm3 := hide hm3
    have Hd := hide hd
    clear hm2 hm3 hd
    go_enter Try.func7, Try.ntmps7
    go_wp2_with (first
      | (go_at_call 9; refine (awake_any _).mono ?_; rintro e w1 ⟨rfl, bb⟩; replace B := B.trans (bb.mono B.size); clear bb)
      | (go_at_call_of 16 m3; refine (dec_is m3 _ _ hz3 Hd3.out).mono ?_; rintro e w1 ⟨rfl, bb⟩; replace B := B.trans (bb.mono B.size); clear bb)
      | (go_at_call_of 16 s; refine (dec_is s _ _ hs2 Hd.out).mono ?_; rintro e w1 ⟨rfl, bb⟩; replace B := B.trans (bb.mono B.size); clear bb)
      | (go_at_call 18; refine (enc_is s false m2 _ hs1 Hm2.out).mono ?_; rintro e w1 ⟨rfl, bb⟩; replace B := B.trans (bb.mono B.size); clear bb)
      | (go_at_call_of 20 m3; refine (norm_is m3 m3 _ hz3 Hn3.out).mono ?_; rintro e w1 ⟨rfl, bb⟩; replace B := B.trans (bb.mono B.size); clear bb)
      | (go_at_call_of 20 m2; refine (norm_is m2 m2 _ hz2 Hn2.out).mono ?_; rintro e w1 ⟨rfl, bb⟩; replace B := B.trans (bb.mono B.size); clear bb)
      | (go_at_call_of 20 s; refine (norm_is s m3 _ hs2 Hm3.out).mono ?_; rintro e w1 ⟨rfl, bb⟩; replace B := B.trans (bb.mono B.size); clear bb))
    go_ret
    exact ⟨rfl, B⟩
end Go.Proofs.Ytmpengiohfjofaa
