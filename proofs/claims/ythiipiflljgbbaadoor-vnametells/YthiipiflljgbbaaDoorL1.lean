/-
  THE WALK of VnameTells.
-/
import Derived.Test.YthiipiflljgbbaaDoorW7
namespace Go.Proofs.YthiipiflljgbbaaDoor
open Go.RowKit

set_option maxRecDepth 20000 in
set_option maxHeartbeats 2000000 in
theorem tells_walk (s : ByteArray) (w : World) :
    Calls Tryd.prog 3 #[.string s] w fun e w' => e = .returned (.bool true) ∧ Below w.heap.size w w' := by
  have B := Below.refl w.heap.size w
  by_cases hbig : 200 < s.size
  · go_enter Tryd.func3, Tryd.ntmps3
    go_wp2_with (first
      | (go_at_call 9; refine (awake_any _).mono ?_; rintro e w1 ⟨rfl, bb⟩; replace B := B.trans (bb.mono B.size); clear bb))
    go_ret
    exact ⟨rfl, B⟩
  · have hs : s.size ≤ 100000 := by omega
    obtain ⟨m, hm⟩ : ∃ b, nameB s.data.toList = b := ⟨_, rfl⟩
    obtain ⟨n, hn⟩ : ∃ b : Int, (badN s.data.toList : Int) = b := ⟨_, rfl⟩
    obtain ⟨e, he⟩ : ∃ b : Int, (endN s.data.toList : Int) = b := ⟨_, rfl⟩
    obtain ⟨ps, hps⟩ : ∃ ps, splitL s.data.toList = ps := ⟨_, rfl⟩
    have hpl : ps.length ≤ 1000000000000 := by
      rw [← hps]
      unfold splitL
      split
      · rw [parts_len]
        have h1 := List.count_le_length (a := (46 : UInt8)) (l := s.data.toList)
        rw [← size_list] at h1
        omega
      · simp
    have Hm := hide hm
    have Hn := hide hn
    have He := hide he
    have Hps := hide hps
    clear hm hn he hps
    go_enter Tryd.func3, Tryd.ntmps3
    go_wp2_with (first
      | (go_at_call 9; refine (awake_any _).mono ?_; rintro e w1 ⟨rfl, bb⟩; replace B := B.trans (bb.mono B.size); clear bb)
      | (go_at_call 10; refine (pmay_is s m _ hs Hm.out).mono ?_; rintro e w1 ⟨rfl, bb⟩; replace B := B.trans (bb.mono B.size); clear bb)
      | (go_at_call 11; refine (rmay_is s m _ Hm.out).mono ?_; rintro e w1 ⟨rfl, hw⟩; rw [hw]; clear hw)
      | (go_at_call 12; refine (pbad_is s n _ hs Hn.out).mono ?_; rintro e w1 ⟨rfl, bb⟩; replace B := B.trans (bb.mono B.size); clear bb)
      | (go_at_call 13; refine (rbad_is s n _ hs Hn.out).mono ?_; rintro e w1 ⟨rfl, hw⟩; rw [hw]; clear hw)
      | (go_at_call 14; refine (pend_is s e _ hs He.out).mono ?_; rintro e w1 ⟨rfl, bb⟩; replace B := B.trans (bb.mono B.size); clear bb)
      | (go_at_call 15; refine (rend_is s e _ hs He.out).mono ?_; rintro e w1 ⟨rfl, hw⟩; rw [hw]; clear hw)
      | (go_at_call 17; refine (psplit_is s ps _ hs Hps.out).mono ?_; rintro e w1 ⟨a1, cap1, rfl, S1, bb⟩; replace B := B.trans (bb.mono B.size); clear bb)
      | (go_at_call 18; refine (rsplit_is s ps _ hs Hps.out).mono ?_; rintro e w2 ⟨a2, cap2, rfl, S2, bb⟩; replace S1 := S1.later bb; replace B := B.trans (bb.mono B.size); clear bb)
      | (go_at_call 16; refine (texts_any ps ps _ _ _ hpl S1 S2).mono ?_; rintro e w3 ⟨rfl, bb⟩; replace B := B.trans (bb.mono B.size); clear bb))
    go_ret
    first | exact ⟨rfl, B⟩ | exact ⟨ret_bool (by simp; omega), B⟩
end Go.Proofs.YthiipiflljgbbaaDoor
