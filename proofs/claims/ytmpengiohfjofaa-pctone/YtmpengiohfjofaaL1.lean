/-
  THE WALK of PctOne.
-/
import Derived.Test.YtmpengiohfjofaaW20
namespace Go.Proofs.Ytmpengiohfjofaa
open Go.RowKit

set_option maxRecDepth 20000 in
set_option maxHeartbeats 2000000 in
theorem one_walk (c : Int) (s : ByteArray) (w : World) (h0 : 0 ≤ c) (h1 : c ≤ 255) :
    Calls Try.prog 3 #[.int .u8 c, .string s] w fun e w' => e = .returned (.bool true) ∧ Below w.heap.size w w' := by
  have B := Below.refl w.heap.size w
  by_cases hbig : 2000 < s.size
  · go_enter Try.func3, Try.ntmps3
    go_wp2_with (first
      | (go_at_call 9; refine (awake_any _).mono ?_; rintro e w1 ⟨rfl, bb⟩; replace B := B.trans (bb.mono B.size); clear bb))
    go_ret
    exact ⟨rfl, B⟩
  · obtain ⟨n, hn⟩ : ∃ n : Int, (digN c.toNat : Int) = n := ⟨_, rfl⟩
    obtain ⟨b, hb⟩ : ∃ b, hexN c.toNat = b := ⟨_, rfl⟩
    obtain ⟨m, hm⟩ : ∃ m : ByteArray, m = ⟨(oneN c.toNat).toArray⟩ := ⟨_, rfl⟩
    obtain ⟨t, ht⟩ : ∃ t, tripB s.data.toList = t := ⟨_, rfl⟩
    have Hn := hide hn
    have Hb := hide hb
    have Hm := hide hm
    have Ht := hide ht
    clear hn hb hm ht
    go_enter Try.func3, Try.ntmps3
    go_wp2_with (first
      | (go_at_call 9; refine (awake_any _).mono ?_; rintro e w1 ⟨rfl, bb⟩; replace B := B.trans (bb.mono B.size); clear bb)
      | (go_at_call 10; refine (dig_is c n b _ h0 h1 Hn.out Hb.out).mono ?_; rintro e w1 ⟨rfl, hw⟩; rw [hw]; clear hw)
      | (go_at_call 11; refine (rdig_is c n b _ h0 h1 Hn.out Hb.out).mono ?_; rintro e w1 ⟨rfl, hw⟩; rw [hw]; clear hw)
      | (go_at_call 12; refine (one3_is c m _ h0 h1 Hm.out).mono ?_; rintro e w1 ⟨rfl, bb⟩; replace B := B.trans (bb.mono B.size); clear bb)
      | (go_at_call 13; refine (rone3_is c m _ h0 h1 Hm.out).mono ?_; rintro e w1 ⟨rfl, bb⟩; replace B := B.trans (bb.mono B.size); clear bb)
      | (go_at_call 14; refine (trip_is' s t _ Ht.out).mono ?_; rintro e w1 ⟨rfl, hw⟩; rw [hw]; clear hw)
      | (go_at_call 15; refine (rtrip_is s t _ Ht.out).mono ?_; rintro e w1 ⟨rfl, hw⟩; rw [hw]; clear hw))
    go_ret
    exact ⟨rfl, B⟩
end Go.Proofs.Ytmpengiohfjofaa
