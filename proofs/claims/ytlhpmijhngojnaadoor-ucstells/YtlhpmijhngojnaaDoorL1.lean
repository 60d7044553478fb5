/-
  THE WALK of UcsTells.
-/
import Derived.Test.YtlhpmijhngojnaaDoorW13
namespace Go.Proofs.YtlhpmijhngojnaaDoor
open Go.RowKit
open Go.Lib (encodeRune)

set_option maxRecDepth 20000 in
set_option maxHeartbeats 2000000 in
theorem tells_walk (c : Int) (s : ByteArray) (w : World) (R : Ran w) :
    Calls Tryd.prog 3 #[.int .i64 c, .string s] w fun e w' => e = .returned (.bool true) ∧ Below w.heap.size w w' := by
  have B := Below.refl w.heap.size w
  have R1 := hide R
  clear R
  by_cases hbig : 1000 < s.size
  · go_enter Tryd.func3, Tryd.ntmps3
    go_wp2_with (first
      | (go_at_call 9; refine (awake_any _ (R1.out.next B)).mono ?_; rintro e w1 ⟨rfl, bb⟩; replace B := B.trans (bb.mono B.size); clear bb))
    go_ret
    exact ⟨rfl, B⟩
  · have hs : s.size ≤ 100000 := by omega
    obtain ⟨m, hm⟩ : ∃ b, mayU c = b := ⟨_, rfl⟩
    obtain ⟨a, ha⟩ : ∃ b, takeC s.data.toList = b := ⟨_, rfl⟩
    obtain ⟨n, hn⟩ : ∃ b : Int, (takeN s.data.toList : Int) = b := ⟨_, rfl⟩
    obtain ⟨f, hf⟩ : ∃ b, fitB s.data.toList = b := ⟨_, rfl⟩
    have Hm := hide hm
    have Ha := hide ha
    have Hn := hide hn
    have Hf := hide hf
    clear hm ha hn hf
    go_enter Tryd.func3, Tryd.ntmps3
    go_wp2_with (first
      | (go_at_call 9; refine (awake_any _ (R1.out.next B)).mono ?_; rintro e w1 ⟨rfl, bb⟩; replace B := B.trans (bb.mono B.size); clear bb)
      | (go_at_call 12; refine (pmay_is c m _ (R1.out.next B) Hm.out).mono ?_; rintro e w1 ⟨rfl, bb⟩; replace B := B.trans (bb.mono B.size); clear bb)
      | (go_at_call 13; refine (umay_is c m _ Hm.out).mono ?_; rintro e w1 ⟨rfl, hw⟩; rw [hw]; clear hw)
      | (go_at_call 10; refine (ptake_is s a n _ (R1.out.next B) hs Ha.out Hn.out).mono ?_; rintro e w1 ⟨rfl, bb⟩; replace B := B.trans (bb.mono B.size); clear bb)
      | (go_at_call 11; refine (rtake_is s a n _ hs Ha.out Hn.out).mono ?_; rintro e w1 ⟨rfl, bb⟩; replace B := B.trans (bb.mono B.size); clear bb)
      | (go_at_call 14; refine (pfits_is s f _ (R1.out.next B) Hf.out).mono ?_; rintro e w1 ⟨rfl, bb⟩; replace B := B.trans (bb.mono B.size); clear bb)
      | (go_at_call 15; refine (rfits_is s f _ Hf.out).mono ?_; rintro e w1 ⟨rfl, bb⟩; replace B := B.trans (bb.mono B.size); clear bb))
    go_ret
    exact ⟨rfl, B⟩
end Go.Proofs.YtlhpmijhngojnaaDoor
