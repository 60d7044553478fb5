/-
  WALKS: vname's May, Bad and End, in the forms that the laws use.
-/
import Derived.Test.YtcglkekilaokaaaDoorP3
namespace Go.Proofs.YtcglkekilaokaaaDoor
open Go.RowKit

theorem scan_is (s : ByteArray) (n m : Int) (w : World) (hs : s.size ≤ 2000000) (h : (badN s.data.toList : Int) = n) (h' : (endN s.data.toList : Int) = m) :
    Calls Tryd.prog 38 #[.string s] w fun e w' => e = .returned (.tuple #[.int .i64 n, .int .i64 m]) ∧ Below w.heap.size w w' := by
  subst h h'; exact scan_any s w hs
set_option maxHeartbeats 400000 in
theorem pbad_is (s : ByteArray) (n : Int) (w : World) (hs : s.size ≤ 2000000) (h : (badN s.data.toList : Int) = n) : Calls Tryd.prog 30 #[.string s] w fun e w' => e = .returned (.int .i64 n) ∧ Below w.heap.size w w' := by
  obtain ⟨m, hm⟩ : ∃ m : Int, (endN s.data.toList : Int) = m := ⟨_, rfl⟩
  have H := hide h
  have HM := hide hm
  clear h hm
  go_enter Tryd.func30, Tryd.ntmps30
  go_wp2_with (go_at_call 38; refine (scan_is s n m _ hs H.out HM.out).mono ?_; rintro e w1 ⟨rfl, bb⟩)
  go_ret
  exact ⟨rfl, bb⟩
set_option maxHeartbeats 400000 in
theorem pend_is (s : ByteArray) (n : Int) (w : World) (hs : s.size ≤ 2000000) (h : (endN s.data.toList : Int) = n) : Calls Tryd.prog 29 #[.string s] w fun e w' => e = .returned (.int .i64 n) ∧ Below w.heap.size w w' := by
  obtain ⟨m, hm⟩ : ∃ m : Int, (badN s.data.toList : Int) = m := ⟨_, rfl⟩
  have H := hide h
  have HM := hide hm
  clear h hm
  go_enter Tryd.func29, Tryd.ntmps29
  go_wp2_with (go_at_call 38; refine (scan_is s m n _ hs HM.out H.out).mono ?_; rintro e w1 ⟨rfl, bb⟩)
  go_ret
  exact ⟨rfl, bb⟩
set_option maxHeartbeats 400000 in
theorem pmay_is (s : ByteArray) (b : Bool) (w : World) (hs : s.size ≤ 2000000) (h : nameB s.data.toList = b) : Calls Tryd.prog 21 #[.string s] w fun e w' => e = .returned (.bool b) ∧ Below w.heap.size w w' := by
  have B := Below.refl w.heap.size w
  by_cases h0 : 0 < s.size
  · have hE := eq_some s h0
    obtain ⟨n, hn⟩ : ∃ n : Int, (endN s.data.toList : Int) = n := ⟨_, rfl⟩
    have hb : (n == (s.size : Int)) = b := by
      have := end_whole s.data.toList
      rw [h, ← size_list] at this
      rw [this, ← hn]
      by_cases e : endN s.data.toList = s.size
      · simp [e]; omega
      · have : ((endN s.data.toList : Int) == (s.size : Int)) = false := by simp; omega
        rw [this]; simp [e]
    have HN := hide hn
    clear hn h
    go_enter Tryd.func21, Tryd.ntmps21
    go_wp2_with (go_at_call 29; refine (pend_is s n _ hs HN.out).mono ?_; rintro e w1 ⟨rfl, bb⟩; replace B := bb; clear bb)
    all_goals go_ret
    all_goals exact ⟨rfl, B⟩
  · have hE := eq_none s h0
    have hb : b = false := by
      rw [← h, list_none s h0]; rfl
    subst hb
    clear h
    go_enter Tryd.func21, Tryd.ntmps21
    go_wp2
    all_goals go_ret
    all_goals exact ⟨rfl, B⟩

end Go.Proofs.YtcglkekilaokaaaDoor
