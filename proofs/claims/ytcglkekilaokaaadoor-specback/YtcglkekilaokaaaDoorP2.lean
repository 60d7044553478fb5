/-
  WALKS: vname.brokenTriplet, vname.scan.
-/
import Derived.Test.YtcglkekilaokaaaDoorP1
import Derived.Test.YtcglkekilaokaaaDoorN3
import Derived.Test.YtcglkekilaokaaaDoorCW8
namespace Go.Proofs.YtcglkekilaokaaaDoor
open Go.RowKit

theorem list_two (s : ByteArray) (h : 2 ≤ s.size) : s.data.toList = s[0] :: s[1] :: s.data.toList.drop 2 := by
  have e1 : s.data.toList.length = s.size := by simp
  have h0 : s.data.toList.drop 0 = s[0] :: s.data.toList.drop 1 := List.drop_eq_getElem_cons (by omega)
  have h1 : s.data.toList.drop 1 = s[1] :: s.data.toList.drop 2 := List.drop_eq_getElem_cons (by omega)
  rw [← h1, ← h0]; rfl
set_option maxRecDepth 20000 in
set_option maxHeartbeats 1000000 in
theorem broken_any (s : ByteArray) (w : World) (h : 0 < s.size) :
    Calls Tryd.prog 49 #[.string s] w fun e w' => e = .returned (.int .i64 (brokN s.data.toList)) ∧ w' = w := by
  by_cases h0 : s[0] = 37
  · have h0' : ((s[0].toNat : Int) != 37) = false := by simp [h0]
    by_cases h2 : 2 ≤ s.size
    · have b1 := UInt8.toNat_lt s[1]
      obtain ⟨x1, h1⟩ : ∃ x, hexN s[1].toNat = x := ⟨_, rfl⟩
      have hr : brokN s.data.toList = if x1 then 2 else 1 := by
        rw [list_two s h2]
        show (if s[0] ≠ 37 then 0 else if hexB s[1] then 2 else 1) = _
        rw [if_neg (by simp [h0])]
        unfold hexB
        rw [h1]
      have Hr := hide hr
      have H1 := hide h1
      have hn : 1 < s.size := by omega
      clear h0 hr h1
      cases x1
      all_goals
        go_enter Tryd.func49, Tryd.ntmps49
        go_wp2_with (first | (go_at_call 58; refine (dig_is _ _ true _ (by omega) (by omega) rfl (by rw [Int.toNat_natCast]; exact H1.out)).mono ?_; rintro e w' ⟨rfl, hw⟩; rw [hw]) | (go_at_call 58; refine (dig_is _ _ false _ (by omega) (by omega) rfl (by rw [Int.toNat_natCast]; exact H1.out)).mono ?_; rintro e w' ⟨rfl, hw⟩; rw [hw]))
        all_goals go_ret
        all_goals exact ⟨ret_int (by rw [Hr.out]; rfl), rfl⟩
    · have hr : brokN s.data.toList = 1 := by
        have e1 : s.data.toList.drop 1 = [] := List.drop_eq_nil_of_le (by rw [← size_list]; omega)
        rw [list_one s h, e1]
        show (if s[0] ≠ 37 then 0 else 1) = _
        rw [if_neg (by simp [h0])]
      have Hr := hide hr
      have hn : ¬ 1 < s.size := by omega
      clear h0 hr
      go_enter Tryd.func49, Tryd.ntmps49
      go_wp2
      all_goals go_ret
      all_goals exact ⟨ret_int (by rw [Hr.out]; rfl), rfl⟩
  · have h0' : ((s[0].toNat : Int) != 37) = true := by
      have : s[0].toNat ≠ 37 := fun e => h0 (UInt8.toNat_inj.1 e)
      simp; omega
    have hr : brokN s.data.toList = 0 := by
      rw [list_one s h]
      show (if s[0] ≠ 37 then 0 else _) = _
      rw [if_pos h0]
    have Hr := hide hr
    clear h0 hr
    go_enter Tryd.func49, Tryd.ntmps49
    go_wp2
    all_goals go_ret
    all_goals exact ⟨ret_int (by rw [Hr.out]; rfl), rfl⟩
theorem broken_is (s : ByteArray) (n : Int) (w : World) (h : 0 < s.size) (hn : (brokN s.data.toList : Int) = n) :
    Calls Tryd.prog 49 #[.string s] w fun e w' => e = .returned (.int .i64 n) ∧ w' = w := by
  subst hn; exact broken_any s w h
end Go.Proofs.YtcglkekilaokaaaDoor
