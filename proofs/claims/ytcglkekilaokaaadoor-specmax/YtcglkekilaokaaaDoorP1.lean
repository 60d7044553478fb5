/-
  WALKS: pct.Digit, pct.Triplet.
-/
import Derived.Test.YtcglkekilaokaaaDoorW3
namespace Go.Proofs.YtcglkekilaokaaaDoor
open Go.RowKit

theorem dig_le (n : Nat) : digN n ≤ 15 := by unfold digN; split <;> (try split) <;> (try split) <;> omega
theorem ret_dig {a b : Int} {x y : Bool} (h : a = b) (k : x = y) : Ending.returned (.tuple #[.int .i64 a, .bool x]) = .returned (.tuple #[.int .i64 b, .bool y]) := by rw [h, k]
set_option maxHeartbeats 1000000 in
theorem dig_any (c : Int) (w : World) (h0 : 0 ≤ c) (h1 : c ≤ 255) :
    Calls Tryd.prog 58 #[.int .u8 c] w fun e w' => e = .returned (.tuple #[.int .i64 (digN c.toNat), .bool (hexN c.toNat)]) ∧ w' = w := by
  go_enter Tryd.func58, Tryd.ntmps58
  go_wp2
  all_goals go_ret2
  all_goals refine ⟨ret_dig ?_ ?_, rfl⟩
  all_goals first | (unfold digN; split <;> (try split) <;> (try split) <;> omega) | (unfold hexN; simp; omega)

theorem dig_is (c : Int) (n : Int) (b : Bool) (w : World) (h0 : 0 ≤ c) (h1 : c ≤ 255) (h : (digN c.toNat : Int) = n) (h' : hexN c.toNat = b) :
    Calls Tryd.prog 58 #[.int .u8 c] w fun e w' => e = .returned (.tuple #[.int .i64 n, .bool b]) ∧ w' = w := by
  subst h h'; exact dig_any c w h0 h1
set_option maxRecDepth 20000 in
set_option maxHeartbeats 1000000 in
theorem trip_any (s : ByteArray) (w : World) :
    Calls Tryd.prog 48 #[.string s] w fun e w' => e = .returned (.bool (tripB s.data.toList)) ∧ w' = w := by
  by_cases h : 3 ≤ s.size
  · have ht := trip_at s h
    have Ht := hide ht
    clear ht
    have b1 := UInt8.toNat_lt s[1]
    have b2 := UInt8.toNat_lt s[2]
    have hn : ¬ s.size < 3 := by omega
    obtain ⟨x1, h1⟩ : ∃ x, hexN s[1].toNat = x := ⟨_, rfl⟩
    obtain ⟨x2, h2⟩ : ∃ x, hexN s[2].toNat = x := ⟨_, rfl⟩
    cases x1 <;> cases x2
    all_goals
      have H1 := hide h1
      have H2 := hide h2
      clear h1 h2
      by_cases h0 : s[0] = 37
      · have h0' : ((s[0].toNat : Int) != 37) = false := by simp [h0]
        have H0 := hide h0
        clear h0
        go_enter Tryd.func48, Tryd.ntmps48
        go_wp2_with (first | (go_at_call 58; refine (dig_is _ _ true _ (by omega) (by omega) rfl (by rw [Int.toNat_natCast]; exact H1.out)).mono ?_; rintro e w' ⟨rfl, hw⟩; rw [hw]) | (go_at_call 58; refine (dig_is _ _ false _ (by omega) (by omega) rfl (by rw [Int.toNat_natCast]; exact H1.out)).mono ?_; rintro e w' ⟨rfl, hw⟩; rw [hw]) | (go_at_call 58; refine (dig_is _ _ true _ (by omega) (by omega) rfl (by rw [Int.toNat_natCast]; exact H2.out)).mono ?_; rintro e w' ⟨rfl, hw⟩; rw [hw]) | (go_at_call 58; refine (dig_is _ _ false _ (by omega) (by omega) rfl (by rw [Int.toNat_natCast]; exact H2.out)).mono ?_; rintro e w' ⟨rfl, hw⟩; rw [hw]))
        all_goals go_ret
        all_goals exact ⟨ret_bool (by rw [Ht.out, H0.out, H1.out, H2.out]; rfl), rfl⟩
      · have h0' : ((s[0].toNat : Int) != 37) = true := by
          have : s[0].toNat ≠ 37 := fun e => h0 (UInt8.toNat_inj.1 e)
          simp; omega
        have H0 := hide h0
        clear h0
        go_enter Tryd.func48, Tryd.ntmps48
        go_wp2
        all_goals go_ret
        all_goals exact ⟨ret_bool (by rw [Ht.out]; simp [H0.out]), rfl⟩
  · have ht := trip_short s h
    have Ht := hide ht
    clear ht
    have hn : s.size < 3 := by omega
    go_enter Tryd.func48, Tryd.ntmps48
    go_wp2
    all_goals go_ret
    all_goals exact ⟨ret_bool Ht.out.symm, rfl⟩
theorem ptrip_is (s : ByteArray) (b : Bool) (w : World) (h : tripB s.data.toList = b) : Calls Tryd.prog 48 #[.string s] w fun e w' => e = .returned (.bool b) ∧ w' = w := by
  subst h; exact trip_any s w
end Go.Proofs.YtcglkekilaokaaaDoor
