/-
  WALKS: the reference's May, Take, size and some (layer 4).
-/
import Derived.Test.YtlhpmijhngojnaaDoorW7
namespace Go.Proofs.YtlhpmijhngojnaaDoor
open Go.RowKit

set_option maxHeartbeats 1000000 in
theorem umay_any (c : Int) (w : World) :
    Calls Tryd.prog 13 #[.int .i64 c] w fun e w' => e = .returned (.bool (mayU c)) ∧ w' = w := by
  go_enter Tryd.func13, Tryd.ntmps13
  go_wp2
  all_goals go_ret
  all_goals refine ⟨ret_bool ?_, rfl⟩
  all_goals (rw [Bool.eq_iff_iff, mayU_iff]; simp [*]; try omega)
theorem umay_is (c : Int) (b : Bool) (w : World) (h : mayU c = b) : Calls Tryd.prog 13 #[.int .i64 c] w fun e w' => e = .returned (.bool b) ∧ w' = w := by
  subst h; exact umay_any c w

set_option maxHeartbeats 1000000 in
theorem size_any (c : Int) (w : World) (h0 : 0 ≤ c) (h1 : c ≤ 255) :
    Calls Tryd.prog 22 #[.int .u8 c] w fun e w' => e = .returned (.int .i64 (sizeN c.toNat)) ∧ w' = w := by
  go_enter Tryd.func22, Tryd.ntmps22
  go_wp2
  all_goals go_ret
  all_goals refine ⟨ret_int ?_, rfl⟩
  all_goals (unfold sizeN; (repeat' split) <;> omega)
theorem size_is' (c : Int) (n : Int) (w : World) (h0 : 0 ≤ c) (h1 : c ≤ 255) (h : (sizeN c.toNat : Int) = n) :
    Calls Tryd.prog 22 #[.int .u8 c] w fun e w' => e = .returned (.int .i64 n) ∧ w' = w := by
  subst h; exact size_any c w h0 h1

theorem next_bd (lo : Int) (h : lo ≤ 2000000) : lo ≤ nextU lo ∧ nextU lo ≤ 2000000 := by
  unfold nextU
  (repeat' split) <;> omega

set_option maxHeartbeats 1000000 in
theorem some_any (lo hi : Int) (w : World) (h0 : -1000 ≤ lo) (h1 : hi < 2000000) (h2 : lo ≤ 2000000) :
    Calls Tryd.prog 23 #[.int .i64 lo, .int .i64 hi] w fun e w' => e = .returned (.bool (someU lo hi)) ∧ w' = w := by
  obtain ⟨hn1, hn2⟩ := next_bd lo h2
  obtain ⟨N, hN⟩ : ∃ N, nextU lo = N := ⟨_, rfl⟩
  have hsome : someU lo hi = decide (N ≤ hi) := by unfold someU; rw [hN]
  have hm := next_may lo
  have hl := fun d h hd => next_least lo d h hd
  rw [hN] at hn1 hn2 hm hl
  rw [hsome]
  have Hm := hide hm
  have Hl := hide hl
  clear hN hsome hm hl
  go_enter Tryd.func23, Tryd.ntmps23
  go_wp2
  go_loop [5] (fun i => ∃ c : Int, lo ≤ c ∧ c ≤ N ∧ i = .int .i64 c) (fun i => (2000001 - intOf i).toNat)
  case atStart => exact ⟨lo, Int.le_refl _, hn1, rfl⟩
  case round =>
    obtain ⟨c, hc1, hc2, rfl⟩ := hrel
    by_cases hlt : c ≤ hi
    · cases hu : mayU c with
      | true =>
        have hle := Hl.out c hc1 hu
        have Hu := hide hu
        clear hu
        go_wp2_with (go_at_call 13; refine (umay_is _ true _ Hu.out).mono ?_; rintro e w' ⟨rfl, hw⟩; rw [hw])
        go_ret
        exact ⟨ret_bool (by simp; omega), rfl⟩
      | false =>
        have hne : c ≠ N := by
          intro e
          rcases Hm.out with h | h
          · rw [← e, hu] at h; cases h
          · omega
        have Hu := hide hu
        clear hu
        go_wp2_with (go_at_call 13; refine (umay_is _ false _ Hu.out).mono ?_; rintro e w' ⟨rfl, hw⟩; rw [hw])
        go_round
        case rel => exact ⟨c + 1, by omega, by omega, by go_num⟩
        case measure => simp [intOf]; omega
    · go_wp2
      go_ret
      exact ⟨ret_bool (by simp; omega), rfl⟩
theorem some_is (lo hi : Int) (b : Bool) (w : World) (h0 : -1000 ≤ lo) (h1 : hi < 2000000) (h2 : lo ≤ 2000000) (h : someU lo hi = b) :
    Calls Tryd.prog 23 #[.int .i64 lo, .int .i64 hi] w fun e w' => e = .returned (.bool b) ∧ w' = w := by
  subst h; exact some_any lo hi w h0 h1 h2

/-- the character that may, with whose bytes a text begins -/
def takeC (l : List UInt8) : Int := if firstN l = 0 ∨ mayU (firstC l) = false then 0 else firstC l
def takeN (l : List UInt8) : Nat := if firstN l = 0 ∨ mayU (firstC l) = false then 0 else firstN l

theorem first_is (s : ByteArray) (w : World) (c n : Int) (hs : s.size ≤ 9223372036854775807) (hc : firstC s.data.toList = c) (hn : (firstN s.data.toList : Int) = n) :
    Calls Tryd.prog 19 #[.string s] w fun e w' => e = .returned (.tuple #[.int .i64 c, .int .i64 n]) ∧ Below w.heap.size w w' := by
  subst hc hn; exact first_any s w hs

set_option maxHeartbeats 1000000 in
theorem rtake_any (s : ByteArray) (w : World) (hs : s.size ≤ 9223372036854775807) :
    Calls Tryd.prog 11 #[.string s] w fun e w' => e = .returned (.tuple #[.int .i64 (takeC s.data.toList), .int .i64 (takeN s.data.toList)]) ∧ Below w.heap.size w w' := by
  obtain ⟨c, hc⟩ : ∃ c, firstC s.data.toList = c := ⟨_, rfl⟩
  obtain ⟨n, hn⟩ : ∃ n, firstN s.data.toList = n := ⟨_, rfl⟩
  have ec : takeC s.data.toList = if n = 0 ∨ mayU c = false then 0 else c := by unfold takeC; rw [hc, hn]
  have en : takeN s.data.toList = if n = 0 ∨ mayU c = false then 0 else n := by unfold takeN; rw [hc, hn]
  rw [ec, en]
  have Hc := hide hc
  have Hn : Hid ((firstN s.data.toList : Int) = n) := congrArg Nat.cast hn
  clear hc hn ec en
  by_cases h0 : n = 0
  · subst h0
    rw [if_pos (.inl rfl), if_pos (.inl rfl)]
    go_enter Tryd.func11, Tryd.ntmps11
    go_wp2_with (go_at_call 19; refine (first_is _ _ c _ hs Hc.out Hn.out).mono ?_; rintro e w1 ⟨rfl, bb⟩)
    all_goals go_ret2
    all_goals exact ⟨rfl, bb⟩
  · have h0' : ((n : Int) == 0) = false := by simp; omega
    cases hu : mayU c with
    | true =>
      have Hu := hide hu
      clear hu
      go_enter Tryd.func11, Tryd.ntmps11
      go_wp2_with (first | (go_at_call 19; refine (first_is _ _ c _ hs Hc.out Hn.out).mono ?_; rintro e w1 ⟨rfl, bb⟩) | (go_at_call 13; refine (umay_is _ true _ Hu.out).mono ?_; rintro e w' ⟨rfl, hw⟩; rw [hw]))
      all_goals go_ret2
      all_goals exact ⟨by simp, bb⟩
    | false =>
      have Hu := hide hu
      clear hu
      go_enter Tryd.func11, Tryd.ntmps11
      go_wp2_with (first | (go_at_call 19; refine (first_is _ _ c _ hs Hc.out Hn.out).mono ?_; rintro e w1 ⟨rfl, bb⟩) | (go_at_call 13; refine (umay_is _ false _ Hu.out).mono ?_; rintro e w' ⟨rfl, hw⟩; rw [hw]))
      all_goals go_ret2
      all_goals exact ⟨by simp, bb⟩
end Go.Proofs.YtlhpmijhngojnaaDoor
