/-
  Joined by program out of the texts uW7 uW8 uW9.
-/
import Derived.Test.YtjbnofljoijnmaaGreatDoorY03
import Derived.Test.YtjbnofljoijnmaaGreatDoorY01
import Derived.Deep.RegionWith
import Derived.Deep.QuietTactic
import Derived.BigQuiet
import Derived.Test.YtjbnofljoijnmaaGreatDoorY02
/-
  WALKS: the reference's First.
-/
namespace Go.Proofs.YtjbnofljoijnmaaGreatDooru
open Go.RowKit
open Go.Lib (encodeRune)

theorem no_next {l : List UInt8} {n : Nat} (hno : ∀ j, 1 ≤ j → j ≤ n → hit l j = false) (h : hit l (n + 1) = false) : ∀ j, 1 ≤ j → j ≤ n + 1 → hit l j = false := by
  intro j h1 h2
  by_cases e : j = n + 1
  · rw [e]; exact h
  · exact hno j h1 (by omega)
theorem miss_may {l : List UInt8} {n : Nat} {x : Int} (hx : cand l n = x) (hm : mayB x = false) : hit l n = false := by simp [hit, hx, hm]
theorem hit_is {s : ByteArray} {n : Nat} {x : Int} {b : Bool} (hx : cand s.data.toList n = x) (hm : mayB x = true) (h : (encodeRune x == (s.extract 0 n).toList) = b) : hit s.data.toList n = b := by
  rw [Lib.extract_toList] at h
  rw [← h]
  simp [hit, hx, hm]
theorem byte_getD (s : ByteArray) (n : Nat) (h : n < s.size) : s.data.toList.getD n 0 = s[n]'h := by
  rw [List.getD_eq_getElem?_getD, List.getElem?_eq_getElem (by simpa using h)]
  rfl
theorem cand_one (s : ByteArray) (h : 0 < s.size) : cand s.data.toList 1 = lead (s[0]'h).toNat := by
  rw [cand, byte_getD s 0 h]
theorem cand_next (s : ByteArray) (n : Nat) (h : n < s.size) (h1 : 1 ≤ n) : cand s.data.toList (n + 1) = 64 * cand s.data.toList n + ((s[n]'h).toNat : Int) % 64 := by
  obtain ⟨m, rfl⟩ : ∃ m, n = m + 1 := ⟨n - 1, by omega⟩
  rw [cand, byte_getD s (m + 1) h]
theorem first_end {s : ByteArray} {n : Nat} (hno : ∀ j, 1 ≤ j → j ≤ n → hit s.data.toList j = false) (h : n = 4 ∨ n = s.size) : firstC s.data.toList = 0 ∧ firstN s.data.toList = 0 := by
  apply first_miss
  intro j h1 h2 h3
  apply hno j h1
  simp at h3
  omega
theorem ret_two {a b c d : Int} (h1 : a = c) (h2 : b = d) : Ending.returned (.tuple #[.int .i64 a, .int .i64 b]) = .returned (.tuple #[.int .i64 c, .int .i64 d]) := by rw [h1, h2]

set_option maxRecDepth 20000 in
set_option maxHeartbeats 4000000 in
theorem first_any (s : ByteArray) (w : World) (hs : s.size ≤ 9223372036854775807) :
    Calls Tryz.prog 75 #[.string s] w fun e w' => e = .returned (.tuple #[.int .i64 (firstC s.data.toList), .int .i64 (firstN s.data.toList)]) ∧ Below w.heap.size w w' := by
  go_enter Tryz.func75, Tryz.ntmps75
  go_wp2
  go_loopw [4, 5] (fun c i wr => ∃ n : Nat, n ≤ 4 ∧ n ≤ s.size ∧ i = .int .i64 (n + 1 : Nat) ∧ c = .int .i64 (cand s.data.toList n) ∧ Below w.heap.size w wr ∧ (∀ j, 1 ≤ j → j ≤ n → hit s.data.toList j = false)) (fun _ i _ => 5 - (intOf i).toNat)
  case atStart => exact ⟨0, by omega, by omega, rfl, rfl, Below.refl _ _, fun j h1 h2 => by omega⟩
  case round =>
    obtain ⟨n, hn4, hns, rfl, rfl, hB, hno⟩ := hrel
    have Hno := hide hno
    clear hno
    by_cases h4 : n < 4
    · by_cases hlt : n < s.size
      · have cb := cand_bd s.data.toList n hn4
        by_cases h1 : n = 0
        · have h1' : ((n : Int) + 1 == 1) = true := by subst h1; rfl
          have hx : cand s.data.toList (n + 1) = lead (s[n]'hlt).toNat := by subst h1; exact cand_one s hlt
          clear cb h1
          have hby0 : (0 : Int) ≤ ((s[n]'hlt).toNat : Int) := by omega
          have hby1 : ((s[n]'hlt).toNat : Int) ≤ 255 := by have := byte_lt (s[n]'hlt); omega
          unfold lead at hx
          by_cases q1 : 240 ≤ (s[n]'hlt).toNat
          · rw [if_pos q1] at hx
            have Hx := hide hx
            clear hx
            go_wp2
            have hx := Hx.out
            generalize hX : ((s[n]'hlt).toNat : Int) - 240 = x
            rw [hX] at hx
            have HX := hide hx
            clear hX hx
            cases hm : mayB x with
            | false =>
              have Hm := hide hm
              clear hm
              go_quiet ((go_at_call 93; exact Calls.quiet_of_same (rmay_is x _ false Hm.out)))
              all_goals go_wp2
              go_roundw
              case rel => exact ⟨(n + 1), by omega, by omega, by go_num, by rw [HX.out], below_drewN hB _, no_next Hno.out (miss_may HX.out Hm.out)⟩
              case measure => simp [intOf]; omega
            | true =>
              have Hm := hide hm
              clear hm
              go_region_with (first | (go_at_call 93; refine (rmay_is x _ true Hm.out).mono ?_; rintro e w' ⟨rfl, hw⟩; rw [hw]) | (go_at_call 94; refine (one_any x _ Hm.out).mono ?_; rintro e w1 ⟨rfl, b1⟩))
              all_goals have hB1 := hB.drew.trans (b1.mono hB.size)
              all_goals go_wp2
              all_goals first
                | (have ht : (encodeRune x == (s.extract 0 (n + 1)).toList) = true := by assumption
                   have hh := first_hit s.data.toList (n + 1) (by omega) (by simp; omega) (hit_is HX.out Hm.out ht)
                   go_ret2
                   exact ⟨ret_two (by rw [hh.1, HX.out]) (by rw [hh.2]; (try omega)), hB1⟩)
                | (have hf : (encodeRune x == (s.extract 0 (n + 1)).toList) = false := by assumption
                   go_roundw
                   case rel => exact ⟨(n + 1), by omega, by omega, by go_num, by rw [HX.out], hB1, no_next Hno.out (hit_is HX.out Hm.out hf)⟩
                   case measure => simp [intOf]; omega)
          · rw [if_neg q1] at hx
            by_cases q2 : 224 ≤ (s[n]'hlt).toNat
            · rw [if_pos q2] at hx
              have Hx := hide hx
              clear hx
              go_wp2
              have hx := Hx.out
              generalize hX : ((s[n]'hlt).toNat : Int) - 224 = x
              rw [hX] at hx
              have HX := hide hx
              clear hX hx
              cases hm : mayB x with
              | false =>
                have Hm := hide hm
                clear hm
                go_quiet ((go_at_call 93; exact Calls.quiet_of_same (rmay_is x _ false Hm.out)))
                all_goals go_wp2
                go_roundw
                case rel => exact ⟨(n + 1), by omega, by omega, by go_num, by rw [HX.out], below_drewN hB _, no_next Hno.out (miss_may HX.out Hm.out)⟩
                case measure => simp [intOf]; omega
              | true =>
                have Hm := hide hm
                clear hm
                go_region_with (first | (go_at_call 93; refine (rmay_is x _ true Hm.out).mono ?_; rintro e w' ⟨rfl, hw⟩; rw [hw]) | (go_at_call 94; refine (one_any x _ Hm.out).mono ?_; rintro e w1 ⟨rfl, b1⟩))
                all_goals have hB1 := hB.drew.trans (b1.mono hB.size)
                all_goals go_wp2
                all_goals first
                  | (have ht : (encodeRune x == (s.extract 0 (n + 1)).toList) = true := by assumption
                     have hh := first_hit s.data.toList (n + 1) (by omega) (by simp; omega) (hit_is HX.out Hm.out ht)
                     go_ret2
                     exact ⟨ret_two (by rw [hh.1, HX.out]) (by rw [hh.2]; (try omega)), hB1⟩)
                  | (have hf : (encodeRune x == (s.extract 0 (n + 1)).toList) = false := by assumption
                     go_roundw
                     case rel => exact ⟨(n + 1), by omega, by omega, by go_num, by rw [HX.out], hB1, no_next Hno.out (hit_is HX.out Hm.out hf)⟩
                     case measure => simp [intOf]; omega)
            · rw [if_neg q2] at hx
              by_cases q3 : 192 ≤ (s[n]'hlt).toNat
              · rw [if_pos q3] at hx
                have Hx := hide hx
                clear hx
                go_wp2
                have hx := Hx.out
                generalize hX : ((s[n]'hlt).toNat : Int) - 192 = x
                rw [hX] at hx
                have HX := hide hx
                clear hX hx
                cases hm : mayB x with
                | false =>
                  have Hm := hide hm
                  clear hm
                  go_quiet ((go_at_call 93; exact Calls.quiet_of_same (rmay_is x _ false Hm.out)))
                  all_goals go_wp2
                  go_roundw
                  case rel => exact ⟨(n + 1), by omega, by omega, by go_num, by rw [HX.out], below_drewN hB _, no_next Hno.out (miss_may HX.out Hm.out)⟩
                  case measure => simp [intOf]; omega
                | true =>
                  have Hm := hide hm
                  clear hm
                  go_region_with (first | (go_at_call 93; refine (rmay_is x _ true Hm.out).mono ?_; rintro e w' ⟨rfl, hw⟩; rw [hw]) | (go_at_call 94; refine (one_any x _ Hm.out).mono ?_; rintro e w1 ⟨rfl, b1⟩))
                  all_goals have hB1 := hB.drew.trans (b1.mono hB.size)
                  all_goals go_wp2
                  all_goals first
                    | (have ht : (encodeRune x == (s.extract 0 (n + 1)).toList) = true := by assumption
                       have hh := first_hit s.data.toList (n + 1) (by omega) (by simp; omega) (hit_is HX.out Hm.out ht)
                       go_ret2
                       exact ⟨ret_two (by rw [hh.1, HX.out]) (by rw [hh.2]; (try omega)), hB1⟩)
                    | (have hf : (encodeRune x == (s.extract 0 (n + 1)).toList) = false := by assumption
                       go_roundw
                       case rel => exact ⟨(n + 1), by omega, by omega, by go_num, by rw [HX.out], hB1, no_next Hno.out (hit_is HX.out Hm.out hf)⟩
                       case measure => simp [intOf]; omega)
              · rw [if_neg q3] at hx
                have Hx := hide hx
                clear hx
                go_wp2
                have hx := Hx.out
                generalize hX : ((s[n]'hlt).toNat : Int) = x
                rw [hX] at hx
                have HX := hide hx
                clear hX hx
                cases hm : mayB x with
                | false =>
                  have Hm := hide hm
                  clear hm
                  go_quiet ((go_at_call 93; exact Calls.quiet_of_same (rmay_is x _ false Hm.out)))
                  all_goals go_wp2
                  go_roundw
                  case rel => exact ⟨(n + 1), by omega, by omega, by go_num, by rw [HX.out], below_drewN hB _, no_next Hno.out (miss_may HX.out Hm.out)⟩
                  case measure => simp [intOf]; omega
                | true =>
                  have Hm := hide hm
                  clear hm
                  go_region_with (first | (go_at_call 93; refine (rmay_is x _ true Hm.out).mono ?_; rintro e w' ⟨rfl, hw⟩; rw [hw]) | (go_at_call 94; refine (one_any x _ Hm.out).mono ?_; rintro e w1 ⟨rfl, b1⟩))
                  all_goals have hB1 := hB.drew.trans (b1.mono hB.size)
                  all_goals go_wp2
                  all_goals first
                    | (have ht : (encodeRune x == (s.extract 0 (n + 1)).toList) = true := by assumption
                       have hh := first_hit s.data.toList (n + 1) (by omega) (by simp; omega) (hit_is HX.out Hm.out ht)
                       go_ret2
                       exact ⟨ret_two (by rw [hh.1, HX.out]) (by rw [hh.2]; (try omega)), hB1⟩)
                    | (have hf : (encodeRune x == (s.extract 0 (n + 1)).toList) = false := by assumption
                       go_roundw
                       case rel => exact ⟨(n + 1), by omega, by omega, by go_num, by rw [HX.out], hB1, no_next Hno.out (hit_is HX.out Hm.out hf)⟩
                       case measure => simp [intOf]; omega)
        · have h1' : 1 ≤ n := by omega
          have hx := cand_next s n hlt h1'
          generalize hcc : cand s.data.toList n = c at cb hx
          have Hcc := hide hcc
          clear h1 hcc
          have hby0 : (0 : Int) ≤ ((s[n]'hlt).toNat : Int) := by omega
          have hby1 : ((s[n]'hlt).toNat : Int) ≤ 255 := by have := byte_lt (s[n]'hlt); omega
          have Hx := hide hx
          clear hx
          go_wp2
          have hx := Hx.out
          generalize hX : 64 * c + ((s[n]'hlt).toNat : Int) % 64 = x
          rw [hX] at hx
          have HX := hide hx
          clear hX hx
          cases hm : mayB x with
          | false =>
            have Hm := hide hm
            clear hm
            go_quiet ((go_at_call 93; exact Calls.quiet_of_same (rmay_is x _ false Hm.out)))
            all_goals go_wp2
            go_roundw
            case rel => exact ⟨(n + 1), by omega, by omega, by go_num, by rw [HX.out], below_drewN hB _, no_next Hno.out (miss_may HX.out Hm.out)⟩
            case measure => simp [intOf]; omega
          | true =>
            have Hm := hide hm
            clear hm
            go_region_with (first | (go_at_call 93; refine (rmay_is x _ true Hm.out).mono ?_; rintro e w' ⟨rfl, hw⟩; rw [hw]) | (go_at_call 94; refine (one_any x _ Hm.out).mono ?_; rintro e w1 ⟨rfl, b1⟩))
            all_goals have hB1 := hB.drew.trans (b1.mono hB.size)
            all_goals go_wp2
            all_goals first
              | (have ht : (encodeRune x == (s.extract 0 (n + 1)).toList) = true := by assumption
                 have hh := first_hit s.data.toList (n + 1) (by omega) (by simp; omega) (hit_is HX.out Hm.out ht)
                 go_ret2
                 exact ⟨ret_two (by rw [hh.1, HX.out]) (by rw [hh.2]; (try omega)), hB1⟩)
              | (have hf : (encodeRune x == (s.extract 0 (n + 1)).toList) = false := by assumption
                 go_roundw
                 case rel => exact ⟨(n + 1), by omega, by omega, by go_num, by rw [HX.out], hB1, no_next Hno.out (hit_is HX.out Hm.out hf)⟩
                 case measure => simp [intOf]; omega)
      · obtain ⟨e1, e2⟩ := first_end Hno.out (.inr (by omega))
        have E1 := hide e1
        have E2 := hide e2
        clear e1 e2
        go_wp2
        go_ret2
        exact ⟨ret_two (by rw [E1.out]) (by rw [E2.out]; rfl), hB⟩
    · obtain ⟨e1, e2⟩ := first_end Hno.out (.inl (by omega))
      have E1 := hide e1
      have E2 := hide e2
      clear e1 e2
      go_wp2
      go_ret2
      exact ⟨ret_two (by rw [E1.out]) (by rw [E2.out]; rfl), hB⟩
end Go.Proofs.YtjbnofljoijnmaaGreatDooru

/-
  WALKS: the reference's May, Take, size and some (layer 4).
-/
namespace Go.Proofs.YtjbnofljoijnmaaGreatDooru
open Go.RowKit YtjbnofljoijnmaaGreatDoor

set_option maxHeartbeats 1000000 in
theorem umay_any (c : Int) (w : World) :
    Calls Tryz.prog 76 #[.int .i64 c] w fun e w' => e = .returned (.bool (mayU c)) ∧ w' = w := by
  go_enter Tryz.func76, Tryz.ntmps76
  go_wp2
  all_goals go_ret
  all_goals refine ⟨ret_bool ?_, rfl⟩
  all_goals (rw [Bool.eq_iff_iff, mayU_iff]; simp [*]; try omega)
theorem umay_is (c : Int) (b : Bool) (w : World) (h : mayU c = b) : Calls Tryz.prog 76 #[.int .i64 c] w fun e w' => e = .returned (.bool b) ∧ w' = w := by
  subst h; exact umay_any c w

set_option maxHeartbeats 1000000 in
theorem size_any (c : Int) (w : World) (h0 : 0 ≤ c) (h1 : c ≤ 255) :
    Calls Tryz.prog 64 #[.int .u8 c] w fun e w' => e = .returned (.int .i64 (sizeN c.toNat)) ∧ w' = w := by
  go_enter Tryz.func64, Tryz.ntmps64
  go_wp2
  all_goals go_ret
  all_goals refine ⟨ret_int ?_, rfl⟩
  all_goals (unfold sizeN; (repeat' split) <;> omega)
theorem size_is' (c : Int) (n : Int) (w : World) (h0 : 0 ≤ c) (h1 : c ≤ 255) (h : (sizeN c.toNat : Int) = n) :
    Calls Tryz.prog 64 #[.int .u8 c] w fun e w' => e = .returned (.int .i64 n) ∧ w' = w := by
  subst h; exact size_any c w h0 h1

theorem next_bd (lo : Int) (h : lo ≤ 2000000) : lo ≤ nextU lo ∧ nextU lo ≤ 2000000 := by
  unfold nextU
  (repeat' split) <;> omega

set_option maxHeartbeats 1000000 in
theorem some_any (lo hi : Int) (w : World) (h0 : -1000 ≤ lo) (h1 : hi < 2000000) (h2 : lo ≤ 2000000) :
    Calls Tryz.prog 65 #[.int .i64 lo, .int .i64 hi] w fun e w' => e = .returned (.bool (someU lo hi)) ∧ w' = w := by
  obtain ⟨hn1, hn2⟩ := next_bd lo h2
  obtain ⟨N, hN⟩ : ∃ N, nextU lo = N := ⟨_, rfl⟩
  have hsome : someU lo hi = decide (N ≤ hi) := by unfold someU; rw [hN]
  have hm := next_may lo
  have hl := fun d h hd => next_least lo d h hd
  rw [hN] at hn1 hn2 hm hl
  rw [hsome]
  have Hm := hide hm
  have Hl := hide hl
  clear hN hsome hm hl
  go_enter Tryz.func65, Tryz.ntmps65
  go_wp2
  go_loop [5] (fun i => ∃ c : Int, lo ≤ c ∧ c ≤ N ∧ i = .int .i64 c) (fun i => (2000001 - intOf i).toNat)
  case atStart => exact ⟨lo, Int.le_refl _, hn1, rfl⟩
  case round =>
    obtain ⟨c, hc1, hc2, rfl⟩ := hrel
    by_cases hlt : c ≤ hi
    · cases hu : mayU c with
      | true =>
        have hle := Hl.out c hc1 hu
        have Hu := hide hu
        clear hu
        go_wp2_with (go_at_call 76; refine (umay_is _ true _ Hu.out).mono ?_; rintro e w' ⟨rfl, hw⟩; rw [hw])
        go_ret
        exact ⟨ret_bool (by simp; omega), rfl⟩
      | false =>
        have hne : c ≠ N := by
          intro e
          rcases Hm.out with h | h
          · rw [← e, hu] at h; cases h
          · omega
        have Hu := hide hu
        clear hu
        go_wp2_with (go_at_call 76; refine (umay_is _ false _ Hu.out).mono ?_; rintro e w' ⟨rfl, hw⟩; rw [hw])
        go_round
        case rel => exact ⟨c + 1, by omega, by omega, by go_num⟩
        case measure => simp [intOf]; omega
    · go_wp2
      go_ret
      exact ⟨ret_bool (by simp; omega), rfl⟩
theorem some_is (lo hi : Int) (b : Bool) (w : World) (h0 : -1000 ≤ lo) (h1 : hi < 2000000) (h2 : lo ≤ 2000000) (h : someU lo hi = b) :
    Calls Tryz.prog 65 #[.int .i64 lo, .int .i64 hi] w fun e w' => e = .returned (.bool b) ∧ w' = w := by
  subst h; exact some_any lo hi w h0 h1 h2


theorem first_is (s : ByteArray) (w : World) (c n : Int) (hs : s.size ≤ 9223372036854775807) (hc : firstC s.data.toList = c) (hn : (firstN s.data.toList : Int) = n) :
    Calls Tryz.prog 75 #[.string s] w fun e w' => e = .returned (.tuple #[.int .i64 c, .int .i64 n]) ∧ Below w.heap.size w w' := by
  subst hc hn; exact first_any s w hs

set_option maxHeartbeats 1000000 in
theorem rtake_any (s : ByteArray) (w : World) (hs : s.size ≤ 9223372036854775807) :
    Calls Tryz.prog 56 #[.string s] w fun e w' => e = .returned (.tuple #[.int .i64 (takeC s.data.toList), .int .i64 (takeN s.data.toList)]) ∧ Below w.heap.size w w' := by
  obtain ⟨c, hc⟩ : ∃ c, firstC s.data.toList = c := ⟨_, rfl⟩
  obtain ⟨n, hn⟩ : ∃ n, firstN s.data.toList = n := ⟨_, rfl⟩
  have ec : takeC s.data.toList = if n = 0 ∨ mayU c = false then 0 else c := by unfold takeC; rw [hc, hn]
  have en : takeN s.data.toList = if n = 0 ∨ mayU c = false then 0 else n := by unfold takeN; rw [hc, hn]
  rw [ec, en]
  have Hc := hide hc
  have Hn : Hid ((firstN s.data.toList : Int) = n) := congrArg Nat.cast hn
  clear hc hn ec en
  by_cases h0 : n = 0
  · subst h0
    rw [if_pos (.inl rfl), if_pos (.inl rfl)]
    go_enter Tryz.func56, Tryz.ntmps56
    go_wp2_with (go_at_call 75; refine (first_is _ _ c _ hs Hc.out Hn.out).mono ?_; rintro e w1 ⟨rfl, bb⟩)
    all_goals go_ret2
    all_goals exact ⟨rfl, bb⟩
  · have h0' : ((n : Int) == 0) = false := by simp; omega
    cases hu : mayU c with
    | true =>
      have Hu := hide hu
      clear hu
      go_enter Tryz.func56, Tryz.ntmps56
      go_wp2_with (first | (go_at_call 75; refine (first_is _ _ c _ hs Hc.out Hn.out).mono ?_; rintro e w1 ⟨rfl, bb⟩) | (go_at_call 76; refine (umay_is _ true _ Hu.out).mono ?_; rintro e w' ⟨rfl, hw⟩; rw [hw]))
      all_goals go_ret2
      all_goals exact ⟨by simp, bb⟩
    | false =>
      have Hu := hide hu
      clear hu
      go_enter Tryz.func56, Tryz.ntmps56
      go_wp2_with (first | (go_at_call 75; refine (first_is _ _ c _ hs Hc.out Hn.out).mono ?_; rintro e w1 ⟨rfl, bb⟩) | (go_at_call 76; refine (umay_is _ false _ Hu.out).mono ?_; rintro e w' ⟨rfl, hw⟩; rw [hw]))
      all_goals go_ret2
      all_goals exact ⟨by simp, bb⟩
end Go.Proofs.YtjbnofljoijnmaaGreatDooru

/-
  WALKS: the reference's Fits (layer 4).
-/
namespace Go.Proofs.YtjbnofljoijnmaaGreatDooru
open Go.RowKit

theorem list_one (s : ByteArray) (h : 0 < s.size) : s.data.toList = s[0] :: s.data.toList.drop 1 := by
  have e1 : s.data.toList.length = s.size := by simp
  exact (List.drop_eq_getElem_cons (l := s.data.toList) (i := 0) (by omega))
theorem list_none (s : ByteArray) (h : ¬ 0 < s.size) : s.data.toList = [] := by
  have e1 : s.data.toList.length = s.size := by simp
  exact List.eq_nil_of_length_eq_zero (by omega)
theorem eq_some (x : ByteArray) (h : 0 < x.size) : x.toList.isEmpty = false := by
  rw [Lib.toList_data, list_one x h]; rfl
theorem eq_none (x : ByteArray) (h : ¬ 0 < x.size) : x.toList.isEmpty = true := by
  rw [Lib.toList_data, list_none x h]; rfl
theorem fit_empty (s : ByteArray) (h : ¬ 0 < s.size) : fitB s.data.toList = false := by rw [list_none s h]; rfl
theorem fit_size0 (s : ByteArray) (h : 0 < s.size) (hz : sizeN s[0].toNat = 0) : fitB s.data.toList = false := by
  rw [list_one s h]; simp [fitB, hz]
theorem fit_long (s : ByteArray) (h : 0 < s.size) (hz : sizeN s[0].toNat < s.size) : fitB s.data.toList = false := by
  rw [list_one s h]
  have e1 : (s.data.toList.drop 1).length + 1 = s.size := by simp; omega
  unfold fitB
  simp only
  rw [e1, show decide (s.size ≤ sizeN s[0].toNat) = false by simp; omega]
  simp
theorem drop_snoc (s : ByteArray) (j : Nat) (h1 : 1 ≤ j) (h : j < s.size) : (s.data.toList.drop 1).take j = (s.data.toList.drop 1).take (j - 1) ++ [s[j]] := by
  obtain ⟨k, rfl⟩ : ∃ k, j = k + 1 := ⟨j - 1, by omega⟩
  rw [show k + 1 - 1 = k by omega, List.take_succ_eq_append_getElem (by simp; omega)]
  simp
  rfl
theorem fit_cont (s : ByteArray) (j : Nat) (h1 : 1 ≤ j) (h : j < s.size) (hc : contB s[j] = false) : fitB s.data.toList = false := by
  rw [list_one s (by omega)]
  have : (s.data.toList.drop 1).all contB = false := by
    rw [List.all_eq_false]
    refine ⟨s[j], ?_, by rw [hc]; simp⟩
    have := drop_snoc s j h1 h
    have hm : s[j] ∈ (s.data.toList.drop 1).take j := by rw [this]; simp
    exact List.mem_of_mem_take hm
  unfold fitB
  simp only
  rw [this]
  simp
theorem acc_snoc (c : Nat) (l : List UInt8) (x : UInt8) : accN c (l ++ [x]) = 64 * accN c l + (x.toNat - 128) := by
  unfold accN; rw [List.foldl_append]; rfl
theorem acc_le (c : Nat) (l : List UInt8) : accN c l + 3 ≤ (c + 3) * 64 ^ l.length := by
  induction l generalizing c with
  | nil => simp [accN]
  | cons x t ih =>
    have h1 : accN c (x :: t) = accN (64 * c + (x.toNat - 128)) t := by unfold accN; rw [List.foldl_cons]
    have h2 := ih (64 * c + (x.toNat - 128))
    have h3 := UInt8.toNat_lt x
    rw [h1, List.length_cons, Nat.pow_succ]
    refine Nat.le_trans h2 ?_
    rw [← Nat.mul_assoc, Nat.mul_right_comm]
    apply Nat.mul_le_mul_right
    omega
theorem acc_bd {c : Nat} {l : List UInt8} (hc : c ≤ 31) (hl : l.length ≤ 3) : accN c l ≤ 9000000 := by
  have h1 := acc_le c l
  have h2 : 64 ^ l.length ≤ 64 ^ 3 := Nat.pow_le_pow_right (by decide) hl
  have h3 : (c + 3) * 64 ^ l.length ≤ 34 * 64 ^ 3 := Nat.mul_le_mul (by omega) h2
  omega
theorem acc_pow {c : Nat} {l : List UInt8} {m : Nat} (hc : c ≤ 31) (hl : l.length + m ≤ 3) : accN c l * 64 ^ m + 64 ^ m ≤ 9000000 := by
  have h1 := acc_le c l
  have h2 : (accN c l + 1) * 64 ^ m ≤ 34 * 64 ^ l.length * 64 ^ m := Nat.mul_le_mul_right _ (by
    have : (c + 3) * 64 ^ l.length ≤ 34 * 64 ^ l.length := Nat.mul_le_mul_right _ (by omega)
    omega)
  have h3 : 64 ^ l.length * 64 ^ m ≤ 64 ^ 3 := by rw [← Nat.pow_add]; exact Nat.pow_le_pow_right (by decide) hl
  rw [Nat.mul_assoc] at h2
  have h4 : 34 * (64 ^ l.length * 64 ^ m) ≤ 34 * 64 ^ 3 := Nat.mul_le_mul_left _ h3
  rw [Nat.add_mul, Nat.one_mul] at h2
  omega
theorem lead_le {n b : Nat} (hb : sizeN b = n) (h0 : n ≠ 0) : leadN n b ≤ 31 := by
  unfold sizeN at hb
  unfold leadN
  (repeat' split at hb) <;> (repeat' split) <;> omega
theorem size_bounds {n b : Nat} (h : sizeN b = n) : (n = 2 → 192 ≤ b ∧ b < 224) ∧ (n = 3 → 224 ≤ b ∧ b < 240) ∧ (n = 4 → 240 ≤ b ∧ b ≤ 247) := by
  subst h
  exact ⟨size_two, size_three, size_four⟩
set_option maxHeartbeats 1000000 in
theorem some_far (lo hi : Int) (w : World) (h0 : 2000000 < lo) (h1 : hi < 2000000) (h2 : lo ≤ 9000000) :
    Calls Tryz.prog 65 #[.int .i64 lo, .int .i64 hi] w fun e w' => e = .returned (.bool (someU lo hi)) ∧ w' = w := by
  have hn : nextU lo = 2000000 := by unfold nextU; (repeat' split) <;> omega
  have hs : someU lo hi = false := by unfold someU; rw [hn]; simp; omega
  rw [hs]
  go_enter Tryz.func65, Tryz.ntmps65
  go_wp2
  refine wp_loop_rounds 1 ?_
  rw [rounds_succ]
  go_wp2
  go_ret
  exact ⟨rfl, rfl⟩
theorem some_at (lo hi lo' hi' : Int) (b : Bool) (w : World) (e1 : lo = lo') (e2 : hi = hi') (h0 : -1000 ≤ lo') (h1 : hi' < 2000000) (h2 : lo' ≤ 9000000) (h : someU lo' hi' = b) :
    Calls Tryz.prog 65 #[.int .i64 lo, .int .i64 hi] w fun e w' => e = .returned (.bool b) ∧ w' = w := by
  subst e1 e2 h
  by_cases h3 : lo ≤ 2000000
  · exact some_any lo hi w h0 h1 h3
  · exact some_far lo hi w (by omega) h1 (by omega)
theorem pow_next (m : Nat) : 64 ^ (m + 1) = 64 * 64 ^ m := by rw [Nat.pow_succ, Nat.mul_comm]
theorem cont_no {c : UInt8} (h : contB c = false) : c.toNat < 128 ∨ 191 < c.toNat := by
  apply Classical.byContradiction
  intro hn
  have : contB c = true := by rw [cont_iff]; omega
  rw [this] at h
  cases h

/-- the whole of it -/
theorem fit_all (s : ByteArray) (h : 0 < s.size) (n : Nat) (hn : sizeN s[0].toNat = n) (h0 : n ≠ 0) (hl : s.size ≤ n) (hc : (s.data.toList.drop 1).all contB = true) (a k : Nat) (ha : accN (leadN n s[0].toNat) (s.data.toList.drop 1) = a) (hk : 64 ^ (n - s.size) = k) :
    fitB s.data.toList = someU (max (a * k : Nat) (leastN n)) (min (a * k + (k - 1) : Nat) (mostN n)) := by
  rw [list_one s h]
  have e1 : (s.data.toList.drop 1).length + 1 = s.size := by simp; omega
  unfold fitB
  simp only
  rw [hn, e1, hc, ha, hk]
  simp [h0, hl]
end Go.Proofs.YtjbnofljoijnmaaGreatDooru
