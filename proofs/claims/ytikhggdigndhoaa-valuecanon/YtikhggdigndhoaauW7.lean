/-
  WALKS: the reference's First.
-/
import Derived.Test.YtikhggdigndhoaauW6
import Derived.Test.YtikhggdigndhoaauF
import Derived.Deep.RegionWith
import Derived.Deep.QuietTactic
import Derived.BigQuiet
namespace Go.Proofs.Ytikhggdigndhoaau
open Go.RowKit
open Go.Lib (encodeRune)

theorem no_next {l : List UInt8} {n : Nat} (hno : ∀ j, 1 ≤ j → j ≤ n → hit l j = false) (h : hit l (n + 1) = false) : ∀ j, 1 ≤ j → j ≤ n + 1 → hit l j = false := by
  intro j h1 h2
  by_cases e : j = n + 1
  · rw [e]; exact h
  · exact hno j h1 (by omega)
theorem miss_may {l : List UInt8} {n : Nat} {x : Int} (hx : cand l n = x) (hm : mayB x = false) : hit l n = false := by simp [hit, hx, hm]
theorem hit_is {s : ByteArray} {n : Nat} {x : Int} {b : Bool} (hx : cand s.data.toList n = x) (hm : mayB x = true) (h : (encodeRune x == (s.extract 0 n).toList) = b) : hit s.data.toList n = b := by
  rw [Lib.extract_toList] at h
  rw [← h]
  simp [hit, hx, hm]
theorem byte_getD (s : ByteArray) (n : Nat) (h : n < s.size) : s.data.toList.getD n 0 = s[n]'h := by
  rw [List.getD_eq_getElem?_getD, List.getElem?_eq_getElem (by simpa using h)]
  rfl
theorem cand_one (s : ByteArray) (h : 0 < s.size) : cand s.data.toList 1 = lead (s[0]'h).toNat := by
  rw [cand, byte_getD s 0 h]
theorem cand_next (s : ByteArray) (n : Nat) (h : n < s.size) (h1 : 1 ≤ n) : cand s.data.toList (n + 1) = 64 * cand s.data.toList n + ((s[n]'h).toNat : Int) % 64 := by
  obtain ⟨m, rfl⟩ : ∃ m, n = m + 1 := ⟨n - 1, by omega⟩
  rw [cand, byte_getD s (m + 1) h]
theorem first_end {s : ByteArray} {n : Nat} (hno : ∀ j, 1 ≤ j → j ≤ n → hit s.data.toList j = false) (h : n = 4 ∨ n = s.size) : firstC s.data.toList = 0 ∧ firstN s.data.toList = 0 := by
  apply first_miss
  intro j h1 h2 h3
  apply hno j h1
  simp at h3
  omega
theorem ret_two {a b c d : Int} (h1 : a = c) (h2 : b = d) : Ending.returned (.tuple #[.int .i64 a, .int .i64 b]) = .returned (.tuple #[.int .i64 c, .int .i64 d]) := by rw [h1, h2]

set_option maxRecDepth 20000 in
set_option maxHeartbeats 4000000 in
theorem first_any (s : ByteArray) (w : World) (hs : s.size ≤ 9223372036854775807) :
    Calls Try.prog 49 #[.string s] w fun e w' => e = .returned (.tuple #[.int .i64 (firstC s.data.toList), .int .i64 (firstN s.data.toList)]) ∧ Below w.heap.size w w' := by
  go_enter Try.func49, Try.ntmps49
  go_wp2
  go_loopw [4, 5] (fun c i wr => ∃ n : Nat, n ≤ 4 ∧ n ≤ s.size ∧ i = .int .i64 (n + 1 : Nat) ∧ c = .int .i64 (cand s.data.toList n) ∧ Below w.heap.size w wr ∧ (∀ j, 1 ≤ j → j ≤ n → hit s.data.toList j = false)) (fun _ i _ => 5 - (intOf i).toNat)
  case atStart => exact ⟨0, by omega, by omega, rfl, rfl, Below.refl _ _, fun j h1 h2 => by omega⟩
  case round =>
    obtain ⟨n, hn4, hns, rfl, rfl, hB, hno⟩ := hrel
    have Hno := hide hno
    clear hno
    by_cases h4 : n < 4
    · by_cases hlt : n < s.size
      · have cb := cand_bd s.data.toList n hn4
        by_cases h1 : n = 0
        · have h1' : ((n : Int) + 1 == 1) = true := by subst h1; rfl
          have hx : cand s.data.toList (n + 1) = lead (s[n]'hlt).toNat := by subst h1; exact cand_one s hlt
          clear cb h1
          have hby0 : (0 : Int) ≤ ((s[n]'hlt).toNat : Int) := by omega
          have hby1 : ((s[n]'hlt).toNat : Int) ≤ 255 := by have := byte_lt (s[n]'hlt); omega
          unfold lead at hx
          by_cases q1 : 240 ≤ (s[n]'hlt).toNat
          · rw [if_pos q1] at hx
            have Hx := hide hx
            clear hx
            go_wp2
            have hx := Hx.out
            generalize hX : ((s[n]'hlt).toNat : Int) - 240 = x
            rw [hX] at hx
            have HX := hide hx
            clear hX hx
            cases hm : mayB x with
            | false =>
              have Hm := hide hm
              clear hm
              go_quiet ((go_at_call 52; exact Calls.quiet_of_same (rmay_is x _ false Hm.out)))
              all_goals go_wp2
              go_roundw
              case rel => exact ⟨(n + 1), by omega, by omega, by go_num, by rw [HX.out], below_drewN hB _, no_next Hno.out (miss_may HX.out Hm.out)⟩
              case measure => simp [intOf]; omega
            | true =>
              have Hm := hide hm
              clear hm
              go_region_with (first | (go_at_call 52; refine (rmay_is x _ true Hm.out).mono ?_; rintro e w' ⟨rfl, hw⟩; rw [hw]) | (go_at_call 53; refine (one_any x _ Hm.out).mono ?_; rintro e w1 ⟨rfl, b1⟩))
              all_goals have hB1 := hB.drew.trans (b1.mono hB.size)
              all_goals go_wp2
              all_goals first
                | (have ht : (encodeRune x == (s.extract 0 (n + 1)).toList) = true := by assumption
                   have hh := first_hit s.data.toList (n + 1) (by omega) (by simp; omega) (hit_is HX.out Hm.out ht)
                   go_ret2
                   exact ⟨ret_two (by rw [hh.1, HX.out]) (by rw [hh.2]; (try omega)), hB1⟩)
                | (have hf : (encodeRune x == (s.extract 0 (n + 1)).toList) = false := by assumption
                   go_roundw
                   case rel => exact ⟨(n + 1), by omega, by omega, by go_num, by rw [HX.out], hB1, no_next Hno.out (hit_is HX.out Hm.out hf)⟩
                   case measure => simp [intOf]; omega)
          · rw [if_neg q1] at hx
            by_cases q2 : 224 ≤ (s[n]'hlt).toNat
            · rw [if_pos q2] at hx
              have Hx := hide hx
              clear hx
              go_wp2
              have hx := Hx.out
              generalize hX : ((s[n]'hlt).toNat : Int) - 224 = x
              rw [hX] at hx
              have HX := hide hx
              clear hX hx
              cases hm : mayB x with
              | false =>
                have Hm := hide hm
                clear hm
                go_quiet ((go_at_call 52; exact Calls.quiet_of_same (rmay_is x _ false Hm.out)))
                all_goals go_wp2
                go_roundw
                case rel => exact ⟨(n + 1), by omega, by omega, by go_num, by rw [HX.out], below_drewN hB _, no_next Hno.out (miss_may HX.out Hm.out)⟩
                case measure => simp [intOf]; omega
              | true =>
                have Hm := hide hm
                clear hm
                go_region_with (first | (go_at_call 52; refine (rmay_is x _ true Hm.out).mono ?_; rintro e w' ⟨rfl, hw⟩; rw [hw]) | (go_at_call 53; refine (one_any x _ Hm.out).mono ?_; rintro e w1 ⟨rfl, b1⟩))
                all_goals have hB1 := hB.drew.trans (b1.mono hB.size)
                all_goals go_wp2
                all_goals first
                  | (have ht : (encodeRune x == (s.extract 0 (n + 1)).toList) = true := by assumption
                     have hh := first_hit s.data.toList (n + 1) (by omega) (by simp; omega) (hit_is HX.out Hm.out ht)
                     go_ret2
                     exact ⟨ret_two (by rw [hh.1, HX.out]) (by rw [hh.2]; (try omega)), hB1⟩)
                  | (have hf : (encodeRune x == (s.extract 0 (n + 1)).toList) = false := by assumption
                     go_roundw
                     case rel => exact ⟨(n + 1), by omega, by omega, by go_num, by rw [HX.out], hB1, no_next Hno.out (hit_is HX.out Hm.out hf)⟩
                     case measure => simp [intOf]; omega)
            · rw [if_neg q2] at hx
              by_cases q3 : 192 ≤ (s[n]'hlt).toNat
              · rw [if_pos q3] at hx
                have Hx := hide hx
                clear hx
                go_wp2
                have hx := Hx.out
                generalize hX : ((s[n]'hlt).toNat : Int) - 192 = x
                rw [hX] at hx
                have HX := hide hx
                clear hX hx
                cases hm : mayB x with
                | false =>
                  have Hm := hide hm
                  clear hm
                  go_quiet ((go_at_call 52; exact Calls.quiet_of_same (rmay_is x _ false Hm.out)))
                  all_goals go_wp2
                  go_roundw
                  case rel => exact ⟨(n + 1), by omega, by omega, by go_num, by rw [HX.out], below_drewN hB _, no_next Hno.out (miss_may HX.out Hm.out)⟩
                  case measure => simp [intOf]; omega
                | true =>
                  have Hm := hide hm
                  clear hm
                  go_region_with (first | (go_at_call 52; refine (rmay_is x _ true Hm.out).mono ?_; rintro e w' ⟨rfl, hw⟩; rw [hw]) | (go_at_call 53; refine (one_any x _ Hm.out).mono ?_; rintro e w1 ⟨rfl, b1⟩))
                  all_goals have hB1 := hB.drew.trans (b1.mono hB.size)
                  all_goals go_wp2
                  all_goals first
                    | (have ht : (encodeRune x == (s.extract 0 (n + 1)).toList) = true := by assumption
                       have hh := first_hit s.data.toList (n + 1) (by omega) (by simp; omega) (hit_is HX.out Hm.out ht)
                       go_ret2
                       exact ⟨ret_two (by rw [hh.1, HX.out]) (by rw [hh.2]; (try omega)), hB1⟩)
                    | (have hf : (encodeRune x == (s.extract 0 (n + 1)).toList) = false := by assumption
                       go_roundw
                       case rel => exact ⟨(n + 1), by omega, by omega, by go_num, by rw [HX.out], hB1, no_next Hno.out (hit_is HX.out Hm.out hf)⟩
                       case measure => simp [intOf]; omega)
              · rw [if_neg q3] at hx
                have Hx := hide hx
                clear hx
                go_wp2
                have hx := Hx.out
                generalize hX : ((s[n]'hlt).toNat : Int) = x
                rw [hX] at hx
                have HX := hide hx
                clear hX hx
                cases hm : mayB x with
                | false =>
                  have Hm := hide hm
                  clear hm
                  go_quiet ((go_at_call 52; exact Calls.quiet_of_same (rmay_is x _ false Hm.out)))
                  all_goals go_wp2
                  go_roundw
                  case rel => exact ⟨(n + 1), by omega, by omega, by go_num, by rw [HX.out], below_drewN hB _, no_next Hno.out (miss_may HX.out Hm.out)⟩
                  case measure => simp [intOf]; omega
                | true =>
                  have Hm := hide hm
                  clear hm
                  go_region_with (first | (go_at_call 52; refine (rmay_is x _ true Hm.out).mono ?_; rintro e w' ⟨rfl, hw⟩; rw [hw]) | (go_at_call 53; refine (one_any x _ Hm.out).mono ?_; rintro e w1 ⟨rfl, b1⟩))
                  all_goals have hB1 := hB.drew.trans (b1.mono hB.size)
                  all_goals go_wp2
                  all_goals first
                    | (have ht : (encodeRune x == (s.extract 0 (n + 1)).toList) = true := by assumption
                       have hh := first_hit s.data.toList (n + 1) (by omega) (by simp; omega) (hit_is HX.out Hm.out ht)
                       go_ret2
                       exact ⟨ret_two (by rw [hh.1, HX.out]) (by rw [hh.2]; (try omega)), hB1⟩)
                    | (have hf : (encodeRune x == (s.extract 0 (n + 1)).toList) = false := by assumption
                       go_roundw
                       case rel => exact ⟨(n + 1), by omega, by omega, by go_num, by rw [HX.out], hB1, no_next Hno.out (hit_is HX.out Hm.out hf)⟩
                       case measure => simp [intOf]; omega)
        · have h1' : 1 ≤ n := by omega
          have hx := cand_next s n hlt h1'
          generalize hcc : cand s.data.toList n = c at cb hx
          have Hcc := hide hcc
          clear h1 hcc
          have hby0 : (0 : Int) ≤ ((s[n]'hlt).toNat : Int) := by omega
          have hby1 : ((s[n]'hlt).toNat : Int) ≤ 255 := by have := byte_lt (s[n]'hlt); omega
          have Hx := hide hx
          clear hx
          go_wp2
          have hx := Hx.out
          generalize hX : 64 * c + ((s[n]'hlt).toNat : Int) % 64 = x
          rw [hX] at hx
          have HX := hide hx
          clear hX hx
          cases hm : mayB x with
          | false =>
            have Hm := hide hm
            clear hm
            go_quiet ((go_at_call 52; exact Calls.quiet_of_same (rmay_is x _ false Hm.out)))
            all_goals go_wp2
            go_roundw
            case rel => exact ⟨(n + 1), by omega, by omega, by go_num, by rw [HX.out], below_drewN hB _, no_next Hno.out (miss_may HX.out Hm.out)⟩
            case measure => simp [intOf]; omega
          | true =>
            have Hm := hide hm
            clear hm
            go_region_with (first | (go_at_call 52; refine (rmay_is x _ true Hm.out).mono ?_; rintro e w' ⟨rfl, hw⟩; rw [hw]) | (go_at_call 53; refine (one_any x _ Hm.out).mono ?_; rintro e w1 ⟨rfl, b1⟩))
            all_goals have hB1 := hB.drew.trans (b1.mono hB.size)
            all_goals go_wp2
            all_goals first
              | (have ht : (encodeRune x == (s.extract 0 (n + 1)).toList) = true := by assumption
                 have hh := first_hit s.data.toList (n + 1) (by omega) (by simp; omega) (hit_is HX.out Hm.out ht)
                 go_ret2
                 exact ⟨ret_two (by rw [hh.1, HX.out]) (by rw [hh.2]; (try omega)), hB1⟩)
              | (have hf : (encodeRune x == (s.extract 0 (n + 1)).toList) = false := by assumption
                 go_roundw
                 case rel => exact ⟨(n + 1), by omega, by omega, by go_num, by rw [HX.out], hB1, no_next Hno.out (hit_is HX.out Hm.out hf)⟩
                 case measure => simp [intOf]; omega)
      · obtain ⟨e1, e2⟩ := first_end Hno.out (.inr (by omega))
        have E1 := hide e1
        have E2 := hide e2
        clear e1 e2
        go_wp2
        go_ret2
        exact ⟨ret_two (by rw [E1.out]) (by rw [E2.out]; rfl), hB⟩
    · obtain ⟨e1, e2⟩ := first_end Hno.out (.inl (by omega))
      have E1 := hide e1
      have E2 := hide e2
      clear e1 e2
      go_wp2
      go_ret2
      exact ⟨ret_two (by rw [E1.out]) (by rw [E2.out]; rfl), hB⟩
end Go.Proofs.Ytikhggdigndhoaau
