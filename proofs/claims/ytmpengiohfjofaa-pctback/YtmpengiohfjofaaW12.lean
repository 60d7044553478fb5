/-
  WALKS: pct.Triplet, byteOf; the reference's Triplet.
-/
import Derived.Test.YtmpengiohfjofaaW11
namespace Go.Proofs.Ytmpengiohfjofaa
open Go.RowKit

theorem dig_is (c : Int) (n : Int) (b : Bool) (w : World) (h0 : 0 ≤ c) (h1 : c ≤ 255) (h : (digN c.toNat : Int) = n) (h' : hexN c.toNat = b) :
    Calls Try.prog 10 #[.int .u8 c] w fun e w' => e = .returned (.tuple #[.int .i64 n, .bool b]) ∧ w' = w := by
  subst h h'; exact dig_any c w h0 h1
theorem rdig_is (c : Int) (n : Int) (b : Bool) (w : World) (h0 : 0 ≤ c) (h1 : c ≤ 255) (h : (digN c.toNat : Int) = n) (h' : hexN c.toNat = b) :
    Calls Try.prog 11 #[.int .u8 c] w fun e w' => e = .returned (.tuple #[.int .i64 n, .bool b]) ∧ w' = w := by
  subst h h'; exact rdig_any c w h0 h1
theorem rhex_is (c : Int) (b : Bool) (w : World) (h0 : 0 ≤ c) (h1 : c ≤ 255) (h : hexN c.toNat = b) : Calls Try.prog 25 #[.int .u8 c] w fun e w' => e = .returned (.bool b) ∧ w' = w := by
  have := rhex_any c w h0 h1
  rw [hx_fin ⟨c.toNat, by omega⟩] at this
  subst h; exact this

theorem list_three (s : ByteArray) (h : 3 ≤ s.size) : s.data.toList = s[0] :: s[1] :: s[2] :: s.data.toList.drop 3 := by
  have e1 : s.data.toList.length = s.size := by simp
  have h0 : s.data.toList.drop 0 = s[0] :: s.data.toList.drop 1 := List.drop_eq_getElem_cons (by omega)
  have h1 : s.data.toList.drop 1 = s[1] :: s.data.toList.drop 2 := List.drop_eq_getElem_cons (by omega)
  have h2 : s.data.toList.drop 2 = s[2] :: s.data.toList.drop 3 := List.drop_eq_getElem_cons (by omega)
  rw [← h2, ← h1, ← h0]; rfl
theorem trip_short (s : ByteArray) (h : ¬ 3 ≤ s.size) : tripB s.data.toList = false := by
  have e1 : s.data.toList.length = s.size := by simp
  match hl : s.data.toList with
  | [] => rfl
  | [_] => rfl
  | [_, _] => rfl
  | _ :: _ :: _ :: _ => rw [hl] at e1; simp at e1; omega
theorem trip_at (s : ByteArray) (h : 3 ≤ s.size) : tripB s.data.toList = (s[0] == 37 && hexN s[1].toNat && hexN s[2].toNat) := by
  rw [list_three s h]; rfl

set_option maxRecDepth 20000 in
set_option maxHeartbeats 1000000 in
theorem trip_any (s : ByteArray) (w : World) :
    Calls Try.prog 14 #[.string s] w fun e w' => e = .returned (.bool (tripB s.data.toList)) ∧ w' = w := by
  by_cases h : 3 ≤ s.size
  · have ht := trip_at s h
    have Ht := hide ht
    clear ht
    have b1 := UInt8.toNat_lt s[1]
    have b2 := UInt8.toNat_lt s[2]
    have hn : ¬ s.size < 3 := by omega
    obtain ⟨x1, h1⟩ : ∃ x, hexN s[1].toNat = x := ⟨_, rfl⟩
    obtain ⟨x2, h2⟩ : ∃ x, hexN s[2].toNat = x := ⟨_, rfl⟩
    cases x1 <;> cases x2
    all_goals
      have H1 := hide h1
      have H2 := hide h2
      clear h1 h2
      by_cases h0 : s[0] = 37
      · have h0' : ((s[0].toNat : Int) != 37) = false := by simp [h0]
        have H0 := hide h0
        clear h0
        go_enter Try.func14, Try.ntmps14
        go_wp2_with (first | (go_at_call 10; refine (dig_is _ _ true _ (by omega) (by omega) rfl (by rw [Int.toNat_natCast]; exact H1.out)).mono ?_; rintro e w' ⟨rfl, hw⟩; rw [hw]) | (go_at_call 10; refine (dig_is _ _ false _ (by omega) (by omega) rfl (by rw [Int.toNat_natCast]; exact H1.out)).mono ?_; rintro e w' ⟨rfl, hw⟩; rw [hw]) | (go_at_call 10; refine (dig_is _ _ true _ (by omega) (by omega) rfl (by rw [Int.toNat_natCast]; exact H2.out)).mono ?_; rintro e w' ⟨rfl, hw⟩; rw [hw]) | (go_at_call 10; refine (dig_is _ _ false _ (by omega) (by omega) rfl (by rw [Int.toNat_natCast]; exact H2.out)).mono ?_; rintro e w' ⟨rfl, hw⟩; rw [hw]))
        all_goals go_ret
        all_goals exact ⟨ret_bool (by rw [Ht.out, H0.out, H1.out, H2.out]; rfl), rfl⟩
      · have h0' : ((s[0].toNat : Int) != 37) = true := by
          have : s[0].toNat ≠ 37 := fun e => h0 (UInt8.toNat_inj.1 e)
          simp; omega
        have H0 := hide h0
        clear h0
        go_enter Try.func14, Try.ntmps14
        go_wp2
        all_goals go_ret
        all_goals exact ⟨ret_bool (by rw [Ht.out]; simp [H0.out]), rfl⟩
  · have ht := trip_short s h
    have Ht := hide ht
    clear ht
    have hn : s.size < 3 := by omega
    go_enter Try.func14, Try.ntmps14
    go_wp2
    all_goals go_ret
    all_goals exact ⟨ret_bool Ht.out.symm, rfl⟩

set_option maxRecDepth 20000 in
set_option maxHeartbeats 1000000 in
theorem rtrip_any (s : ByteArray) (w : World) :
    Calls Try.prog 15 #[.string s] w fun e w' => e = .returned (.bool (tripB s.data.toList)) ∧ w' = w := by
  by_cases h : 3 ≤ s.size
  · have ht := trip_at s h
    have Ht := hide ht
    clear ht
    have b1 := UInt8.toNat_lt s[1]
    have b2 := UInt8.toNat_lt s[2]
    obtain ⟨x1, h1⟩ : ∃ x, hexN s[1].toNat = x := ⟨_, rfl⟩
    obtain ⟨x2, h2⟩ : ∃ x, hexN s[2].toNat = x := ⟨_, rfl⟩
    cases x1 <;> cases x2
    all_goals
      have H1 := hide h1
      have H2 := hide h2
      clear h1 h2
      by_cases h0 : s[0] = 37
      · have h0' : ((s[0].toNat : Int) == 37) = true := by simp [h0]
        have H0 := hide h0
        clear h0
        go_enter Try.func15, Try.ntmps15
        go_wp2_with (first | (go_at_call 25; refine (rhex_is _ true _ (by omega) (by omega) (by rw [Int.toNat_natCast]; exact H1.out)).mono ?_; rintro e w' ⟨rfl, hw⟩; rw [hw]) | (go_at_call 25; refine (rhex_is _ false _ (by omega) (by omega) (by rw [Int.toNat_natCast]; exact H1.out)).mono ?_; rintro e w' ⟨rfl, hw⟩; rw [hw]) | (go_at_call 25; refine (rhex_is _ true _ (by omega) (by omega) (by rw [Int.toNat_natCast]; exact H2.out)).mono ?_; rintro e w' ⟨rfl, hw⟩; rw [hw]) | (go_at_call 25; refine (rhex_is _ false _ (by omega) (by omega) (by rw [Int.toNat_natCast]; exact H2.out)).mono ?_; rintro e w' ⟨rfl, hw⟩; rw [hw]))
        all_goals go_ret
        all_goals exact ⟨ret_bool (by rw [Ht.out, H0.out, H1.out, H2.out]; rfl), rfl⟩
      · have h0' : ((s[0].toNat : Int) == 37) = false := by
          have : s[0].toNat ≠ 37 := fun e => h0 (UInt8.toNat_inj.1 e)
          simp; omega
        have H0 := hide h0
        clear h0
        go_enter Try.func15, Try.ntmps15
        go_wp2
        all_goals go_ret
        all_goals exact ⟨ret_bool (by rw [Ht.out]; simp [H0.out]), rfl⟩
  · have ht := trip_short s h
    have Ht := hide ht
    clear ht
    go_enter Try.func15, Try.ntmps15
    go_wp2
    all_goals go_ret
    all_goals exact ⟨ret_bool Ht.out.symm, rfl⟩

set_option maxRecDepth 20000 in
set_option maxHeartbeats 1000000 in
theorem byteOf_any (s : ByteArray) (w : World) (h : 3 ≤ s.size) :
    Calls Try.prog 29 #[.string s] w fun e w' => e = .returned (.int .u8 ((16 * digN s[1].toNat + digN s[2].toNat : Nat) : Int)) ∧ w' = w := by
  have b1 := UInt8.toNat_lt s[1]
  have b2 := UInt8.toNat_lt s[2]
  have d1 := dig_le s[1].toNat
  have d2 := dig_le s[2].toNat
  obtain ⟨x, hx⟩ : ∃ x, digN s[1].toNat = x := ⟨_, rfl⟩
  obtain ⟨y, hy⟩ : ∃ y, digN s[2].toNat = y := ⟨_, rfl⟩
  rw [hx] at d1
  rw [hy] at d2
  have Hx := hide hx
  have Hy := hide hy
  rw [hx, hy]
  clear hx hy
  go_enter Try.func29, Try.ntmps29
  go_wp2_with (first | (go_at_call 10; refine (dig_is _ (x : Int) _ _ (by omega) (by omega) (by rw [Int.toNat_natCast]; exact congrArg Nat.cast Hx.out) rfl).mono ?_; rintro e w' ⟨rfl, hw⟩; rw [hw]) | (go_at_call 10; refine (dig_is _ (y : Int) _ _ (by omega) (by omega) (by rw [Int.toNat_natCast]; exact congrArg Nat.cast Hy.out) rfl).mono ?_; rintro e w' ⟨rfl, hw⟩; rw [hw]))
  go_ret
  exact ⟨ret_int (by omega), rfl⟩
end Go.Proofs.Ytmpengiohfjofaa
