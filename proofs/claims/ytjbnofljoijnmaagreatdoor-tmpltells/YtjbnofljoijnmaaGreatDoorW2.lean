/-
  WALKS: the reference's May2, May, begins, Bad, End (layer 5).
-/
import Derived.Test.YtjbnofljoijnmaaGreatDoorW1
namespace Go.Proofs.YtjbnofljoijnmaaGreatDoor
open Go.RowKit

theorem may2_word (s : ByteArray) (b : Bool) (h : 0 < s.size) (hw : wordN s[0].toNat = true) : mayS b s.data.toList = mayS true (s.extract 1 s.size).data.toList := by
  rw [cut_list]
  have e := mayS_word b (a := s[0]) hw (s.data.toList.drop 1)
  rw [← list_one s h] at e
  exact e
theorem may2_trip (s : ByteArray) (b : Bool) (h : tripB s.data.toList = true) : 3 ≤ s.size ∧ mayS b s.data.toList = mayS true (s.extract 3 s.size).data.toList := by
  have h3 : 3 ≤ s.size := Classical.byContradiction fun h' => by rw [trip_short s h'] at h; cases h
  refine ⟨h3, ?_⟩
  obtain ⟨x, y, r, hl, hx, hy⟩ := trip_is h
  rw [cut_list, hl, mayS_trip b hx hy]
  rfl
theorem may2_point (s : ByteArray) (h : 0 < s.size) (hp : s[0] = 46) : mayS true s.data.toList = mayS false (s.extract 1 s.size).data.toList ∧ mayS false s.data.toList = false := by
  rw [cut_list]
  have e := mayS_point (s.data.toList.drop 1)
  have l := list_one s h
  rw [hp] at l
  rw [← l] at e
  exact e
theorem may2_else (s : ByteArray) (b : Bool) (h : 0 < s.size) (hw : wordN s[0].toNat = false) (ht : tripB s.data.toList = false) (hp : s[0] ≠ 46) : mayS b s.data.toList = false := by
  have l := list_one s h
  rw [l] at ht ⊢
  exact mayS_else b hw ht hp

set_option maxRecDepth 20000 in
set_option maxHeartbeats 1000000 in
theorem may2_any (n : Nat) : ∀ (s : ByteArray) (b : Bool) (w : World), s.size ≤ n →
    Calls Tryz.prog 40 #[.string s, .bool b] w fun e w' => e = .returned (.bool (mayS b s.data.toList)) ∧ w' = w := by
  induction n with
  | zero =>
    intro s b w hs
    have hne := eq_none s (by omega)
    have Hm : Hid (mayS b s.data.toList = b) := by show mayS b s.data.toList = b; rw [list_none s (by omega), mayS_nil]
    go_enter Tryz.func40, Tryz.ntmps40
    go_wp2
    go_ret
    exact ⟨ret_bool Hm.out.symm, rfl⟩
  | succ n ih =>
    intro s b w hs
    by_cases hp : 0 < s.size
    · have hne := eq_some s hp
      have Ih : Hid (∀ (s : ByteArray) (b r : Bool) (w : World), s.size ≤ n → mayS b s.data.toList = r → Calls Tryz.prog 40 #[.string s, .bool b] w fun e w' => e = .returned (.bool r) ∧ w' = w) := by
        intro s b r w hs hr
        subst hr
        exact ih s b w hs
      have hs1 : (s.extract 1 s.size).size ≤ n := by simp; omega
      have hu := UInt8.toNat_lt s[0]
      clear ih
      obtain ⟨x, hx⟩ : ∃ x, wordN (s[0].toNat : Int).toNat = x := ⟨_, rfl⟩
      have hx' : wordN s[0].toNat = x := by rw [Int.toNat_natCast] at hx; exact hx
      have Hx := hide hx
      clear hx
      cases x with
      | true =>
        have Hm := hide (may2_word s b hp hx')
        clear hx'
        go_enter Tryz.func40, Tryz.ntmps40
        go_wp2_with (first | (go_at_call 57; refine (rword_is _ _ _ (by omega) Hx.out).mono ?_; rintro e w' ⟨rfl, hw⟩; rw [hw]) | (go_at_call 40; refine (Ih.out _ true _ _ hs1 Hm.out.symm).mono ?_; rintro e w' ⟨rfl, hw⟩; rw [hw]))
        go_ret
        exact ⟨rfl, rfl⟩
      | false =>
        cases ht : tripB s.data.toList with
        | true =>
          obtain ⟨h3, hm⟩ := may2_trip s b ht
          have Hm := hide hm
          have Ht := hide ht
          have hs3 : (s.extract 3 s.size).size ≤ n := by simp; omega
          clear hx' ht hm
          go_enter Tryz.func40, Tryz.ntmps40
          go_wp2_with (first | (go_at_call 57; refine (rword_is _ _ _ (by omega) Hx.out).mono ?_; rintro e w' ⟨rfl, hw⟩; rw [hw]) | (go_at_call 55; refine (rtrip_is _ _ _ Ht.out).mono ?_; rintro e w' ⟨rfl, hw⟩; rw [hw]) | (go_at_call 40; refine (Ih.out _ true _ _ hs3 Hm.out.symm).mono ?_; rintro e w' ⟨rfl, hw⟩; rw [hw]))
          go_ret
          exact ⟨rfl, rfl⟩
        | false =>
          have Ht := hide ht
          by_cases h46 : s[0] = 46
          · have hc : ((s[0].toNat : Int) == 46) = true := by simp [h46]
            obtain ⟨hm1, hm2⟩ := may2_point s hp h46
            have Hm1 := hide hm1
            have Hm2 := hide hm2
            clear hx' ht hm1 hm2 h46
            cases b
            all_goals
              go_enter Tryz.func40, Tryz.ntmps40
              go_wp2_with (first | (go_at_call 57; refine (rword_is _ _ _ (by omega) Hx.out).mono ?_; rintro e w' ⟨rfl, hw⟩; rw [hw]) | (go_at_call 55; refine (rtrip_is _ _ _ Ht.out).mono ?_; rintro e w' ⟨rfl, hw⟩; rw [hw]) | (go_at_call 40; refine (Ih.out _ false _ _ hs1 Hm1.out.symm).mono ?_; rintro e w' ⟨rfl, hw⟩; rw [hw]))
              go_ret
              first | exact ⟨rfl, rfl⟩ | exact ⟨ret_bool Hm2.out.symm, rfl⟩
          · have hc : ((s[0].toNat : Int) == 46) = false := by
              have : s[0].toNat ≠ 46 := fun e => h46 (UInt8.toNat_inj.1 e)
              simp; omega
            have Hm := hide (may2_else s b hp hx' ht h46)
            clear hx' ht h46
            go_enter Tryz.func40, Tryz.ntmps40
            go_wp2_with (first | (go_at_call 57; refine (rword_is _ _ _ (by omega) Hx.out).mono ?_; rintro e w' ⟨rfl, hw⟩; rw [hw]) | (go_at_call 55; refine (rtrip_is _ _ _ Ht.out).mono ?_; rintro e w' ⟨rfl, hw⟩; rw [hw]))
            go_ret
            exact ⟨ret_bool Hm.out.symm, rfl⟩
    · have hne := eq_none s hp
      have Hm : Hid (mayS b s.data.toList = b) := by show mayS b s.data.toList = b; rw [list_none s hp, mayS_nil]
      clear ih
      go_enter Tryz.func40, Tryz.ntmps40
      go_wp2
      go_ret
      exact ⟨ret_bool Hm.out.symm, rfl⟩

set_option maxHeartbeats 400000 in
theorem rmay_is (s : ByteArray) (b : Bool) (w : World) (h : nameB s.data.toList = b) : Calls Tryz.prog 23 #[.string s] w fun e w' => e = .returned (.bool b) ∧ w' = w := by
  subst h
  go_enter Tryz.func23, Tryz.ntmps23
  go_wp2_with (go_at_call 40; refine (may2_any s.size s false _ (Nat.le_refl _)).mono ?_; rintro e w' ⟨rfl, hw⟩; rw [hw])
  go_ret
  exact ⟨rfl, rfl⟩

/-- a begin of a name -/
def beginB (l : List UInt8) : Bool := decide (runN 0 l ≠ 4)
set_option maxRecDepth 20000 in
set_option maxHeartbeats 1000000 in
theorem rend_any (s : ByteArray) (w : World) (hs : s.size ≤ 100000) :
    Calls Tryz.prog 82 #[.string s] w fun e w' => e = .returned (.int .i64 (endN s.data.toList)) ∧ w' = w := by
  have hE : endN s.data.toList = endK s.data.toList s.size := by unfold endN; rw [← size_list]
  rw [hE]
  have HE := hide hE
  clear hE
  go_enter Tryz.func82, Tryz.ntmps82
  go_wp2
  go_loop [3] (fun i => ∃ k : Nat, k ≤ s.size ∧ i = .int .i64 k ∧ endK s.data.toList s.size = endK s.data.toList k) (fun i => (intOf i).toNat)
  case atStart => exact ⟨s.size, Nat.le_refl _, rfl, rfl⟩
  case round =>
    obtain ⟨k, hk, rfl, he⟩ := hrel
    have He := hide he
    clear he
    cases k with
    | zero =>
      go_wp2
      go_ret
      refine ⟨ret_int ?_, rfl⟩
      rw [He.out]; rfl
    | succ k =>
      have hpos : (0 : Int) < ((k + 1 : Nat) : Int) := by omega
      cases hn : nameB (s.data.toList.take (k + 1)) with
      | true =>
        have Hn : Hid (nameB (s.extract 0 (k + 1)).data.toList = true) := by show nameB (s.extract 0 (k + 1)).data.toList = true; rw [head_list]; exact hn
        have Hx : Hid (endK s.data.toList (k + 1) = k + 1) := by show endK s.data.toList (k + 1) = k + 1; unfold endK; rw [if_pos hn]
        clear hn
        go_wp2_with (go_at_call 23; refine (rmay_is _ _ _ Hn.out).mono ?_; rintro e w' ⟨rfl, hw⟩; rw [hw])
        go_ret
        refine ⟨ret_int ?_, rfl⟩
        rw [He.out, Hx.out]
        omega
      | false =>
        have Hn : Hid (nameB (s.extract 0 (k + 1)).data.toList = false) := by show nameB (s.extract 0 (k + 1)).data.toList = false; rw [head_list]; exact hn
        have Hx : Hid (endK s.data.toList (k + 1) = endK s.data.toList k) := by show endK s.data.toList (k + 1) = endK s.data.toList k; rw [endK, if_neg (by rw [hn]; simp)]
        clear hn
        go_wp2_with (go_at_call 23; refine (rmay_is _ _ _ Hn.out).mono ?_; rintro e w' ⟨rfl, hw⟩; rw [hw])
        go_round
        case rel => exact ⟨k, by omega, by go_num, by rw [He.out, Hx.out]⟩
        case measure => simp [intOf]
end Go.Proofs.YtjbnofljoijnmaaGreatDoor
