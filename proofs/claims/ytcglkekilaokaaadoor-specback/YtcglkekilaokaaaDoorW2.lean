/-
  WALKS: the reference's May2, May, begins, Bad, End (layer 5).
-/
import Derived.Test.YtcglkekilaokaaaDoorW1
namespace Go.Proofs.YtcglkekilaokaaaDoor
open Go.RowKit

theorem may2_word (s : ByteArray) (b : Bool) (h : 0 < s.size) (hw : wordN s[0].toNat = true) : mayS b s.data.toList = mayS true (s.extract 1 s.size).data.toList := by
  rw [cut_list]
  have e := mayS_word b (a := s[0]) hw (s.data.toList.drop 1)
  rw [← list_one s h] at e
  exact e
theorem may2_trip (s : ByteArray) (b : Bool) (h : tripB s.data.toList = true) : 3 ≤ s.size ∧ mayS b s.data.toList = mayS true (s.extract 3 s.size).data.toList := by
  have h3 : 3 ≤ s.size := Classical.byContradiction fun h' => by rw [trip_short s h'] at h; cases h
  refine ⟨h3, ?_⟩
  obtain ⟨x, y, r, hl, hx, hy⟩ := trip_is h
  rw [cut_list, hl, mayS_trip b hx hy]
  rfl
theorem may2_point (s : ByteArray) (h : 0 < s.size) (hp : s[0] = 46) : mayS true s.data.toList = mayS false (s.extract 1 s.size).data.toList ∧ mayS false s.data.toList = false := by
  rw [cut_list]
  have e := mayS_point (s.data.toList.drop 1)
  have l := list_one s h
  rw [hp] at l
  rw [← l] at e
  exact e
theorem may2_else (s : ByteArray) (b : Bool) (h : 0 < s.size) (hw : wordN s[0].toNat = false) (ht : tripB s.data.toList = false) (hp : s[0] ≠ 46) : mayS b s.data.toList = false := by
  have l := list_one s h
  rw [l] at ht ⊢
  exact mayS_else b hw ht hp

set_option maxRecDepth 20000 in
set_option maxHeartbeats 1000000 in
theorem may2_any (n : Nat) : ∀ (s : ByteArray) (b : Bool) (w : World), s.size ≤ n →
    Calls Tryd.prog 27 #[.string s, .bool b] w fun e w' => e = .returned (.bool (mayS b s.data.toList)) ∧ w' = w := by
  induction n with
  | zero =>
    intro s b w hs
    have hne := eq_none s (by omega)
    have Hm : Hid (mayS b s.data.toList = b) := by show mayS b s.data.toList = b; rw [list_none s (by omega), mayS_nil]
    go_enter Tryd.func27, Tryd.ntmps27
    go_wp2
    go_ret
    exact ⟨ret_bool Hm.out.symm, rfl⟩
  | succ n ih =>
    intro s b w hs
    by_cases hp : 0 < s.size
    · have hne := eq_some s hp
      have Ih : Hid (∀ (s : ByteArray) (b r : Bool) (w : World), s.size ≤ n → mayS b s.data.toList = r → Calls Tryd.prog 27 #[.string s, .bool b] w fun e w' => e = .returned (.bool r) ∧ w' = w) := by
        intro s b r w hs hr
        subst hr
        exact ih s b w hs
      have hs1 : (s.extract 1 s.size).size ≤ n := by simp; omega
      have hu := UInt8.toNat_lt s[0]
      clear ih
      obtain ⟨x, hx⟩ : ∃ x, wordN (s[0].toNat : Int).toNat = x := ⟨_, rfl⟩
      have hx' : wordN s[0].toNat = x := by rw [Int.toNat_natCast] at hx; exact hx
      have Hx := hide hx
      clear hx
      cases x with
      | true =>
        have Hm := hide (may2_word s b hp hx')
        clear hx'
        go_enter Tryd.func27, Tryd.ntmps27
        go_wp2_with (first | (go_at_call 36; refine (rword_is _ _ _ (by omega) Hx.out).mono ?_; rintro e w' ⟨rfl, hw⟩; rw [hw]) | (go_at_call 27; refine (Ih.out _ true _ _ hs1 Hm.out.symm).mono ?_; rintro e w' ⟨rfl, hw⟩; rw [hw]))
        go_ret
        exact ⟨rfl, rfl⟩
      | false =>
        cases ht : tripB s.data.toList with
        | true =>
          obtain ⟨h3, hm⟩ := may2_trip s b ht
          have Hm := hide hm
          have Ht := hide ht
          have hs3 : (s.extract 3 s.size).size ≤ n := by simp; omega
          clear hx' ht hm
          go_enter Tryd.func27, Tryd.ntmps27
          go_wp2_with (first | (go_at_call 36; refine (rword_is _ _ _ (by omega) Hx.out).mono ?_; rintro e w' ⟨rfl, hw⟩; rw [hw]) | (go_at_call 37; refine (rtrip_is _ _ _ Ht.out).mono ?_; rintro e w' ⟨rfl, hw⟩; rw [hw]) | (go_at_call 27; refine (Ih.out _ true _ _ hs3 Hm.out.symm).mono ?_; rintro e w' ⟨rfl, hw⟩; rw [hw]))
          go_ret
          exact ⟨rfl, rfl⟩
        | false =>
          have Ht := hide ht
          by_cases h46 : s[0] = 46
          · have hc : ((s[0].toNat : Int) == 46) = true := by simp [h46]
            obtain ⟨hm1, hm2⟩ := may2_point s hp h46
            have Hm1 := hide hm1
            have Hm2 := hide hm2
            clear hx' ht hm1 hm2 h46
            cases b
            all_goals
              go_enter Tryd.func27, Tryd.ntmps27
              go_wp2_with (first | (go_at_call 36; refine (rword_is _ _ _ (by omega) Hx.out).mono ?_; rintro e w' ⟨rfl, hw⟩; rw [hw]) | (go_at_call 37; refine (rtrip_is _ _ _ Ht.out).mono ?_; rintro e w' ⟨rfl, hw⟩; rw [hw]) | (go_at_call 27; refine (Ih.out _ false _ _ hs1 Hm1.out.symm).mono ?_; rintro e w' ⟨rfl, hw⟩; rw [hw]))
              go_ret
              first | exact ⟨rfl, rfl⟩ | exact ⟨ret_bool Hm2.out.symm, rfl⟩
          · have hc : ((s[0].toNat : Int) == 46) = false := by
              have : s[0].toNat ≠ 46 := fun e => h46 (UInt8.toNat_inj.1 e)
              simp; omega
            have Hm := hide (may2_else s b hp hx' ht h46)
            clear hx' ht h46
            go_enter Tryd.func27, Tryd.ntmps27
            go_wp2_with (first | (go_at_call 36; refine (rword_is _ _ _ (by omega) Hx.out).mono ?_; rintro e w' ⟨rfl, hw⟩; rw [hw]) | (go_at_call 37; refine (rtrip_is _ _ _ Ht.out).mono ?_; rintro e w' ⟨rfl, hw⟩; rw [hw]))
            go_ret
            exact ⟨ret_bool Hm.out.symm, rfl⟩
    · have hne := eq_none s hp
      have Hm : Hid (mayS b s.data.toList = b) := by show mayS b s.data.toList = b; rw [list_none s hp, mayS_nil]
      clear ih
      go_enter Tryd.func27, Tryd.ntmps27
      go_wp2
      go_ret
      exact ⟨ret_bool Hm.out.symm, rfl⟩

set_option maxHeartbeats 400000 in
theorem rmay_is (s : ByteArray) (b : Bool) (w : World) (h : nameB s.data.toList = b) : Calls Tryd.prog 16 #[.string s] w fun e w' => e = .returned (.bool b) ∧ w' = w := by
  subst h
  go_enter Tryd.func16, Tryd.ntmps16
  go_wp2_with (go_at_call 27; refine (may2_any s.size s false _ (Nat.le_refl _)).mono ?_; rintro e w' ⟨rfl, hw⟩; rw [hw])
  go_ret
  exact ⟨rfl, rfl⟩

/-- a begin of a name -/
def beginB (l : List UInt8) : Bool := decide (runN 0 l ≠ 4)
set_option maxRecDepth 20000 in
set_option maxHeartbeats 1000000 in
theorem begins_any (s : ByteArray) (w : World) (hs : s.size ≤ 1000000) :
    Calls Tryd.prog 28 #[.string s] w fun e w' => e = .returned (.bool (beginB s.data.toList)) ∧ w' = w := by
  have hb : beginB s.data.toList = _ := begin_is s.data.toList
  rw [hb]
  clear hb
  obtain ⟨x0, h0⟩ : ∃ x, nameB s.data.toList = x := ⟨_, rfl⟩
  obtain ⟨x1, h1⟩ : ∃ x, nameB (s.data.toList ++ [97]) = x := ⟨_, rfl⟩
  obtain ⟨x2, h2⟩ : ∃ x, nameB (s.data.toList ++ [52, 49]) = x := ⟨_, rfl⟩
  obtain ⟨x3, h3⟩ : ∃ x, nameB (s.data.toList ++ [49]) = x := ⟨_, rfl⟩
  rw [h0, h1, h2, h3]
  have H0 := hide h0
  have H1 : Hid (nameB (s ++ ⟨#[97]⟩).data.toList = x1) := by show nameB (s ++ ⟨#[97]⟩).data.toList = x1; rw [app_list]; exact h1
  have H2 : Hid (nameB (s ++ ⟨#[52, 49]⟩).data.toList = x2) := by show nameB (s ++ ⟨#[52, 49]⟩).data.toList = x2; rw [app_list]; exact h2
  have H3 : Hid (nameB (s ++ ⟨#[49]⟩).data.toList = x3) := by show nameB (s ++ ⟨#[49]⟩).data.toList = x3; rw [app_list]; exact h3
  clear h0 h1 h2 h3
  have T0 : Hid True := trivial
  have T1 : Hid True := trivial
  have T2 : Hid True := trivial
  have T3 : Hid True := trivial
  cases x0 <;> cases x1 <;> cases x2
  all_goals
    go_enter Tryd.func28, Tryd.ntmps28
    go_wp2_with (first | (go_at_call 16; have z := T0; refine (rmay_is _ _ _ H0.out).mono ?_; rintro e w' ⟨rfl, hw⟩; rw [hw]; clear T0 z) | (go_at_call 16; have z := T1; refine (rmay_is _ _ _ H1.out).mono ?_; rintro e w' ⟨rfl, hw⟩; rw [hw]; clear T1 z) | (go_at_call 16; have z := T2; refine (rmay_is _ _ _ H2.out).mono ?_; rintro e w' ⟨rfl, hw⟩; rw [hw]; clear T2 z) | (go_at_call 16; have z := T3; refine (rmay_is _ _ _ H3.out).mono ?_; rintro e w' ⟨rfl, hw⟩; rw [hw]; clear T3 z))
    go_ret
    exact ⟨rfl, rfl⟩
theorem begins_is (s : ByteArray) (b : Bool) (w : World) (hs : s.size ≤ 1000000) (h : beginB s.data.toList = b) :
    Calls Tryd.prog 28 #[.string s] w fun e w' => e = .returned (.bool b) ∧ w' = w := by subst h; exact begins_any s w hs

set_option maxRecDepth 20000 in
set_option maxHeartbeats 1000000 in
theorem rbad_any (s : ByteArray) (w : World) (hs : s.size ≤ 100000) :
    Calls Tryd.prog 17 #[.string s] w fun e w' => e = .returned (.int .i64 (badN s.data.toList)) ∧ w' = w := by
  have hle := bad_le s.data.toList
  rw [← size_list] at hle
  have hif : ∀ k, k ≤ s.size → (beginB (s.extract 0 k).data.toList = true ↔ k ≤ badN s.data.toList) := by
    intro k hk
    rw [head_list]
    unfold beginB
    rw [decide_eq_true_iff]
    exact bad_iff' _ k (by rw [← size_list]; exact hk)
  obtain ⟨N, hN⟩ : ∃ N, badN s.data.toList = N := ⟨_, rfl⟩
  rw [hN] at hle hif ⊢
  have Hif := hide hif
  clear hif hN
  go_enter Tryd.func17, Tryd.ntmps17
  go_wp2
  go_loop [3] (fun i => ∃ k : Nat, k ≤ N ∧ i = .int .i64 k) (fun i => s.size - (intOf i).toNat)
  case atStart => exact ⟨0, Nat.zero_le _, rfl⟩
  case round =>
    obtain ⟨k, hk, rfl⟩ := hrel
    by_cases hlt : k < s.size
    · have hxs : (s.extract 0 (k + 1)).size ≤ 1000000 := by rw [size_list, head_list, List.length_take, ← size_list]; omega
      by_cases hN : k + 1 ≤ N
      · have Hb := hide ((Hif.out (k + 1) (by omega)).2 hN)
        go_wp2_with (go_at_call 28; refine (begins_is _ _ _ hxs Hb.out).mono ?_; rintro e w' ⟨rfl, hw⟩; rw [hw])
        go_round
        case rel => exact ⟨k + 1, hN, by go_num⟩
        case measure => simp [intOf]; omega
      · have Hb : Hid (beginB (s.extract 0 (k + 1)).data.toList = false) := by
          show beginB (s.extract 0 (k + 1)).data.toList = false
          cases h : beginB (s.extract 0 (k + 1)).data.toList with
          | false => rfl
          | true => exact absurd ((Hif.out (k + 1) (by omega)).1 h) hN
        go_wp2_with (go_at_call 28; refine (begins_is _ _ _ hxs Hb.out).mono ?_; rintro e w' ⟨rfl, hw⟩; rw [hw])
        go_ret
        exact ⟨ret_int (by omega), rfl⟩
    · go_wp2
      go_ret
      exact ⟨ret_int (by omega), rfl⟩

set_option maxRecDepth 20000 in
set_option maxHeartbeats 1000000 in
theorem rend_any (s : ByteArray) (w : World) (hs : s.size ≤ 100000) :
    Calls Tryd.prog 33 #[.string s] w fun e w' => e = .returned (.int .i64 (endN s.data.toList)) ∧ w' = w := by
  have hE : endN s.data.toList = endK s.data.toList s.size := by unfold endN; rw [← size_list]
  rw [hE]
  have HE := hide hE
  clear hE
  go_enter Tryd.func33, Tryd.ntmps33
  go_wp2
  go_loop [3] (fun i => ∃ k : Nat, k ≤ s.size ∧ i = .int .i64 k ∧ endK s.data.toList s.size = endK s.data.toList k) (fun i => (intOf i).toNat)
  case atStart => exact ⟨s.size, Nat.le_refl _, rfl, rfl⟩
  case round =>
    obtain ⟨k, hk, rfl, he⟩ := hrel
    have He := hide he
    clear he
    cases k with
    | zero =>
      go_wp2
      go_ret
      refine ⟨ret_int ?_, rfl⟩
      rw [He.out]; rfl
    | succ k =>
      have hpos : (0 : Int) < ((k + 1 : Nat) : Int) := by omega
      cases hn : nameB (s.data.toList.take (k + 1)) with
      | true =>
        have Hn : Hid (nameB (s.extract 0 (k + 1)).data.toList = true) := by show nameB (s.extract 0 (k + 1)).data.toList = true; rw [head_list]; exact hn
        have Hx : Hid (endK s.data.toList (k + 1) = k + 1) := by show endK s.data.toList (k + 1) = k + 1; unfold endK; rw [if_pos hn]
        clear hn
        go_wp2_with (go_at_call 16; refine (rmay_is _ _ _ Hn.out).mono ?_; rintro e w' ⟨rfl, hw⟩; rw [hw])
        go_ret
        refine ⟨ret_int ?_, rfl⟩
        rw [He.out, Hx.out]
        omega
      | false =>
        have Hn : Hid (nameB (s.extract 0 (k + 1)).data.toList = false) := by show nameB (s.extract 0 (k + 1)).data.toList = false; rw [head_list]; exact hn
        have Hx : Hid (endK s.data.toList (k + 1) = endK s.data.toList k) := by show endK s.data.toList (k + 1) = endK s.data.toList k; rw [endK, if_neg (by rw [hn]; simp)]
        clear hn
        go_wp2_with (go_at_call 16; refine (rmay_is _ _ _ Hn.out).mono ?_; rintro e w' ⟨rfl, hw⟩; rw [hw])
        go_round
        case rel => exact ⟨k, by omega, by go_num, by rw [He.out, Hx.out]⟩
        case measure => simp [intOf]
end Go.Proofs.YtcglkekilaokaaaDoor
