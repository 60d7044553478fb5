/-
  WALKS: the reference's classes, Triplet; May2, May, begins, Bad, End (layer 5).
-/
import Derived.Test.YtjbnofljoijnmaaGreatDoorProg
import Derived.Test.YtjbnofljoijnmaaGreatDoorN2
import Derived.WalkKit
import Derived.WalkSpells
import Derived.WalkLawsBesides
import Derived.Lib.Strings
import Derived.Outline
import Derived.OwnWalk
import Derived.RegionTactic
import Derived.Deep.RegionWith
import Derived.Deep.QuietTactic
import Derived.BigQuiet
namespace Go.Proofs.YtjbnofljoijnmaaGreatDoor
open Go.RowKit

theorem hide {p : Prop} (h : p) : Hid p := h
theorem ret_bool {a b : Bool} (h : a = b) : Ending.returned (.bool a) = .returned (.bool b) := by rw [h]
theorem ret_int {k : IntKind} {a b : Int} (h : a = b) : Ending.returned (.int k a) = .returned (.int k b) := by rw [h]
theorem cut_list (s : ByteArray) (k : Nat) : (s.extract k s.size).data.toList = s.data.toList.drop k := by
  rw [← Lib.toList_data, Lib.extract_toList]
  apply List.take_of_length_le
  simp
theorem head_list (s : ByteArray) (k : Nat) : (s.extract 0 k).data.toList = s.data.toList.take k := by
  rw [← Lib.toList_data, Lib.extract_toList]; rfl
theorem size_list (x : ByteArray) : x.size = x.data.toList.length := by simp
theorem list_one (s : ByteArray) (h : 0 < s.size) : s.data.toList = s[0] :: s.data.toList.drop 1 := by
  have e1 : s.data.toList.length = s.size := by simp
  exact (List.drop_eq_getElem_cons (l := s.data.toList) (i := 0) (by omega))
theorem list_none (s : ByteArray) (h : ¬ 0 < s.size) : s.data.toList = [] := by
  have e1 : s.data.toList.length = s.size := by simp
  exact List.eq_nil_of_length_eq_zero (by omega)
theorem list_three (s : ByteArray) (h : 3 ≤ s.size) : s.data.toList = s[0] :: s[1] :: s[2] :: s.data.toList.drop 3 := by
  have e1 : s.data.toList.length = s.size := by simp
  have h0 : s.data.toList.drop 0 = s[0] :: s.data.toList.drop 1 := List.drop_eq_getElem_cons (by omega)
  have h1 : s.data.toList.drop 1 = s[1] :: s.data.toList.drop 2 := List.drop_eq_getElem_cons (by omega)
  have h2 : s.data.toList.drop 2 = s[2] :: s.data.toList.drop 3 := List.drop_eq_getElem_cons (by omega)
  rw [← h2, ← h1, ← h0]; rfl
theorem trip_short (s : ByteArray) (h : ¬ 3 ≤ s.size) : tripB s.data.toList = false := by
  have e1 : s.data.toList.length = s.size := by simp
  match hl : s.data.toList with
  | [] => rfl
  | [_] => rfl
  | [_, _] => rfl
  | _ :: _ :: _ :: _ => rw [hl] at e1; simp at e1; omega
theorem trip_at (s : ByteArray) (h : 3 ≤ s.size) : tripB s.data.toList = (s[0] == 37 && hexN s[1].toNat && hexN s[2].toNat) := by
  rw [list_three s h]; rfl
theorem eq_some (x : ByteArray) (h : 0 < x.size) : x.toList.isEmpty = false := by
  rw [Lib.toList_data, list_one x h]; rfl
theorem eq_none (x : ByteArray) (h : ¬ 0 < x.size) : x.toList.isEmpty = true := by
  rw [Lib.toList_data, list_none x h]; rfl
theorem app_list (a b : ByteArray) : (a ++ b).data.toList = a.data.toList ++ b.data.toList := by
  simp
theorem take_snoc (s : ByteArray) (k : Nat) (h : k < s.size) : s.data.toList.take (k + 1) = s.data.toList.take k ++ [s[k]] := by
  rw [List.take_succ_eq_append_getElem (by simpa using h)]; rfl

def digN' (n : Nat) : Bool := decide (48 ≤ n ∧ n ≤ 57)
def alphN (n : Nat) : Bool := decide (65 ≤ n ∧ n ≤ 90 ∨ 97 ≤ n ∧ n ≤ 122)
set_option maxHeartbeats 400000 in
theorem rdigit_is (c : Int) (b : Bool) (w : World) (h0 : 0 ≤ c) (h : digN' c.toNat = b) : Calls Tryz.prog 78 #[.int .u8 c] w fun e w' => e = .returned (.bool b) ∧ w' = w := by
  subst h
  go_enter Tryz.func78, Tryz.ntmps78
  go_wp2
  all_goals go_ret
  all_goals refine ⟨ret_bool ?_, rfl⟩
  all_goals (unfold digN'; rw [Bool.eq_iff_iff]; simp [*]; try omega)
set_option maxHeartbeats 400000 in
theorem ralpha_is (c : Int) (b : Bool) (w : World) (h0 : 0 ≤ c) (h : alphN c.toNat = b) : Calls Tryz.prog 77 #[.int .u8 c] w fun e w' => e = .returned (.bool b) ∧ w' = w := by
  subst h
  go_enter Tryz.func77, Tryz.ntmps77
  go_wp2
  all_goals go_ret
  all_goals refine ⟨ret_bool ?_, rfl⟩
  all_goals (unfold alphN; rw [Bool.eq_iff_iff]; simp [*]; try omega)
set_option maxHeartbeats 400000 in
theorem rhex_is (c : Int) (b : Bool) (w : World) (h0 : 0 ≤ c) (h : hexN c.toNat = b) : Calls Tryz.prog 74 #[.int .u8 c] w fun e w' => e = .returned (.bool b) ∧ w' = w := by
  subst h
  obtain ⟨d, hd⟩ : ∃ d, digN' c.toNat = d := ⟨_, rfl⟩
  have e : hexN c.toNat = (d || decide (65 ≤ c ∧ c ≤ 70 ∨ 97 ≤ c ∧ c ≤ 102)) := by rw [← hd]; unfold hexN digN'; rw [Bool.eq_iff_iff]; simp; omega
  rw [e]
  have Hd := hide hd
  clear hd e
  cases d
  all_goals
    go_enter Tryz.func74, Tryz.ntmps74
    go_wp2_with (go_at_call 78; refine (rdigit_is _ _ _ h0 Hd.out).mono ?_; rintro e w' ⟨rfl, hw⟩; rw [hw])
    all_goals go_ret
    all_goals refine ⟨ret_bool ?_, rfl⟩
    all_goals first | rfl | (rw [Bool.eq_iff_iff]; simp [*]; try omega)
set_option maxHeartbeats 400000 in
theorem rword_is (c : Int) (b : Bool) (w : World) (h0 : 0 ≤ c) (h : wordN c.toNat = b) : Calls Tryz.prog 57 #[.int .u8 c] w fun e w' => e = .returned (.bool b) ∧ w' = w := by
  subst h
  obtain ⟨d, hd⟩ : ∃ d, digN' c.toNat = d := ⟨_, rfl⟩
  obtain ⟨a, ha⟩ : ∃ d, alphN c.toNat = d := ⟨_, rfl⟩
  have e : wordN c.toNat = (a || d || (c == 95)) := by rw [← hd, ← ha]; unfold wordN digN' alphN; rw [Bool.eq_iff_iff]; simp; omega
  rw [e]
  have Hd := hide hd
  have Ha := hide ha
  clear hd ha e
  cases a <;> cases d
  all_goals
    go_enter Tryz.func57, Tryz.ntmps57
    go_wp2_with (first | (go_at_call 78; refine (rdigit_is _ _ _ h0 Hd.out).mono ?_; rintro e w' ⟨rfl, hw⟩; rw [hw]) | (go_at_call 77; refine (ralpha_is _ _ _ h0 Ha.out).mono ?_; rintro e w' ⟨rfl, hw⟩; rw [hw]))
    all_goals go_ret
    all_goals refine ⟨ret_bool ?_, rfl⟩
    all_goals simp

set_option maxRecDepth 20000 in
set_option maxHeartbeats 1000000 in
theorem rtrip_any (s : ByteArray) (w : World) :
    Calls Tryz.prog 55 #[.string s] w fun e w' => e = .returned (.bool (tripB s.data.toList)) ∧ w' = w := by
  by_cases h : 3 ≤ s.size
  · have ht := trip_at s h
    have Ht := hide ht
    clear ht
    obtain ⟨x1, h1⟩ : ∃ x, hexN (s[1].toNat : Int).toNat = x := ⟨_, rfl⟩
    obtain ⟨x2, h2⟩ : ∃ x, hexN (s[2].toNat : Int).toNat = x := ⟨_, rfl⟩
    have e1 : hexN s[1].toNat = x1 := by rw [Int.toNat_natCast] at h1; exact h1
    have e2 : hexN s[2].toNat = x2 := by rw [Int.toNat_natCast] at h2; exact h2
    have H1 := hide h1
    have H2 := hide h2
    have E1 := hide e1
    have E2 := hide e2
    clear h1 h2 e1 e2
    have T1 : Hid True := trivial
    cases x1 <;> cases x2
    all_goals
      by_cases h0 : s[0] = 37
      · have h0' : ((s[0].toNat : Int) == 37) = true := by simp [h0]
        have H0 := hide h0
        clear h0
        go_enter Tryz.func55, Tryz.ntmps55
        go_wp2_with (first | (go_at_call 74; have z := T1; refine (rhex_is _ _ _ (by omega) H1.out).mono ?_; rintro e w' ⟨rfl, hw⟩; rw [hw]; clear T1 z) | (go_at_call 74; refine (rhex_is _ _ _ (by omega) H2.out).mono ?_; rintro e w' ⟨rfl, hw⟩; rw [hw]))
        all_goals go_ret
        all_goals exact ⟨ret_bool (by rw [Ht.out, H0.out, E1.out, E2.out]; rfl), rfl⟩
      · have h0' : ((s[0].toNat : Int) == 37) = false := by
          have : s[0].toNat ≠ 37 := fun e => h0 (UInt8.toNat_inj.1 e)
          simp; omega
        have H0 := hide h0
        clear h0
        go_enter Tryz.func55, Tryz.ntmps55
        go_wp2
        all_goals go_ret
        all_goals exact ⟨ret_bool (by rw [Ht.out]; simp [H0.out]), rfl⟩
  · have ht := trip_short s h
    have Ht := hide ht
    clear ht
    go_enter Tryz.func55, Tryz.ntmps55
    go_wp2
    all_goals go_ret
    all_goals exact ⟨ret_bool Ht.out.symm, rfl⟩
theorem rtrip_is (s : ByteArray) (b : Bool) (w : World) (h : tripB s.data.toList = b) : Calls Tryz.prog 55 #[.string s] w fun e w' => e = .returned (.bool b) ∧ w' = w := by
  subst h; exact rtrip_any s w
end Go.Proofs.YtjbnofljoijnmaaGreatDoor
