/-
  THE WALK of VnameJoins.
-/
import Derived.Test.YthiipiflljgbbaaDoorW7
namespace Go.Proofs.YthiipiflljgbbaaDoor
open Go.RowKit

set_option maxRecDepth 20000 in
set_option maxHeartbeats 2000000 in
theorem joins_walk (a b : ByteArray) (w : World) :
    Calls Tryd.prog 4 #[.string a, .string b] w fun e w' => e = .returned (.bool true) ∧ Below w.heap.size w w' := by
  have B := Below.refl w.heap.size w
  by_cases hbig : 200 < a.size
  · go_enter Tryd.func4, Tryd.ntmps4
    go_wp2_with (first
      | (go_at_call 9; refine (awake_any _).mono ?_; rintro e w1 ⟨rfl, bb⟩; replace B := B.trans (bb.mono B.size); clear bb))
    go_ret
    exact ⟨rfl, B⟩
  by_cases hbig2 : 200 < b.size
  · go_enter Tryd.func4, Tryd.ntmps4
    go_wp2_with (first
      | (go_at_call 9; refine (awake_any _).mono ?_; rintro e w1 ⟨rfl, bb⟩; replace B := B.trans (bb.mono B.size); clear bb))
    go_ret
    exact ⟨rfl, B⟩
  have ha : a.size ≤ 100000 := by omega
  have hb : b.size ≤ 100000 := by omega
  have T0 : Hid True := trivial
  have T1 : Hid True := trivial
  have T2 : Hid True := trivial
  have T3 : Hid True := trivial
  have T4 : Hid True := trivial
  have T5 : Hid True := trivial
  have T6 : Hid True := trivial
  cases hna : nameB a.data.toList with
  | false =>
    have H0 := hide hna
    clear hna
    go_enter Tryd.func4, Tryd.ntmps4
    go_wp2_with (first
      | (go_at_call 9; refine (awake_any _).mono ?_; rintro e w1 ⟨rfl, bb⟩; replace B := B.trans (bb.mono B.size); clear bb)
      | (go_at_call 10; have z := T0; refine (pmay_is a false _ ha H0.out).mono ?_; rintro e w1 ⟨rfl, bb⟩; replace B := B.trans (bb.mono B.size); clear bb T0 z))
    go_ret
    first | exact ⟨rfl, B⟩ | exact ⟨ret_bool (by simp; omega), B⟩
  | true =>
    cases hnb : nameB b.data.toList with
    | false =>
      have H0 := hide hna
      have H1 := hide hnb
      clear hna hnb
      go_enter Tryd.func4, Tryd.ntmps4
      go_wp2_with (first
        | (go_at_call 9; refine (awake_any _).mono ?_; rintro e w1 ⟨rfl, bb⟩; replace B := B.trans (bb.mono B.size); clear bb)
        | (go_at_call 10; have z := T0; refine (pmay_is a true _ ha H0.out).mono ?_; rintro e w1 ⟨rfl, bb⟩; replace B := B.trans (bb.mono B.size); clear bb T0 z)
        | (go_at_call 10; have z := T1; refine (pmay_is b false _ hb H1.out).mono ?_; rintro e w1 ⟨rfl, bb⟩; replace B := B.trans (bb.mono B.size); clear bb T1 z))
      go_ret
      first | exact ⟨rfl, B⟩ | exact ⟨ret_bool (by simp; omega), B⟩
    | true =>
      have H2 : Hid (nameB (a ++ b).data.toList = true) := by show nameB (a ++ b).data.toList = true; rw [app_list]; exact name_app hna hnb
      have H3 : Hid (nameB ((a ++ ⟨#[46]⟩) ++ b).data.toList = true) := by show nameB ((a ++ ⟨#[46]⟩) ++ b).data.toList = true; rw [app_list, app_list, List.append_assoc]; exact name_point hna hnb
      have H4 : Hid (nameB ((a ++ ⟨#[46, 46]⟩) ++ b).data.toList = false) := by show nameB ((a ++ ⟨#[46, 46]⟩) ++ b).data.toList = false; rw [app_list, app_list, List.append_assoc]; exact name_points hna _
      have H5 : Hid (nameB ((⟨#[46]⟩ : ByteArray) ++ a).data.toList = false) := by show nameB ((⟨#[46]⟩ : ByteArray) ++ a).data.toList = false; rw [app_list]; exact name_ahead _
      have H6 : Hid (nameB (a ++ ⟨#[46]⟩).data.toList = false) := by show nameB (a ++ ⟨#[46]⟩).data.toList = false; rw [app_list]; exact name_behind hna
      have H7 : Hid ((badN (a ++ ⟨#[46, 46]⟩).data.toList : Int) = a.size + 1) := by show (badN (a ++ ⟨#[46, 46]⟩).data.toList : Int) = a.size + 1; rw [app_list, show ((⟨#[46, 46]⟩ : ByteArray).data.toList) = [46, 46] from rfl, bad_points hna, ← size_list]; rfl
      have z2 : (a ++ b).size ≤ 100000 := by rw [ByteArray.size_append]; omega
      have z3 : ((a ++ ⟨#[46]⟩) ++ b).size ≤ 100000 := by rw [ByteArray.size_append, ByteArray.size_append]; show a.size + 1 + b.size ≤ _; omega
      have z4 : ((a ++ ⟨#[46, 46]⟩) ++ b).size ≤ 100000 := by rw [ByteArray.size_append, ByteArray.size_append]; show a.size + 2 + b.size ≤ _; omega
      have z5 : ((⟨#[46]⟩ : ByteArray) ++ a).size ≤ 100000 := by rw [ByteArray.size_append]; show 1 + a.size ≤ _; omega
      have z6 : (a ++ ⟨#[46]⟩).size ≤ 100000 := by rw [ByteArray.size_append]; show a.size + 1 ≤ _; omega
      have z7 : (a ++ ⟨#[46, 46]⟩).size ≤ 100000 := by rw [ByteArray.size_append]; show a.size + 2 ≤ _; omega
      have H0 := hide hna
      have H1 := hide hnb
      clear hna hnb
      go_enter Tryd.func4, Tryd.ntmps4
      go_wp2_with (first
        | (go_at_call 9; refine (awake_any _).mono ?_; rintro e w1 ⟨rfl, bb⟩; replace B := B.trans (bb.mono B.size); clear bb)
        | (go_at_call 10; have z := T0; refine (pmay_is a true _ ha H0.out).mono ?_; rintro e w1 ⟨rfl, bb⟩; replace B := B.trans (bb.mono B.size); clear bb T0 z)
        | (go_at_call 10; have z := T1; refine (pmay_is b true _ hb H1.out).mono ?_; rintro e w1 ⟨rfl, bb⟩; replace B := B.trans (bb.mono B.size); clear bb T1 z)
        | (go_at_call 10; have z := T2; refine (pmay_is _ true _ z2 H2.out).mono ?_; rintro e w1 ⟨rfl, bb⟩; replace B := B.trans (bb.mono B.size); clear bb T2 z)
        | (go_at_call 10; have z := T3; refine (pmay_is _ true _ z3 H3.out).mono ?_; rintro e w1 ⟨rfl, bb⟩; replace B := B.trans (bb.mono B.size); clear bb T3 z)
        | (go_at_call 10; have z := T4; refine (pmay_is _ false _ z4 H4.out).mono ?_; rintro e w1 ⟨rfl, bb⟩; replace B := B.trans (bb.mono B.size); clear bb T4 z)
        | (go_at_call 10; have z := T5; refine (pmay_is _ false _ z5 H5.out).mono ?_; rintro e w1 ⟨rfl, bb⟩; replace B := B.trans (bb.mono B.size); clear bb T5 z)
        | (go_at_call 10; have z := T6; refine (pmay_is _ false _ z6 H6.out).mono ?_; rintro e w1 ⟨rfl, bb⟩; replace B := B.trans (bb.mono B.size); clear bb T6 z)
        | (go_at_call 12; refine (pbad_is _ _ _ z7 H7.out).mono ?_; rintro e w1 ⟨rfl, bb⟩; replace B := B.trans (bb.mono B.size); clear bb))
      go_ret
      first | exact ⟨rfl, B⟩ | exact ⟨ret_bool (by simp; omega), B⟩
end Go.Proofs.YthiipiflljgbbaaDoor
