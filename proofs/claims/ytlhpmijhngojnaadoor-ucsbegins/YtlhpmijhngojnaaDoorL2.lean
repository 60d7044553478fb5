/-
  THE WALK of UcsBegins.
-/
import Derived.Test.YtlhpmijhngojnaaDoorL3
namespace Go.Proofs.YtlhpmijhngojnaaDoor
open Go.RowKit
open Go.Lib (encodeRune)

set_option maxRecDepth 20000 in
set_option maxHeartbeats 2000000 in
theorem begins_walk (c more : Int) (w : World) (R : Ran w) (h0 : 0 ≤ more) (h1 : more ≤ 255) (hc0 : -9223372036854775808 ≤ c) (hc1 : c ≤ 9223372036854775807) :
    Calls Tryd.prog 4 #[.int .i64 c, .int .u8 more] w fun e w' => e = .returned (.bool true) ∧ Below w.heap.size w w' := by
  have B := Below.refl w.heap.size w
  have R1 := hide R
  clear R
  cases hu : mayU c with
  | false =>
    have Hu := hide hu
    by_cases g1 : c < 128
    · clear hu
      go_enter Tryd.func4, Tryd.ntmps4
      go_wp2_with (first
        | (go_at_call 9; refine (awake_any _ (R1.out.next B)).mono ?_; rintro e w1 ⟨rfl, bb⟩; replace B := B.trans (bb.mono B.size); clear bb)
        | (go_at_call 12; refine (pmay_is c false _ (R1.out.next B) Hu.out).mono ?_; rintro e w1 ⟨rfl, bb⟩; replace B := B.trans (bb.mono B.size); clear bb))
      go_ret
      first | exact ⟨rfl, B⟩ | exact ⟨ret_bool (by simp; omega), B⟩
    by_cases g2 : 1114111 < c
    · clear hu
      go_enter Tryd.func4, Tryd.ntmps4
      go_wp2_with (first
        | (go_at_call 9; refine (awake_any _ (R1.out.next B)).mono ?_; rintro e w1 ⟨rfl, bb⟩; replace B := B.trans (bb.mono B.size); clear bb)
        | (go_at_call 12; refine (pmay_is c false _ (R1.out.next B) Hu.out).mono ?_; rintro e w1 ⟨rfl, bb⟩; replace B := B.trans (bb.mono B.size); clear bb))
      go_ret
      first | exact ⟨rfl, B⟩ | exact ⟨ret_bool (by simp; omega), B⟩
    by_cases g3 : 55296 ≤ c ∧ c ≤ 57343
    · obtain ⟨g3, g4⟩ := g3
      obtain ⟨m, hm⟩ : ∃ m : ByteArray, m = ⟨(surL c).toArray⟩ := ⟨_, rfl⟩
      have hms : m.size ≤ 100000 := by rw [hm]; show (surL c).toArray.size ≤ 100000; simp [surL]
      obtain ⟨f, hf⟩ : ∃ f, fitB m.data.toList = f := ⟨_, rfl⟩
      have Hm := hide hm
      have Hf := hide hf
      clear hu hm hf
      cases f
      all_goals
        go_enter Tryd.func4, Tryd.ntmps4
        go_wp2_with (first
          | (go_at_call 9; refine (awake_any _ (R1.out.next B)).mono ?_; rintro e w1 ⟨rfl, bb⟩; replace B := B.trans (bb.mono B.size); clear bb)
          | (go_at_call 12; refine (pmay_is c false _ (R1.out.next B) Hu.out).mono ?_; rintro e w1 ⟨rfl, bb⟩; replace B := B.trans (bb.mono B.size); clear bb)
          | (go_at_call 16; refine (sur_is c m _ (by omega) (by omega) Hm.out).mono ?_; rintro e w1 ⟨rfl, bb⟩; replace B := B.trans (bb.mono B.size); clear bb)
          | (go_at_call 14; refine (pfits_is m _ _ (R1.out.next B) Hf.out).mono ?_; rintro e w1 ⟨rfl, bb⟩; replace B := B.trans (bb.mono B.size); clear bb))
        go_ret
        first | exact ⟨rfl, B⟩ | exact ⟨ret_bool (by simp; omega), B⟩
    · have hb : mayB c = true := by rw [mayB_iff]; omega
      obtain ⟨m, hm⟩ : ∃ m : ByteArray, m = ⟨(encodeRune c).toArray⟩ := ⟨_, rfl⟩
      have hms : m.size ≤ 100000 := by rw [hm]; show (encodeRune c).toArray.size ≤ 100000; have := (enc_len c).2; simp; omega
      have hf : fitB m.data.toList = false := by rw [hm]; exact fit_not hb hu
      have Hm := hide hm
      have Hf := hide hf
      clear hu hm hf g3
      go_enter Tryd.func4, Tryd.ntmps4
      go_wp2_with (first
        | (go_at_call 9; refine (awake_any _ (R1.out.next B)).mono ?_; rintro e w1 ⟨rfl, bb⟩; replace B := B.trans (bb.mono B.size); clear bb)
        | (go_at_call 12; refine (pmay_is c false _ (R1.out.next B) Hu.out).mono ?_; rintro e w1 ⟨rfl, bb⟩; replace B := B.trans (bb.mono B.size); clear bb)
        | (go_at_call 16; refine (one_is c m _ hb Hm.out).mono ?_; rintro e w1 ⟨rfl, bb⟩; replace B := B.trans (bb.mono B.size); clear bb)
        | (go_at_call 14; refine (pfits_is m _ _ (R1.out.next B) Hf.out).mono ?_; rintro e w1 ⟨rfl, bb⟩; replace B := B.trans (bb.mono B.size); clear bb))
      go_ret
      first | exact ⟨rfl, B⟩ | exact ⟨ret_bool (by simp; omega), B⟩
  | true =>
    have hb := (mayU_may hu).1
    obtain ⟨m, hm⟩ : ∃ m : ByteArray, m = ⟨(encodeRune c).toArray⟩ := ⟨_, rfl⟩
    have hml : m.data.toList = encodeRune c := by rw [hm]
    have hmz : m.size = (encodeRune c).length := by rw [hm]; show (encodeRune c).toArray.size = _; simp
    have hm4 := enc_len c
    rw [← hmz] at hm4
    obtain ⟨hm41, hm42⟩ := hm4
    have hcv := fun W => conv_one W more h0 h1
    obtain ⟨o, ho⟩ : ∃ m : ByteArray, (⟨#[more.toNat.toUInt8]⟩ : ByteArray) = m := ⟨_, rfl⟩
    rw [ho] at hcv
    have hos : o.size = 1 := by rw [← ho]; rfl
    have hol : o.data.toList = [more.toNat.toUInt8] := by rw [← ho]
    have htk := take_enc c hu [more.toNat.toUInt8]
    rw [← hml, ← hol, ← app_list] at htk
    have Htc : Hid (takeC (m ++ o).data.toList = c) := htk.1
    have Htn : Hid ((takeN (m ++ o).data.toList : Int) = m.size) := by show (takeN (m ++ o).data.toList : Int) = m.size; rw [htk.2, hml, hmz]
    have Hov : Hid (fitB (m ++ o).data.toList = false) := by show fitB (m ++ o).data.toList = false; rw [app_list, hml, hol]; exact fit_over hb _
    have hmo : (m ++ o).size ≤ 100000 := by rw [ByteArray.size_append]; omega
    have Hfi : Hid (∀ k, 1 ≤ k → fitB (m.extract 0 k).data.toList = true) := fun k hk => by rw [ext_list, hml]; exact fit_enc hu k hk
    have Hm := hide hm
    have Hu := hide hu
    have T1 : Hid True := trivial
    clear hm hml hmz hu ho hol htk
    go_enter Tryd.func4, Tryd.ntmps4
    go_wp2_with (first
      | (go_at_call 9; refine (awake_any _ (R1.out.next B)).mono ?_; rintro e w1 ⟨rfl, bb⟩; replace B := B.trans (bb.mono B.size); clear bb)
      | (go_at_call 12; refine (pmay_is c true _ (R1.out.next B) Hu.out).mono ?_; rintro e w1 ⟨rfl, bb⟩; replace B := B.trans (bb.mono B.size); clear bb)
      | (go_at_call 16; refine (one_is c m _ hb Hm.out).mono ?_; rintro e w1 ⟨rfl, bb⟩; replace B := B.trans (bb.mono B.size); clear bb))
    go_loopw [7] (fun i wr => ∃ k : Nat, 1 ≤ k ∧ k ≤ m.size + 1 ∧ i = .int .i64 k ∧ Below w.heap.size w wr) (fun i _ => m.size + 1 - (intOf i).toNat)
    case atStart => exact ⟨1, Nat.le_refl _, by omega, rfl, B⟩
    case round =>
      clear B
      obtain ⟨k, hk1, hk2, rfl, B⟩ := hrel
      by_cases hlt : k ≤ m.size
      · have hxs : (m.extract 0 k).size ≤ 100000 := by
          have e1 : (m.extract 0 k).size = (m.extract 0 k).data.toList.length := by simp
          rw [e1, ext_list]
          have e2 : m.data.toList.length = m.size := by simp
          have := List.length_take_le' k m.data.toList
          omega
        have Hfk := hide (Hfi.out k hk1)
        go_wp2_with (first
          | (go_at_call 14; refine (pfits_is (m.extract 0 k) true _ (R1.out.next B) Hfk.out).mono ?_; rintro e w1 ⟨rfl, bb⟩; replace B := B.trans (bb.mono B.size); clear bb))
        go_roundw
        case rel => exact ⟨k + 1, by omega, by omega, by go_num, B⟩
        case measure => simp [intOf]; omega
      · go_wp2_with (first
          | (go_at_call 10; refine (ptake_is (m ++ o) c _ _ (R1.out.next (B.alloc B.size _)) hmo Htc.out Htn.out).mono ?_; rintro e w1 ⟨rfl, bb⟩; replace B := bel_alloc B bb; clear bb)
          | (go_at_call_of 14 (Value.string (m ++ o)); refine (pfits_is (m ++ o) false _ (R1.out.next (B.alloc B.size _)) Hov.out).mono ?_; rintro e w1 ⟨rfl, bb⟩; replace B := bel_alloc B bb; clear bb)
          | (go_at_call 14; refine (pfits_is ⟨#[]⟩ false _ (R1.out.next B) rfl).mono ?_; rintro e w1 ⟨rfl, bb⟩; replace B := B.trans (bb.mono B.size); clear bb))
        go_ret
        first | exact ⟨rfl, B⟩ | exact ⟨ret_bool (by simp; omega), B⟩
end Go.Proofs.YtlhpmijhngojnaaDoor
