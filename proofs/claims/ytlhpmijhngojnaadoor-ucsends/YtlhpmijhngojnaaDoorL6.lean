/-
  THE WALK of UcsEnds.
-/
import Derived.Test.YtlhpmijhngojnaaDoorW13
namespace Go.Proofs.YtlhpmijhngojnaaDoor
open Go.RowKit

set_option maxRecDepth 20000 in
set_option maxHeartbeats 2000000 in
theorem ends_walk (c : Int) (w : World) (R : Ran w) (h0 : -9223372036854775808 ≤ c) (h1 : c ≤ 9223372036854775807) :
    Calls Tryd.prog 8 #[.int .i64 c] w fun e w' => e = .returned (.bool true) ∧ Below w.heap.size w w' := by
  have B := Below.refl w.heap.size w
  have R1 := hide R
  clear R
  have hb := mayU_iff c
  have hb2 := mayU_iff (c + 1)
  obtain ⟨x, hx⟩ : ∃ x, mayU c = x := ⟨_, rfl⟩
  obtain ⟨y, hy⟩ : ∃ x, mayU (c + 1) = x := ⟨_, rfl⟩
  rw [hx] at hb
  rw [hy] at hb2
  have Hx := hide hx
  have Hy := hide hy
  clear hx hy
  cases x with
  | false =>
    rw [show (false = true) = False by simp, false_iff] at hb
    have f1 : (c == 55295) = false := beq_eq_false_iff_ne.2 (by omega)
    have f2 : (c == 64975) = false := beq_eq_false_iff_ne.2 (by omega)
    have f3 : (c == 65519) = false := beq_eq_false_iff_ne.2 (by omega)
    by_cases g1 : 65536 ≤ c
    · by_cases g2 : c ≤ 1114109
      · have f4 : (c % 65536 == 65533) = false := beq_eq_false_iff_ne.2 (by omega)
        clear hb hb2
        go_enter Tryd.func8, Tryd.ntmps8
        go_wp2_with (first
          | (go_at_call 9; refine (awake_any _ (R1.out.next B)).mono ?_; rintro e w1 ⟨rfl, bb⟩; replace B := B.trans (bb.mono B.size); clear bb)
          | (go_at_call 12; refine (pmay_is c false _ (R1.out.next B) Hx.out).mono ?_; rintro e w1 ⟨rfl, bb⟩; replace B := B.trans (bb.mono B.size); clear bb))
        go_ret
        first | exact ⟨rfl, B⟩ | exact ⟨ret_bool (by simp; omega), B⟩
      · clear hb hb2
        go_enter Tryd.func8, Tryd.ntmps8
        go_wp2_with (first
          | (go_at_call 9; refine (awake_any _ (R1.out.next B)).mono ?_; rintro e w1 ⟨rfl, bb⟩; replace B := B.trans (bb.mono B.size); clear bb)
          | (go_at_call 12; refine (pmay_is c false _ (R1.out.next B) Hx.out).mono ?_; rintro e w1 ⟨rfl, bb⟩; replace B := B.trans (bb.mono B.size); clear bb))
        go_ret
        first | exact ⟨rfl, B⟩ | exact ⟨ret_bool (by simp; omega), B⟩
    · clear hb hb2
      go_enter Tryd.func8, Tryd.ntmps8
      go_wp2_with (first
        | (go_at_call 9; refine (awake_any _ (R1.out.next B)).mono ?_; rintro e w1 ⟨rfl, bb⟩; replace B := B.trans (bb.mono B.size); clear bb)
        | (go_at_call 12; refine (pmay_is c false _ (R1.out.next B) Hx.out).mono ?_; rintro e w1 ⟨rfl, bb⟩; replace B := B.trans (bb.mono B.size); clear bb))
      go_ret
      first | exact ⟨rfl, B⟩ | exact ⟨ret_bool (by simp; omega), B⟩
  | true =>
    rw [show (true = true) = True by simp, true_iff] at hb
    have hlo : 160 ≤ c := by omega
    have hhi : c ≤ 1114109 := by omega
    cases y with
    | true =>
      rw [show (true = true) = True by simp, true_iff] at hb2
      have f1 : (c == 55295) = false := beq_eq_false_iff_ne.2 (by omega)
      have f2 : (c == 64975) = false := beq_eq_false_iff_ne.2 (by omega)
      have f3 : (c == 65519) = false := beq_eq_false_iff_ne.2 (by omega)
      by_cases g1 : 65536 ≤ c
      · have f4 : (c % 65536 == 65533) = false := beq_eq_false_iff_ne.2 (by omega)
        clear hb hb2
        go_enter Tryd.func8, Tryd.ntmps8
        go_wp2_with (first
          | (go_at_call 9; refine (awake_any _ (R1.out.next B)).mono ?_; rintro e w1 ⟨rfl, bb⟩; replace B := B.trans (bb.mono B.size); clear bb)
          | (go_at_call_of 12 (Value.int IntKind.i64 c); refine (pmay_is c true _ (R1.out.next B) Hx.out).mono ?_; rintro e w1 ⟨rfl, bb⟩; replace B := B.trans (bb.mono B.size); clear bb)
          | (go_at_call 12; refine (pmay_is (c + 1) true _ (R1.out.next B) Hy.out).mono ?_; rintro e w1 ⟨rfl, bb⟩; replace B := B.trans (bb.mono B.size); clear bb))
        go_ret
        first | exact ⟨rfl, B⟩ | exact ⟨ret_bool (by simp; omega), B⟩
      · clear hb hb2
        go_enter Tryd.func8, Tryd.ntmps8
        go_wp2_with (first
          | (go_at_call 9; refine (awake_any _ (R1.out.next B)).mono ?_; rintro e w1 ⟨rfl, bb⟩; replace B := B.trans (bb.mono B.size); clear bb)
          | (go_at_call_of 12 (Value.int IntKind.i64 c); refine (pmay_is c true _ (R1.out.next B) Hx.out).mono ?_; rintro e w1 ⟨rfl, bb⟩; replace B := B.trans (bb.mono B.size); clear bb)
          | (go_at_call 12; refine (pmay_is (c + 1) true _ (R1.out.next B) Hy.out).mono ?_; rintro e w1 ⟨rfl, bb⟩; replace B := B.trans (bb.mono B.size); clear bb))
        go_ret
        first | exact ⟨rfl, B⟩ | exact ⟨ret_bool (by simp; omega), B⟩
    | false =>
      rw [show (false = true) = False by simp, false_iff] at hb2
      by_cases e1 : c = 55295
      · subst e1
        clear hb hb2
        go_enter Tryd.func8, Tryd.ntmps8
        go_wp2_with (first
          | (go_at_call 9; refine (awake_any _ (R1.out.next B)).mono ?_; rintro e w1 ⟨rfl, bb⟩; replace B := B.trans (bb.mono B.size); clear bb)
          | (go_at_call_of 12 (Value.int IntKind.i64 55295); refine (pmay_is 55295 true _ (R1.out.next B) Hx.out).mono ?_; rintro e w1 ⟨rfl, bb⟩; replace B := B.trans (bb.mono B.size); clear bb)
          | (go_at_call 12; refine (pmay_is 55296 false _ (R1.out.next B) Hy.out).mono ?_; rintro e w1 ⟨rfl, bb⟩; replace B := B.trans (bb.mono B.size); clear bb))
        go_ret
        first | exact ⟨rfl, B⟩ | exact ⟨ret_bool (by simp; omega), B⟩
      by_cases e2 : c = 64975
      · subst e2
        clear hb hb2
        go_enter Tryd.func8, Tryd.ntmps8
        go_wp2_with (first
          | (go_at_call 9; refine (awake_any _ (R1.out.next B)).mono ?_; rintro e w1 ⟨rfl, bb⟩; replace B := B.trans (bb.mono B.size); clear bb)
          | (go_at_call_of 12 (Value.int IntKind.i64 64975); refine (pmay_is 64975 true _ (R1.out.next B) Hx.out).mono ?_; rintro e w1 ⟨rfl, bb⟩; replace B := B.trans (bb.mono B.size); clear bb)
          | (go_at_call 12; refine (pmay_is 64976 false _ (R1.out.next B) Hy.out).mono ?_; rintro e w1 ⟨rfl, bb⟩; replace B := B.trans (bb.mono B.size); clear bb))
        go_ret
        first | exact ⟨rfl, B⟩ | exact ⟨ret_bool (by simp; omega), B⟩
      by_cases e3 : c = 65519
      · subst e3
        clear hb hb2
        go_enter Tryd.func8, Tryd.ntmps8
        go_wp2_with (first
          | (go_at_call 9; refine (awake_any _ (R1.out.next B)).mono ?_; rintro e w1 ⟨rfl, bb⟩; replace B := B.trans (bb.mono B.size); clear bb)
          | (go_at_call_of 12 (Value.int IntKind.i64 65519); refine (pmay_is 65519 true _ (R1.out.next B) Hx.out).mono ?_; rintro e w1 ⟨rfl, bb⟩; replace B := B.trans (bb.mono B.size); clear bb)
          | (go_at_call 12; refine (pmay_is 65520 false _ (R1.out.next B) Hy.out).mono ?_; rintro e w1 ⟨rfl, bb⟩; replace B := B.trans (bb.mono B.size); clear bb))
        go_ret
        first | exact ⟨rfl, B⟩ | exact ⟨ret_bool (by simp; omega), B⟩
      have g1 : 65536 ≤ c := by omega
      have f1 : (c == 55295) = false := beq_eq_false_iff_ne.2 e1
      have f2 : (c == 64975) = false := beq_eq_false_iff_ne.2 e2
      have f3 : (c == 65519) = false := beq_eq_false_iff_ne.2 e3
      have f4 : (c % 65536 == 65533) = true := beq_iff_eq.2 (by omega)
      clear hb hb2 e1 e2 e3
      go_enter Tryd.func8, Tryd.ntmps8
      go_wp2_with (first
        | (go_at_call 9; refine (awake_any _ (R1.out.next B)).mono ?_; rintro e w1 ⟨rfl, bb⟩; replace B := B.trans (bb.mono B.size); clear bb)
        | (go_at_call_of 12 (Value.int IntKind.i64 c); refine (pmay_is c true _ (R1.out.next B) Hx.out).mono ?_; rintro e w1 ⟨rfl, bb⟩; replace B := B.trans (bb.mono B.size); clear bb)
        | (go_at_call 12; refine (pmay_is (c + 1) false _ (R1.out.next B) Hy.out).mono ?_; rintro e w1 ⟨rfl, bb⟩; replace B := B.trans (bb.mono B.size); clear bb))
      go_ret
      first | exact ⟨rfl, B⟩ | exact ⟨ret_bool (by simp; omega), B⟩
end Go.Proofs.YtlhpmijhngojnaaDoor
