/-
  THE WALK of UcsPlanes.
-/
import Derived.Test.YtlhpmijhngojnaaDoorL3
namespace Go.Proofs.YtlhpmijhngojnaaDoor
open Go.RowKit
open Go.Lib (encodeRune)

theorem pmay_at (a c : Int) (b : Bool) (w : World) (R : Ran w) (e : a = c) (h : mayU c = b) : Calls Tryd.prog 12 #[.int .i64 a] w fun e w' => e = .returned (.bool b) ∧ Below w.heap.size w w' := by
  subst e; exact pmay_is a b w R h

set_option maxRecDepth 20000 in
set_option maxHeartbeats 2000000 in
theorem planes_walk (p low : Int) (w : World) (R : Ran w) (h0 : 0 ≤ p) (h1 : p ≤ 255) (g0 : 0 ≤ low) (g1 : low ≤ 65535) :
    Calls Tryd.prog 7 #[.int .u8 p, .int .u16 low] w fun e w' => e = .returned (.bool true) ∧ Below w.heap.size w w' := by
  have B := Below.refl w.heap.size w
  have R1 := hide R
  clear R
  have hb := mayU_iff (65536 * (1 + p % 16) + low)
  have H2 : Hid (mayU (low % 128) = false) := by
    show mayU (low % 128) = false
    cases h : mayU (low % 128) with
    | false => rfl
    | true => have := (mayU_may h).2; omega
  have H3 : Hid (mayU (-low) = false) := by
    show mayU (-low) = false
    cases h : mayU (-low) with
    | false => rfl
    | true => have := (mayU_may h).2; omega
  obtain ⟨x, hx⟩ : ∃ x, mayU (65536 * (1 + p % 16) + low) = x := ⟨_, rfl⟩
  rw [hx] at hb
  have H1 := hide hx
  clear hx
  by_cases e1 : low ≤ 65533
  · by_cases e2 : p % 16 = 13
    · have f2 : ((1 + p % 16 : Int) != 14) = false := by rw [e2]; rfl
      by_cases e3 : 4096 ≤ low
      · have hxt : x = true := hb.2 (by omega)
        subst hxt
        clear hb
        go_enter Tryd.func7, Tryd.ntmps7
        go_wp2_with (first
          | (go_at_call 9; refine (awake_any _ (R1.out.next B)).mono ?_; rintro e w1 ⟨rfl, bb⟩; replace B := B.trans (bb.mono B.size); clear bb)
          | (go_at_call 12; refine (pmay_at _ (low % 128) false _ (R1.out.next B) (by omega) H2.out).mono ?_; rintro e w1 ⟨rfl, bb⟩; replace B := B.trans (bb.mono B.size); clear bb)
          | (go_at_call 12; refine (pmay_at _ (-low) false _ (R1.out.next B) (by omega) H3.out).mono ?_; rintro e w1 ⟨rfl, bb⟩; replace B := B.trans (bb.mono B.size); clear bb)
          | (go_at_call 12; refine (pmay_at _ (65536 * (1 + p % 16) + low) true _ (R1.out.next B) (by omega) H1.out).mono ?_; rintro e w1 ⟨rfl, bb⟩; replace B := B.trans (bb.mono B.size); clear bb))
        go_ret
        first | exact ⟨rfl, B⟩ | exact ⟨ret_bool (by simp; omega), B⟩
      · have hxf : x = false := by
          cases x with
          | false => rfl
          | true => have := hb.1 rfl; omega
        subst hxf
        clear hb
        go_enter Tryd.func7, Tryd.ntmps7
        go_wp2_with (first
          | (go_at_call 9; refine (awake_any _ (R1.out.next B)).mono ?_; rintro e w1 ⟨rfl, bb⟩; replace B := B.trans (bb.mono B.size); clear bb)
          | (go_at_call 12; refine (pmay_at _ (low % 128) false _ (R1.out.next B) (by omega) H2.out).mono ?_; rintro e w1 ⟨rfl, bb⟩; replace B := B.trans (bb.mono B.size); clear bb)
          | (go_at_call 12; refine (pmay_at _ (-low) false _ (R1.out.next B) (by omega) H3.out).mono ?_; rintro e w1 ⟨rfl, bb⟩; replace B := B.trans (bb.mono B.size); clear bb)
          | (go_at_call 12; refine (pmay_at _ (65536 * (1 + p % 16) + low) false _ (R1.out.next B) (by omega) H1.out).mono ?_; rintro e w1 ⟨rfl, bb⟩; replace B := B.trans (bb.mono B.size); clear bb))
        go_ret
        first | exact ⟨rfl, B⟩ | exact ⟨ret_bool (by simp; omega), B⟩
    · have f2 : ((1 + p % 16 : Int) != 14) = true := by rw [bne_iff_ne]; omega
      have hxt : x = true := hb.2 (by omega)
      subst hxt
      clear hb
      go_enter Tryd.func7, Tryd.ntmps7
      go_wp2_with (first
        | (go_at_call 9; refine (awake_any _ (R1.out.next B)).mono ?_; rintro e w1 ⟨rfl, bb⟩; replace B := B.trans (bb.mono B.size); clear bb)
        | (go_at_call 12; refine (pmay_at _ (low % 128) false _ (R1.out.next B) (by omega) H2.out).mono ?_; rintro e w1 ⟨rfl, bb⟩; replace B := B.trans (bb.mono B.size); clear bb)
        | (go_at_call 12; refine (pmay_at _ (-low) false _ (R1.out.next B) (by omega) H3.out).mono ?_; rintro e w1 ⟨rfl, bb⟩; replace B := B.trans (bb.mono B.size); clear bb)
        | (go_at_call 12; refine (pmay_at _ (65536 * (1 + p % 16) + low) true _ (R1.out.next B) (by omega) H1.out).mono ?_; rintro e w1 ⟨rfl, bb⟩; replace B := B.trans (bb.mono B.size); clear bb))
      go_ret
      first | exact ⟨rfl, B⟩ | exact ⟨ret_bool (by simp; omega), B⟩
  · have hxf : x = false := by
      cases x with
      | false => rfl
      | true => have := hb.1 rfl; omega
    subst hxf
    clear hb
    go_enter Tryd.func7, Tryd.ntmps7
    go_wp2_with (first
      | (go_at_call 9; refine (awake_any _ (R1.out.next B)).mono ?_; rintro e w1 ⟨rfl, bb⟩; replace B := B.trans (bb.mono B.size); clear bb)
      | (go_at_call 12; refine (pmay_at _ (low % 128) false _ (R1.out.next B) (by omega) H2.out).mono ?_; rintro e w1 ⟨rfl, bb⟩; replace B := B.trans (bb.mono B.size); clear bb)
      | (go_at_call 12; refine (pmay_at _ (-low) false _ (R1.out.next B) (by omega) H3.out).mono ?_; rintro e w1 ⟨rfl, bb⟩; replace B := B.trans (bb.mono B.size); clear bb)
      | (go_at_call 12; refine (pmay_at _ (65536 * (1 + p % 16) + low) false _ (R1.out.next B) (by omega) H1.out).mono ?_; rintro e w1 ⟨rfl, bb⟩; replace B := B.trans (bb.mono B.size); clear bb))
    go_ret
    first | exact ⟨rfl, B⟩ | exact ⟨ret_bool (by simp; omega), B⟩
end Go.Proofs.YtlhpmijhngojnaaDoor
