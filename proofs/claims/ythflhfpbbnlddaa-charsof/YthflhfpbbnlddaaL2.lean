/-
  THE WALK of CharsOf.
-/
import Derived.Test.YthflhfpbbnlddaaW9
namespace Go.Proofs.Ythflhfpbbnlddaa
open Go.RowKit

/-- two bytes in two cells -/
def Cells2 (W : World) (b : Nat) (x y : Int) : Prop := W.cell? ⟨b, 0, none⟩ = some (.int .u8 x) ∧ W.cell? ⟨b, 1, none⟩ = some (.int .u8 y)
theorem Cells2.below {W W' : World} {b n : Nat} {x y : Int} (h : Cells2 W b x y) (hb : Below n W W') (hn : b < n) : Cells2 W' b x y :=
  ⟨(hb.cell (p := ⟨b, 0, none⟩) hn).trans h.1, (hb.cell (p := ⟨b, 1, none⟩) hn).trans h.2⟩
theorem Cells2.of {W : World} {b : Nat} {x y : Int} {t : TypeId} (h : W.heap[b]? = some (.cells #[.int .u8 x, .int .u8 y] t (0, 0))) : Cells2 W b x y := by
  unfold Cells2
  simp [World.cell?, h]
theorem Cells2.made (W : World) (x y : Int) (t : TypeId) : Cells2 (W.alloc (.cells #[.int .u8 x, .int .u8 y] t)) W.heap.size x y := by
  apply Cells2.of (t := t)
  show (W.heap.push _)[W.heap.size]? = _
  simp
theorem of_has (s : ByteArray) (c : Int) (h1 : c ≤ 255) : (ofQ s.data.toList).has c.toNat = inB s.data.toList c.toNat := has_of _ _ (by omega)
theorem up_has (lo hi c : Int) (b : Bool) (g2 : 0 ≤ hi) (g3 : hi ≤ 255) (h0 : 0 ≤ c) (h1 : c ≤ 255) (h : decide (lo ≤ c ∧ c ≤ hi) = b) : (upQ lo.toNat (hi.toNat + 1)).has c.toNat = b := by
  rw [has_up _ _ _ (by omega) (by omega), ← h, Bool.eq_iff_iff]
  simp
  omega

set_option maxHeartbeats 2000000 in
theorem of_walk (s : ByteArray) (lo hi c : Int) (w : World) (hs : s.size ≤ maxLen) (g0 : 0 ≤ lo) (g1 : lo ≤ 255) (g2 : 0 ≤ hi) (g3 : hi ≤ 255) (h0 : 0 ≤ c) (h1 : c ≤ 255) :
    Calls Try.prog 4 #[.string s, .agg #[.int .u8 lo, .int .u8 hi], .int .u8 c] w fun e w' => e = .returned (.bool true) ∧ Below w.heap.size w w' := by
  have B := below_new w (.cells #[.int .u8 lo, .int .u8 hi] 31)
  by_cases hbig : 2000 < s.size
  · go_enter Try.func4, Try.ntmps4
    go_wp2_with (first | (go_at_call 9; refine (awake_any _).mono ?_; rintro e w1 ⟨rfl, bb⟩; have X := (Cells2.made w lo hi 31).below bb (by simp); obtain ⟨x0, x1⟩ := X; replace B := B.trans (bb.mono B.size); clear bb))
    go_ret
    exact ⟨rfl, B⟩
  · have K : Hid True := trivial
    by_cases hl : lo ≤ c <;> by_cases hh : c ≤ hi
    · have Hd : Hid (decide (lo ≤ c ∧ c ≤ hi) = true) := by simp [Hid, hl, hh]
      go_enter Try.func4, Try.ntmps4
      go_wp2_with (first | (go_at_call 9; refine (awake_any _).mono ?_; rintro e w1 ⟨rfl, bb⟩; have X := (Cells2.made w lo hi 31).below bb (by simp); obtain ⟨x0, x1⟩ := X; replace B := B.trans (bb.mono B.size); clear bb) | (go_at_call 15; refine (of_any _ _ hs).mono ?_; rintro e w1 ⟨rfl, bb⟩; replace B := B.trans (bb.mono B.size); clear bb; replace K : Hid ((ofQ s.data.toList).ok ∧ (ofQ s.data.toList).has c.toNat = inB s.data.toList c.toNat) := ⟨of_ok _, of_has s c h1⟩; simp only [qv]) | (go_at_call 17; refine (range_any _ _ _ g0 g1 g2 g3).mono ?_; rintro e w1 ⟨rfl, bb⟩; replace B := B.trans (bb.mono B.size); clear bb; replace K : Hid ((upQ lo.toNat (hi.toNat + 1)).ok ∧ (upQ lo.toNat (hi.toNat + 1)).has c.toNat = _) := ⟨up_ok _ _, up_has lo hi c _ g2 g3 h0 h1 Hd.out⟩; simp only [qv]) | (go_at_call 16; refine (in_any _ _ _ hs h0).mono ?_; rintro e w1 ⟨rfl, hw⟩; rw [hw]; clear hw) | (go_at_call 11; refine (has_is _ _ _ _ K.out.1 h0 h1 K.out.2).mono ?_; rintro e w1 ⟨rfl, bb⟩; replace B := B.trans (bb.mono B.size); clear bb))
      go_ret
      exact ⟨rfl, B⟩
    · have hd : decide (c ≤ hi) = false := by simpa using hh
      have Hd : Hid (decide (lo ≤ c ∧ c ≤ hi) = false) := by simp [Hid, hl, hh]
      go_enter Try.func4, Try.ntmps4
      go_wp2_with (first | (go_at_call 9; refine (awake_any _).mono ?_; rintro e w1 ⟨rfl, bb⟩; have X := (Cells2.made w lo hi 31).below bb (by simp); obtain ⟨x0, x1⟩ := X; replace B := B.trans (bb.mono B.size); clear bb) | (go_at_call 15; refine (of_any _ _ hs).mono ?_; rintro e w1 ⟨rfl, bb⟩; replace B := B.trans (bb.mono B.size); clear bb; replace K : Hid ((ofQ s.data.toList).ok ∧ (ofQ s.data.toList).has c.toNat = inB s.data.toList c.toNat) := ⟨of_ok _, of_has s c h1⟩; simp only [qv]) | (go_at_call 17; refine (range_any _ _ _ g0 g1 g2 g3).mono ?_; rintro e w1 ⟨rfl, bb⟩; replace B := B.trans (bb.mono B.size); clear bb; replace K : Hid ((upQ lo.toNat (hi.toNat + 1)).ok ∧ (upQ lo.toNat (hi.toNat + 1)).has c.toNat = _) := ⟨up_ok _ _, up_has lo hi c _ g2 g3 h0 h1 Hd.out⟩; simp only [qv]) | (go_at_call 16; refine (in_any _ _ _ hs h0).mono ?_; rintro e w1 ⟨rfl, hw⟩; rw [hw]; clear hw) | (go_at_call 11; refine (has_is _ _ _ _ K.out.1 h0 h1 K.out.2).mono ?_; rintro e w1 ⟨rfl, bb⟩; replace B := B.trans (bb.mono B.size); clear bb))
      go_ret
      exact ⟨rfl, B⟩
    · have hd : decide (lo ≤ c) = false := by simpa using hl
      have Hd : Hid (decide (lo ≤ c ∧ c ≤ hi) = false) := by simp [Hid, hl, hh]
      go_enter Try.func4, Try.ntmps4
      go_wp2_with (first | (go_at_call 9; refine (awake_any _).mono ?_; rintro e w1 ⟨rfl, bb⟩; have X := (Cells2.made w lo hi 31).below bb (by simp); obtain ⟨x0, x1⟩ := X; replace B := B.trans (bb.mono B.size); clear bb) | (go_at_call 15; refine (of_any _ _ hs).mono ?_; rintro e w1 ⟨rfl, bb⟩; replace B := B.trans (bb.mono B.size); clear bb; replace K : Hid ((ofQ s.data.toList).ok ∧ (ofQ s.data.toList).has c.toNat = inB s.data.toList c.toNat) := ⟨of_ok _, of_has s c h1⟩; simp only [qv]) | (go_at_call 17; refine (range_any _ _ _ g0 g1 g2 g3).mono ?_; rintro e w1 ⟨rfl, bb⟩; replace B := B.trans (bb.mono B.size); clear bb; replace K : Hid ((upQ lo.toNat (hi.toNat + 1)).ok ∧ (upQ lo.toNat (hi.toNat + 1)).has c.toNat = _) := ⟨up_ok _ _, up_has lo hi c _ g2 g3 h0 h1 Hd.out⟩; simp only [qv]) | (go_at_call 16; refine (in_any _ _ _ hs h0).mono ?_; rintro e w1 ⟨rfl, hw⟩; rw [hw]; clear hw) | (go_at_call 11; refine (has_is _ _ _ _ K.out.1 h0 h1 K.out.2).mono ?_; rintro e w1 ⟨rfl, bb⟩; replace B := B.trans (bb.mono B.size); clear bb))
      go_ret
      exact ⟨rfl, B⟩
    · have hd : decide (lo ≤ c) = false := by simpa using hl
      have Hd : Hid (decide (lo ≤ c ∧ c ≤ hi) = false) := by simp [Hid, hl, hh]
      go_enter Try.func4, Try.ntmps4
      go_wp2_with (first | (go_at_call 9; refine (awake_any _).mono ?_; rintro e w1 ⟨rfl, bb⟩; have X := (Cells2.made w lo hi 31).below bb (by simp); obtain ⟨x0, x1⟩ := X; replace B := B.trans (bb.mono B.size); clear bb) | (go_at_call 15; refine (of_any _ _ hs).mono ?_; rintro e w1 ⟨rfl, bb⟩; replace B := B.trans (bb.mono B.size); clear bb; replace K : Hid ((ofQ s.data.toList).ok ∧ (ofQ s.data.toList).has c.toNat = inB s.data.toList c.toNat) := ⟨of_ok _, of_has s c h1⟩; simp only [qv]) | (go_at_call 17; refine (range_any _ _ _ g0 g1 g2 g3).mono ?_; rintro e w1 ⟨rfl, bb⟩; replace B := B.trans (bb.mono B.size); clear bb; replace K : Hid ((upQ lo.toNat (hi.toNat + 1)).ok ∧ (upQ lo.toNat (hi.toNat + 1)).has c.toNat = _) := ⟨up_ok _ _, up_has lo hi c _ g2 g3 h0 h1 Hd.out⟩; simp only [qv]) | (go_at_call 16; refine (in_any _ _ _ hs h0).mono ?_; rintro e w1 ⟨rfl, hw⟩; rw [hw]; clear hw) | (go_at_call 11; refine (has_is _ _ _ _ K.out.1 h0 h1 K.out.2).mono ?_; rintro e w1 ⟨rfl, bb⟩; replace B := B.trans (bb.mono B.size); clear bb))
      go_ret
      exact ⟨rfl, B⟩
end Go.Proofs.Ythflhfpbbnlddaa
