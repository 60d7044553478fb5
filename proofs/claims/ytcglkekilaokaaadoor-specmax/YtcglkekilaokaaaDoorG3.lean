/-
  WALKS: the program's May and Put (layer 6).
-/
import Derived.Test.YtcglkekilaokaaaDoorR0
import Derived.Test.YtcglkekilaokaaaDoorV6
import Derived.Test.YtcglkekilaokaaaDoorB
namespace Go.Proofs.YtcglkekilaokaaaDoor
open Go.RowKit

theorem may_low {nm : ByteArray} {m : Int} {st : Bool} (h : m < 0 ∨ 9999 < m) : mayX (spA nm m st) = false := by
  cases e : mayX (spA nm m st) with
  | false => rfl
  | true =>
    obtain ⟨_, h2, h3, _⟩ := (may_iff _).1 e
    have a : (spA nm m st).max = m := rfl
    omega
theorem may_both {nm : ByteArray} {m : Int} (h : m ≠ 0) : mayX (spA nm m true) = false := by
  cases e : mayX (spA nm m true) with
  | false => rfl
  | true =>
    obtain ⟨_, _, _, h4⟩ := (may_iff _).1 e
    exact absurd (h4 rfl) h
theorem may_name {nm : ByteArray} {m : Int} {st : Bool} (h0 : ¬ m < 0) (h1 : ¬ 9999 < m) (h : st = true → m = 0) : mayX (spA nm m st) = nameB nm.data.toList := by
  unfold mayX spA
  have e1 : decide (0 ≤ m ∧ m ≤ 9999) = true := decide_eq_true ⟨by omega, by omega⟩
  have e2 : (!st || decide (m = 0)) = true := by
    cases st with
    | false => rfl
    | true => simp [h rfl]
  simp only [e1, e2, Bool.and_true]
set_option maxHeartbeats 400000 in
theorem pxmay_is (nm : ByteArray) (m : Int) (st b : Bool) (w : World) (hs : nm.size ≤ 1000000) (h : mayX (spA nm m st) = b) :
    Calls Tryd.prog 12 #[.agg #[.string nm, .int .i64 m, .bool st]] w fun e w' => e = .returned (.bool b) ∧ Below w.heap.size w w' := by
  have hs' : nm.size ≤ 2000000 := by omega
  have B0 : ∀ o, Below w.heap.size w (w.alloc o) := fun o => (Below.refl _ w).alloc (Nat.le_refl _) _
  by_cases h1 : m < 0
  · rw [may_low (.inl h1)] at h
    subst h
    go_enter Tryd.func12, Tryd.ntmps12
    go_wp2
    all_goals go_ret
    all_goals exact ⟨rfl, B0 _⟩
  by_cases h2 : 9999 < m
  · rw [may_low (.inr h2)] at h
    subst h
    go_enter Tryd.func12, Tryd.ntmps12
    go_wp2
    all_goals go_ret
    all_goals exact ⟨rfl, B0 _⟩
  by_cases h3 : st = true ∧ m ≠ 0
  · obtain ⟨rfl, h3⟩ := h3
    rw [may_both h3] at h
    subst h
    go_enter Tryd.func12, Tryd.ntmps12
    go_wp2
    all_goals go_ret
    all_goals exact ⟨rfl, B0 _⟩
  have h4 : st = true → m = 0 := fun e => Classical.byContradiction fun x => h3 ⟨e, x⟩
  rw [may_name h1 h2 h4] at h
  have H := hide h
  clear h h3
  cases st
  · clear h4
    go_enter Tryd.func12, Tryd.ntmps12
    go_wp2_with (go_at_call 21; refine (pmay_is nm b _ hs' H.out).mono ?_; rintro e w1 ⟨rfl, bb⟩)
    all_goals go_ret
    all_goals exact ⟨rfl, (B0 _).trans (bb.mono (by simp))⟩
  · have e := h4 rfl
    subst e
    clear h4
    go_enter Tryd.func12, Tryd.ntmps12
    go_wp2_with (go_at_call 21; refine (pmay_is nm b _ hs' H.out).mono ?_; rintro e w1 ⟨rfl, bb⟩)
    all_goals go_ret
    all_goals exact ⟨rfl, (B0 _).trans (bb.mono (by simp))⟩

/-- a variable in memory, and a builder -/
structure Wr (w W : World) (B b : Nat) (x y z : Value) (l : List UInt8) : Prop where
  below : Below w.heap.size w W
  x : Bx W w.heap.size #[x, y, z] 23
  bd : Bd B b l W
  hB : B ≤ W.heap.size
  hb : w.heap.size ≠ b
  hw : w.heap.size ≤ B
section
variable {w W W' : World} {B b : Nat} {x y z : Value} {l m : List UInt8}
theorem Wr.aft (h : Wr w W B b x y z l) (A : Aft B b m W W') : Wr w W' B b x y z m := ⟨h.below.trans (A.bel.mono h.hw), A.block h.x h.hb (by decide), A.bd, Nat.le_trans h.hB A.bel.size, h.hb, h.hw⟩
theorem Wr.next (h : Wr w W B b x y z l) (bb : Below W.heap.size W W') : Wr w W' B b x y z l := ⟨h.below.trans (bb.mono (Nat.le_trans h.hw h.hB)), h.x.next bb, h.bd.later bb, Nat.le_trans h.hB bb.size, h.hb, h.hw⟩
theorem Wr.made (B0 : Below w.heap.size w W) (X : Bx W w.heap.size #[x, y, z] 23) : Wr w (W.alloc (.cells #[.pointer none, .slice none 0 0] 46)) W.heap.size W.heap.size x y z [] :=
  ⟨B0.alloc B0.size _, X.later _, Bd.made W, by simp, Nat.ne_of_lt X.lt, B0.size⟩
end
theorem list_len (s : ByteArray) : s.data.toList.length = s.size := by simp

set_option maxHeartbeats 1000000 in
theorem pxput_is (nm : ByteArray) (m : Int) (st : Bool) (p : ByteArray) (w : World) (hs : nm.size ≤ 1000000) (h : p.data.toList = putL (spA nm m st)) (RN : Ran w) :
    Calls Tryd.prog 14 #[.agg #[.string nm, .int .i64 m, .bool st]] w fun e w' => e = .returned (.string p) ∧ Below w.heap.size w w' := by
  have hl := list_len nm
  have X0 := Bx.made w #[.string nm, .int .i64 m, .bool st] 23
  have B0 : ∀ o, Below w.heap.size w (w.alloc o) := fun o => (Below.refl _ w).alloc (Nat.le_refl _) _
  cases hm : mayX (spA nm m st) with
  | false =>
    rw [put_none hm] at h
    have hp : p = ⟨#[]⟩ := arr_ext h
    subst hp
    have H := hide hm
    clear h hm
    go_enter Tryd.func14, Tryd.ntmps14
    go_wp2_with (go_at_call 12; refine (pxmay_is nm m st false _ hs H.out).mono ?_; rintro e w1 ⟨rfl, bb⟩; have B := (B0 _).trans (bb.mono (by simp)); clear bb)
    all_goals go_ret
    all_goals exact ⟨rfl, B⟩
  | true =>
    obtain ⟨hn, h1, h2, h3⟩ := (may_iff _).1 hm
    have e1 : (spA nm m st).max = m := rfl
    have e2 : (spA nm m st).star = st := rfl
    have e3 : (spA nm m st).name = nm.data.toList := rfl
    rw [e1] at h1 h2 h3
    rw [e2] at h3
    have H := hide hm
    have T0 : Hid True := trivial
    cases st with
    | true =>
      have e := h3 rfl
      subst e
      rw [put_star hm rfl, e3] at h
      have Hp := hide h
      clear h hm hn h1 h2 h3 e1 e2 e3
      go_enter Tryd.func14, Tryd.ntmps14
      go_wp2_with (first
        | (go_at_call 12; refine (pxmay_is nm 0 true true _ hs H.out).mono ?_; rintro e w1 ⟨rfl, bb⟩; have B := (B0 _).trans (bb.mono (by simp)); have P := Wr.made B (X0.next bb); clear bb; obtain ⟨x0, x1, x2⟩ := cells3 P.x)
        | (go_at_call 22; refine (wtext _ _ [] nm.data.toList nm _ P.bd rfl (by omega) (by simp) P.hB).mono ?_; rintro e w2 ⟨rfl, A⟩; replace P := P.aft A; clear A x0 x1 x2; obtain ⟨x0, x1, x2⟩ := cells3 P.x)
        | (go_at_call 23; refine (wbyte _ _ _ 42 _ _ P.bd rfl (by decide) (by simp; omega) P.hB).mono ?_; rintro e w3 ⟨rfl, A⟩; replace P := P.aft A; clear A x0 x1 x2; obtain ⟨x0, x1, x2⟩ := cells3 P.x)
        | (go_at_call 25; refine (wdone _ _ _ p _ P.bd (by rw [Hp.out]; rfl) P.hB).mono ?_; rintro e w4 ⟨rfl, A⟩; replace P := P.aft A; clear A))
      all_goals go_ret
      all_goals exact ⟨rfl, P.below⟩
    | false =>
      by_cases hz : m = 0
      · subst hz
        rw [put_name hm rfl (by rw [e1]; decide), e3] at h
        have Hp := hide h
        clear h hm hn h1 h2 h3 e1 e2 e3
        go_enter Tryd.func14, Tryd.ntmps14
        go_wp2_with (first
          | (go_at_call 12; refine (pxmay_is nm 0 false true _ hs H.out).mono ?_; rintro e w1 ⟨rfl, bb⟩; have B := (B0 _).trans (bb.mono (by simp)); have P := Wr.made B (X0.next bb); clear bb; obtain ⟨x0, x1, x2⟩ := cells3 P.x)
          | (go_at_call 22; refine (wtext _ _ [] nm.data.toList nm _ P.bd rfl (by omega) (by simp) P.hB).mono ?_; rintro e w2 ⟨rfl, A⟩; replace P := P.aft A; clear A x0 x1 x2; obtain ⟨x0, x1, x2⟩ := cells3 P.x)
          | (go_at_call 25; refine (wdone _ _ _ p _ P.bd (by rw [Hp.out]; rfl) P.hB).mono ?_; rintro e w4 ⟨rfl, A⟩; replace P := P.aft A; clear A))
        all_goals go_ret
        all_goals exact ⟨rfl, P.below⟩
      · have hp : 0 < m := by omega
        rw [put_colon hm rfl (by rw [e1]; exact hp), e3, e1] at h
        obtain ⟨f, hf⟩ : ∃ f : ByteArray, f.data.toList = figL m.toNat := ⟨⟨(figL m.toNat).toArray⟩, rfl⟩
        have hfl : f.data.toList.length ≤ 4 := by rw [hf]; exact fig_len m.toNat 3 (by omega)
        rw [← hf] at h
        have Hp := hide h
        have Hf := hide hf
        clear h hm hn h3 e1 e2 e3 hf
        go_enter Tryd.func14, Tryd.ntmps14
        go_wp2_with (first
          | (go_at_call 12; refine (pxmay_is nm m false true _ hs H.out).mono ?_; rintro e w1 ⟨rfl, bb⟩; have B := (B0 _).trans (bb.mono (by simp)); have P := Wr.made B (X0.next bb); clear bb; obtain ⟨x0, x1, x2⟩ := cells3 P.x)
          | (go_at_call 22; have z := T0; refine (wtext _ _ [] nm.data.toList nm _ P.bd rfl (by omega) (by simp) P.hB).mono ?_; rintro e w2 ⟨rfl, A⟩; replace P := P.aft A; clear A T0 z x0 x1 x2; obtain ⟨x0, x1, x2⟩ := cells3 P.x)
          | (go_at_call 23; refine (wbyte _ _ _ 58 _ _ P.bd rfl (by decide) (by simp; omega) P.hB).mono ?_; rintro e w3 ⟨rfl, A⟩; replace P := P.aft A; clear A x0 x1 x2; obtain ⟨x0, x1, x2⟩ := cells3 P.x)
          | (go_at_call 24; refine (itoa_is m f _ (RN.at P.below) (by omega) (by omega) Hf.out).mono ?_; rintro e w4 ⟨rfl, bb⟩; replace P := P.next bb; clear bb x0 x1 x2; obtain ⟨x0, x1, x2⟩ := cells3 P.x)
          | (go_at_call 22; refine (wtext _ _ _ f.data.toList f _ P.bd rfl (by omega) (by simp; omega) P.hB).mono ?_; rintro e w5 ⟨rfl, A⟩; replace P := P.aft A; clear A x0 x1 x2; obtain ⟨x0, x1, x2⟩ := cells3 P.x)
          | (go_at_call 25; refine (wdone _ _ _ p _ P.bd (by rw [Hp.out]; simp) P.hB).mono ?_; rintro e w6 ⟨rfl, A⟩; replace P := P.aft A; clear A))
        all_goals go_ret
        all_goals exact ⟨rfl, P.below⟩
end Go.Proofs.YtcglkekilaokaaaDoor
