/-
  Joined by program out of the texts G3 G4 W7.
-/
import Derived.Test.YtjbnofljoijnmaaDoorY10
import Derived.Test.YtjbnofljoijnmaaDoorY11
import Derived.Test.YtjbnofljoijnmaaDoorB
import Derived.Test.YtjbnofljoijnmaaDoorW6
/-
  WALKS: the program's May and Put (layer 6).
-/
namespace Go.Proofs.YtjbnofljoijnmaaDoor
open Go.RowKit

theorem may_low {nm : ByteArray} {m : Int} {st : Bool} (h : m < 0 ∨ 9999 < m) : mayX (spA nm m st) = false := by
  cases e : mayX (spA nm m st) with
  | false => rfl
  | true =>
    obtain ⟨_, h2, h3, _⟩ := (may_iff _).1 e
    have a : (spA nm m st).max = m := rfl
    omega
theorem may_both {nm : ByteArray} {m : Int} (h : m ≠ 0) : mayX (spA nm m true) = false := by
  cases e : mayX (spA nm m true) with
  | false => rfl
  | true =>
    obtain ⟨_, _, _, h4⟩ := (may_iff _).1 e
    exact absurd (h4 rfl) h
theorem may_name {nm : ByteArray} {m : Int} {st : Bool} (h0 : ¬ m < 0) (h1 : ¬ 9999 < m) (h : st = true → m = 0) : mayX (spA nm m st) = nameB nm.data.toList := by
  unfold mayX spA
  have e1 : decide (0 ≤ m ∧ m ≤ 9999) = true := decide_eq_true ⟨by omega, by omega⟩
  have e2 : (!st || decide (m = 0)) = true := by
    cases st with
    | false => rfl
    | true => simp [h rfl]
  simp only [e1, e2, Bool.and_true]
set_option maxHeartbeats 400000 in
theorem pxmay_is (nm : ByteArray) (m : Int) (st b : Bool) (w : World) (hs : nm.size ≤ 1000000) (h : mayX (spA nm m st) = b) :
    Calls Tryd.prog 27 #[.agg #[.string nm, .int .i64 m, .bool st]] w fun e w' => e = .returned (.bool b) ∧ Below w.heap.size w w' := by
  have hs' : nm.size ≤ 2000000 := by omega
  have B0 : ∀ o, Below w.heap.size w (w.alloc o) := fun o => (Below.refl _ w).alloc (Nat.le_refl _) _
  by_cases h1 : m < 0
  · rw [may_low (.inl h1)] at h
    subst h
    go_enter Tryd.func27, Tryd.ntmps27
    go_wp2
    all_goals go_ret
    all_goals exact ⟨rfl, B0 _⟩
  by_cases h2 : 9999 < m
  · rw [may_low (.inr h2)] at h
    subst h
    go_enter Tryd.func27, Tryd.ntmps27
    go_wp2
    all_goals go_ret
    all_goals exact ⟨rfl, B0 _⟩
  by_cases h3 : st = true ∧ m ≠ 0
  · obtain ⟨rfl, h3⟩ := h3
    rw [may_both h3] at h
    subst h
    go_enter Tryd.func27, Tryd.ntmps27
    go_wp2
    all_goals go_ret
    all_goals exact ⟨rfl, B0 _⟩
  have h4 : st = true → m = 0 := fun e => Classical.byContradiction fun x => h3 ⟨e, x⟩
  rw [may_name h1 h2 h4] at h
  have H := hide h
  clear h h3
  cases st
  · clear h4
    go_enter Tryd.func27, Tryd.ntmps27
    go_wp2_with (go_at_call 40; refine (pmay_is nm b _ hs' H.out).mono ?_; rintro e w1 ⟨rfl, bb⟩)
    all_goals go_ret
    all_goals exact ⟨rfl, (B0 _).trans (bb.mono (by simp))⟩
  · have e := h4 rfl
    subst e
    clear h4
    go_enter Tryd.func27, Tryd.ntmps27
    go_wp2_with (go_at_call 40; refine (pmay_is nm b _ hs' H.out).mono ?_; rintro e w1 ⟨rfl, bb⟩)
    all_goals go_ret
    all_goals exact ⟨rfl, (B0 _).trans (bb.mono (by simp))⟩

/-- a variable in memory, and a builder -/
structure Wr (w W : World) (B b : Nat) (x y z : Value) (l : List UInt8) : Prop where
  below : Below w.heap.size w W
  x : Bx W w.heap.size #[x, y, z] 39
  bd : Bd B b l W
  hB : B ≤ W.heap.size
  hb : w.heap.size ≠ b
  hw : w.heap.size ≤ B
section
variable {w W W' : World} {B b : Nat} {x y z : Value} {l m : List UInt8}
theorem Wr.aft (h : Wr w W B b x y z l) (A : Aft B b m W W') : Wr w W' B b x y z m := ⟨h.below.trans (A.bel.mono h.hw), A.block h.x h.hb (by decide), A.bd, Nat.le_trans h.hB A.bel.size, h.hb, h.hw⟩
theorem Wr.next (h : Wr w W B b x y z l) (bb : Below W.heap.size W W') : Wr w W' B b x y z l := ⟨h.below.trans (bb.mono (Nat.le_trans h.hw h.hB)), h.x.next bb, h.bd.later bb, Nat.le_trans h.hB bb.size, h.hb, h.hw⟩
theorem Wr.made (B0 : Below w.heap.size w W) (X : Bx W w.heap.size #[x, y, z] 39) : Wr w (W.alloc (.cells #[.pointer none, .slice none 0 0] 44)) W.heap.size W.heap.size x y z [] :=
  ⟨B0.alloc B0.size _, X.later _, Bd.made W, by simp, Nat.ne_of_lt X.lt, B0.size⟩
end
theorem list_len (s : ByteArray) : s.data.toList.length = s.size := by simp

set_option maxHeartbeats 1000000 in
theorem pxput_is (nm : ByteArray) (m : Int) (st : Bool) (p : ByteArray) (w : World) (hs : nm.size ≤ 1000000) (h : p.data.toList = putL (spA nm m st)) (RN : Ran w) :
    Calls Tryd.prog 30 #[.agg #[.string nm, .int .i64 m, .bool st]] w fun e w' => e = .returned (.string p) ∧ Below w.heap.size w w' := by
  have hl := list_len nm
  have X0 := Bx.made w #[.string nm, .int .i64 m, .bool st] 39
  have B0 : ∀ o, Below w.heap.size w (w.alloc o) := fun o => (Below.refl _ w).alloc (Nat.le_refl _) _
  cases hm : mayX (spA nm m st) with
  | false =>
    rw [put_none hm] at h
    have hp : p = ⟨#[]⟩ := arr_ext h
    subst hp
    have H := hide hm
    clear h hm
    go_enter Tryd.func30, Tryd.ntmps30
    go_wp2_with (go_at_call 27; refine (pxmay_is nm m st false _ hs H.out).mono ?_; rintro e w1 ⟨rfl, bb⟩; have B := (B0 _).trans (bb.mono (by simp)); clear bb)
    all_goals go_ret
    all_goals exact ⟨rfl, B⟩
  | true =>
    obtain ⟨hn, h1, h2, h3⟩ := (may_iff _).1 hm
    have e1 : (spA nm m st).max = m := rfl
    have e2 : (spA nm m st).star = st := rfl
    have e3 : (spA nm m st).name = nm.data.toList := rfl
    rw [e1] at h1 h2 h3
    rw [e2] at h3
    have H := hide hm
    have T0 : Hid True := trivial
    cases st with
    | true =>
      have e := h3 rfl
      subst e
      rw [put_star hm rfl, e3] at h
      have Hp := hide h
      clear h hm hn h1 h2 h3 e1 e2 e3
      go_enter Tryd.func30, Tryd.ntmps30
      go_wp2_with (first
        | (go_at_call 27; refine (pxmay_is nm 0 true true _ hs H.out).mono ?_; rintro e w1 ⟨rfl, bb⟩; have B := (B0 _).trans (bb.mono (by simp)); have P := Wr.made B (X0.next bb); clear bb; obtain ⟨x0, x1, x2⟩ := cells3 P.x)
        | (go_at_call 18; refine (wtext _ _ [] nm.data.toList nm _ P.bd rfl (by omega) (by simp) P.hB).mono ?_; rintro e w2 ⟨rfl, A⟩; replace P := P.aft A; clear A x0 x1 x2; obtain ⟨x0, x1, x2⟩ := cells3 P.x)
        | (go_at_call 29; refine (wbyte _ _ _ 42 _ _ P.bd rfl (by decide) (by simp; omega) P.hB).mono ?_; rintro e w3 ⟨rfl, A⟩; replace P := P.aft A; clear A x0 x1 x2; obtain ⟨x0, x1, x2⟩ := cells3 P.x)
        | (go_at_call 20; refine (wdone _ _ _ p _ P.bd (by rw [Hp.out]; rfl) P.hB).mono ?_; rintro e w4 ⟨rfl, A⟩; replace P := P.aft A; clear A))
      all_goals go_ret
      all_goals exact ⟨rfl, P.below⟩
    | false =>
      by_cases hz : m = 0
      · subst hz
        rw [put_name hm rfl (by rw [e1]; decide), e3] at h
        have Hp := hide h
        clear h hm hn h1 h2 h3 e1 e2 e3
        go_enter Tryd.func30, Tryd.ntmps30
        go_wp2_with (first
          | (go_at_call 27; refine (pxmay_is nm 0 false true _ hs H.out).mono ?_; rintro e w1 ⟨rfl, bb⟩; have B := (B0 _).trans (bb.mono (by simp)); have P := Wr.made B (X0.next bb); clear bb; obtain ⟨x0, x1, x2⟩ := cells3 P.x)
          | (go_at_call 18; refine (wtext _ _ [] nm.data.toList nm _ P.bd rfl (by omega) (by simp) P.hB).mono ?_; rintro e w2 ⟨rfl, A⟩; replace P := P.aft A; clear A x0 x1 x2; obtain ⟨x0, x1, x2⟩ := cells3 P.x)
          | (go_at_call 20; refine (wdone _ _ _ p _ P.bd (by rw [Hp.out]; rfl) P.hB).mono ?_; rintro e w4 ⟨rfl, A⟩; replace P := P.aft A; clear A))
        all_goals go_ret
        all_goals exact ⟨rfl, P.below⟩
      · have hp : 0 < m := by omega
        rw [put_colon hm rfl (by rw [e1]; exact hp), e3, e1] at h
        obtain ⟨f, hf⟩ : ∃ f : ByteArray, f.data.toList = figL m.toNat := ⟨⟨(figL m.toNat).toArray⟩, rfl⟩
        have hfl : f.data.toList.length ≤ 4 := by rw [hf]; exact fig_len m.toNat 3 (by omega)
        rw [← hf] at h
        have Hp := hide h
        have Hf := hide hf
        clear h hm hn h3 e1 e2 e3 hf
        go_enter Tryd.func30, Tryd.ntmps30
        go_wp2_with (first
          | (go_at_call 27; refine (pxmay_is nm m false true _ hs H.out).mono ?_; rintro e w1 ⟨rfl, bb⟩; have B := (B0 _).trans (bb.mono (by simp)); have P := Wr.made B (X0.next bb); clear bb; obtain ⟨x0, x1, x2⟩ := cells3 P.x)
          | (go_at_call 18; have z := T0; refine (wtext _ _ [] nm.data.toList nm _ P.bd rfl (by omega) (by simp) P.hB).mono ?_; rintro e w2 ⟨rfl, A⟩; replace P := P.aft A; clear A T0 z x0 x1 x2; obtain ⟨x0, x1, x2⟩ := cells3 P.x)
          | (go_at_call 29; refine (wbyte _ _ _ 58 _ _ P.bd rfl (by decide) (by simp; omega) P.hB).mono ?_; rintro e w3 ⟨rfl, A⟩; replace P := P.aft A; clear A x0 x1 x2; obtain ⟨x0, x1, x2⟩ := cells3 P.x)
          | (go_at_call 42; refine (itoa_is m f _ (RN.at P.below) (by omega) (by omega) Hf.out).mono ?_; rintro e w4 ⟨rfl, bb⟩; replace P := P.next bb; clear bb x0 x1 x2; obtain ⟨x0, x1, x2⟩ := cells3 P.x)
          | (go_at_call 18; refine (wtext _ _ _ f.data.toList f _ P.bd rfl (by omega) (by simp; omega) P.hB).mono ?_; rintro e w5 ⟨rfl, A⟩; replace P := P.aft A; clear A x0 x1 x2; obtain ⟨x0, x1, x2⟩ := cells3 P.x)
          | (go_at_call 20; refine (wdone _ _ _ p _ P.bd (by rw [Hp.out]; simp) P.hB).mono ?_; rintro e w6 ⟨rfl, A⟩; replace P := P.aft A; clear A))
        all_goals go_ret
        all_goals exact ⟨rfl, P.below⟩
end Go.Proofs.YtjbnofljoijnmaaDoor

/-
  WALKS: the program's begin (layer 6).
-/
namespace Go.Proofs.YtjbnofljoijnmaaDoor
open Go.RowKit

set_option maxHeartbeats 400000 in
theorem clone_any (s : ByteArray) (w : World) (hs : s.size ≤ 2000000) :
    Calls Tryd.prog 23 #[.string s] w fun e w' => e = .returned (.string s) ∧ Below w.heap.size w w' := by
  go_enter Tryd.func23, Tryd.ntmps23
  go_wp2_with (go_at_call 34; refine (stringslite_Clone s _ (by omega)).mono ?_; rintro e w1 ⟨rfl, bb⟩)
  go_ret
  exact ⟨rfl, bb⟩
theorem figs_is (s : ByteArray) (a b : Int) (w : World) (hs : s.size ≤ 2000000) (h1 : ((figS 0 0 s.data.toList).1 : Int) = a) (h2 : ((figS 0 0 s.data.toList).2 : Int) = b) :
    Calls Tryd.prog 88 #[.string s] w fun e w' => e = .returned (.tuple #[.int .i64 a, .int .i64 b]) ∧ Below w.heap.size w w' := by
  subst h1 h2; exact figs_any s w hs

/-- three cells of the call's own block, put anew -/
theorem put3 {w W : World} {a0 b0 c0 : Value} (B : Below w.heap.size w W) (X : Bx W w.heap.size #[a0, b0, c0] 39) (a b c : Value) :
    Bx (((W.setCell ⟨w.heap.size, 0, none⟩ a).setCell ⟨w.heap.size, 1, none⟩ b).setCell ⟨w.heap.size, 2, none⟩ c) w.heap.size #[a, b, c] 39 ∧ Below w.heap.size w (((W.setCell ⟨w.heap.size, 0, none⟩ a).setCell ⟨w.heap.size, 1, none⟩ b).setCell ⟨w.heap.size, 2, none⟩ c) :=
  ⟨((X.put 0 a).put 1 b).put 2 c, ((B.setCell (p := ⟨w.heap.size, 0, none⟩) (Nat.le_refl _) _).setCell (p := ⟨w.heap.size, 1, none⟩) (Nat.le_refl _) _).setCell (p := ⟨w.heap.size, 2, none⟩) (Nat.le_refl _) _⟩
set_option maxRecDepth 20000 in
set_option maxHeartbeats 1000000 in
theorem begin_any (s : ByteArray) (w : World) (hs : s.size ≤ 1000000) :
    Calls Tryd.prog 74 #[.string s] w fun e w' => e = .returned (.tuple #[.agg #[.string (nmX s), .int .i64 (bgM s.data.toList), .bool (bgS s.data.toList)], .int .i64 (bgN s.data.toList)]) ∧ Below w.heap.size w w' := by
  have hs2 : s.size ≤ 2000000 := by omega
  have hl := list_len s
  obtain ⟨nm, hnm⟩ : ∃ x, nmX s = x := ⟨_, rfl⟩
  have hns : nm.size ≤ 2000000 := by
    rw [← hnm, size_list, nmX_list, List.length_take]; omega
  have hex : s.extract 0 (endN s.data.toList) = nm := hnm
  obtain ⟨n, hn⟩ : ∃ n : Nat, endN s.data.toList = n := ⟨_, rfl⟩
  obtain ⟨k, hk⟩ : ∃ k : Nat, badN s.data.toList = k := ⟨_, rfl⟩
  have hnl : n ≤ s.size := by
    have := end_le s.data.toList s.data.toList.length
    have e : endN s.data.toList = endK s.data.toList s.data.toList.length := rfl
    omega
  have hkl : k ≤ s.size := by have := bad_le s.data.toList; omega
  have hnk : n ≤ k := by have := end_bad s.data.toList; omega
  rw [hnm]
  rw [hn] at hex
  have HN : Hid ((endN s.data.toList : Int) = (n : Int)) := congrArg Nat.cast hn
  have HK : Hid ((badN s.data.toList : Int) = (k : Int)) := congrArg Nat.cast hk
  have X0 := Bx.made w #[.string ⟨#[]⟩, .int .i64 0, .bool false] 39
  have B0 : ∀ o, Below w.heap.size w (w.alloc o) := fun o => (Below.refl _ w).alloc (Nat.le_refl _) _
  cases hb : bareX s.data.toList with
  | true =>
    have e1 : bgS s.data.toList = false := by unfold bgS; rw [hb]; rfl
    have e2 : bgM s.data.toList = 0 := by unfold bgM; rw [hb]; rfl
    have e3 : bgN s.data.toList = k := by unfold bgN; rw [hb, if_pos rfl, hk]
    rw [e1, e2, e3]
    have hc : n = 0 ∨ n < k ∨ n = s.size := by
      have : endN s.data.toList = 0 ∨ endN s.data.toList < badN s.data.toList ∨ endN s.data.toList = s.data.toList.length := by simpa [bareX] using hb
      rw [hn, hk, hl] at this
      exact this
    clear hb e1 e2 e3 hn hk hnm
    have key : n = 0 ∨ (¬ n = 0 ∧ n < k) ∨ (¬ n = 0 ∧ ¬ n < k ∧ n = s.size) := by omega
    clear hc
    rcases key with h1 | ⟨h1, h2⟩ | ⟨h1, h2, h3⟩
    · subst h1
      have e0 : nm = ⟨#[]⟩ := by rw [← hex]; apply arr_ext; rw [head_list]; rfl
      subst e0
      go_enter Tryd.func74, Tryd.ntmps74
      go_wp2_with (first
        | (go_at_call 56; refine (pend_is s 0 _ hs2 HN.out).mono ?_; rintro e w1 ⟨rfl, bb⟩; have X := X0.next bb; have B := (B0 _).trans (bb.mono (by simp)); clear bb)
        | (go_at_call 87; refine (pbad_is s k _ hs2 HK.out).mono ?_; rintro e w2 ⟨rfl, bb⟩; replace X := X.next bb; replace B := B.trans (bb.mono B.size); clear bb)
        | (go_at_call 23; refine (clone_any ⟨#[]⟩ _ hns).mono ?_; rintro e w3 ⟨rfl, bb⟩; replace X := X.next bb; replace B := B.trans (bb.mono B.size); clear bb; have XL := fun o => cells3 (X.later o); have x0 := fun o => (XL o).1; have x1 := fun o => (XL o).2.1; have x2 := fun o => (XL o).2.2; clear XL; have z0 := fun o => (X.later o).free 0; have z1 := fun o => (X.later o).free 1; have z2 := fun o => (X.later o).free 2))
      obtain ⟨X3, B3⟩ := put3 (B.alloc B.size (.cells #[.string ⟨#[]⟩, .int .i64 0, .bool false] 39)) (X.later _) (.string ⟨#[]⟩) (.int .i64 0) (.bool false)
      exact bodyPost_ret (v := .tuple #[.agg #[.string ⟨#[]⟩, .int .i64 0, .bool false], .int .i64 k]) (ret_cell_tmp Tryd.results74 _ _ rfl X3 Tryd.underlying39 rfl (by kernel_rfl)) rfl ⟨rfl, B3⟩
    · clear hkl
      go_enter Tryd.func74, Tryd.ntmps74
      go_wp2_with (first
        | (go_at_call 56; refine (pend_is s n _ hs2 HN.out).mono ?_; rintro e w1 ⟨rfl, bb⟩; have X := X0.next bb; have B := (B0 _).trans (bb.mono (by simp)); clear bb)
        | (go_at_call 87; refine (pbad_is s k _ hs2 HK.out).mono ?_; rintro e w2 ⟨rfl, bb⟩; replace X := X.next bb; replace B := B.trans (bb.mono B.size); clear bb)
        | (go_at_call 23; refine (clone_any nm _ hns).mono ?_; rintro e w3 ⟨rfl, bb⟩; replace X := X.next bb; replace B := B.trans (bb.mono B.size); clear bb; have XL := fun o => cells3 (X.later o); have x0 := fun o => (XL o).1; have x1 := fun o => (XL o).2.1; have x2 := fun o => (XL o).2.2; clear XL; have z0 := fun o => (X.later o).free 0; have z1 := fun o => (X.later o).free 1; have z2 := fun o => (X.later o).free 2))
      obtain ⟨X3, B3⟩ := put3 (B.alloc B.size (.cells #[.string nm, .int .i64 0, .bool false] 39)) (X.later _) (.string nm) (.int .i64 0) (.bool false)
      exact bodyPost_ret (v := .tuple #[.agg #[.string nm, .int .i64 0, .bool false], .int .i64 k]) (ret_cell_tmp Tryd.results74 _ _ rfl X3 Tryd.underlying39 rfl (by kernel_rfl)) rfl ⟨rfl, B3⟩
    · subst h3
      have hks : k = s.size := by omega
      subst hks
      have e0 : s = nm := by rw [← hex]; apply arr_ext; rw [head_list, List.take_of_length_le (by omega)]
      subst e0
      go_enter Tryd.func74, Tryd.ntmps74
      go_wp2_with (first
        | (go_at_call 56; refine (pend_is s s.size _ hs2 HN.out).mono ?_; rintro e w1 ⟨rfl, bb⟩; have X := X0.next bb; have B := (B0 _).trans (bb.mono (by simp)); clear bb)
        | (go_at_call 87; refine (pbad_is s s.size _ hs2 HK.out).mono ?_; rintro e w2 ⟨rfl, bb⟩; replace X := X.next bb; replace B := B.trans (bb.mono B.size); clear bb)
        | (go_at_call 23; refine (clone_any s _ hns).mono ?_; rintro e w3 ⟨rfl, bb⟩; replace X := X.next bb; replace B := B.trans (bb.mono B.size); clear bb; have XL := fun o => cells3 (X.later o); have x0 := fun o => (XL o).1; have x1 := fun o => (XL o).2.1; have x2 := fun o => (XL o).2.2; clear XL; have z0 := fun o => (X.later o).free 0; have z1 := fun o => (X.later o).free 1; have z2 := fun o => (X.later o).free 2))
      obtain ⟨X3, B3⟩ := put3 (B.alloc B.size (.cells #[.string s, .int .i64 0, .bool false] 39)) (X.later _) (.string s) (.int .i64 0) (.bool false)
      exact bodyPost_ret (v := .tuple #[.agg #[.string s, .int .i64 0, .bool false], .int .i64 s.size]) (ret_cell_tmp Tryd.results74 _ _ rfl X3 Tryd.underlying39 rfl (by kernel_rfl)) rfl ⟨rfl, B3⟩
  | false =>
    obtain ⟨p1, p2, p3, p4⟩ := bare_parts hb
    rw [hn, hk] at p2
    rw [hn] at p4
    rw [hn, hl] at p3
    subst p2
    have hc : s.data.toList[k]? = some s[k] := List.getElem?_eq_getElem (by omega)
    have q1 : ((k : Int) == 0) = false := by simp; omega
    have q2 : ((k : Int) == (s.size : Int)) = false := by simp; omega
    have q3 : (((k : Int) == 0) || ((k : Int) == (s.size : Int))) = false := by rw [q1, q2]; rfl
    by_cases h42 : s[k] = 42
    · have f1 : ((s[k].toNat : Int) == 42) = true := by rw [h42]; rfl
      have e1 : bgS s.data.toList = true := by unfold bgS; rw [hb, hn, hc, h42]; rfl
      have e2 : bgM s.data.toList = 0 := by unfold bgM; rw [hn, hc, h42]; simp
      have e3 : (bgN s.data.toList : Int) = (k : Int) + 1 := by unfold bgN; rw [hb, hn, hc, h42]; rfl
      rw [e1, e2, e3]
      clear e1 e2 e3 hc h42 hb p1 hn hk hnm hkl hnl hnk
      go_enter Tryd.func74, Tryd.ntmps74
      go_wp2_with (first
        | (go_at_call 56; refine (pend_is s k _ hs2 HN.out).mono ?_; rintro e w1 ⟨rfl, bb⟩; have X := X0.next bb; have B := (B0 _).trans (bb.mono (by simp)); clear bb)
        | (go_at_call 87; refine (pbad_is s k _ hs2 HK.out).mono ?_; rintro e w2 ⟨rfl, bb⟩; replace X := X.next bb; replace B := B.trans (bb.mono B.size); clear bb)
        | (go_at_call 23; refine (clone_any nm _ hns).mono ?_; rintro e w3 ⟨rfl, bb⟩; replace X := X.next bb; replace B := B.trans (bb.mono B.size); clear bb; have XL := fun o => cells3 (X.later o); have x0 := fun o => (XL o).1; have x1 := fun o => (XL o).2.1; have x2 := fun o => (XL o).2.2; clear XL; have z0 := fun o => (X.later o).free 0; have z1 := fun o => (X.later o).free 1; have z2 := fun o => (X.later o).free 2))
      obtain ⟨X3, B3⟩ := put3 (B.alloc B.size (.cells #[.string nm, .int .i64 0, .bool true] 39)) (X.later _) (.string nm) (.int .i64 0) (.bool true)
      exact bodyPost_ret (v := .tuple #[.agg #[.string nm, .int .i64 0, .bool true], .int .i64 ((k : Int) + 1)]) (ret_cell_tmp Tryd.results74 _ _ rfl X3 Tryd.underlying39 rfl (by kernel_rfl)) rfl ⟨rfl, B3⟩
    have f1 : ((s[k].toNat : Int) == 42) = false := by
      have : s[k].toNat ≠ 42 := fun e => h42 (UInt8.toNat_inj.1 e)
      simp; omega
    by_cases h58 : s[k] = 58
    · have f2 : ((s[k].toNat : Int) == 58) = true := by rw [h58]; rfl
      obtain ⟨R, hR⟩ : ∃ R, s.extract (k + 1) s.size = R := ⟨_, rfl⟩
      have hRl : R.data.toList = s.data.toList.drop (k + 1) := by rw [← hR, cut_list]
      have hRs : R.size ≤ 2000000 := by rw [size_list, hRl, List.length_drop]; omega
      obtain ⟨fa, ha⟩ : ∃ x : Int, ((figS 0 0 R.data.toList).1 : Int) = x := ⟨_, rfl⟩
      obtain ⟨fb, hbb⟩ : ∃ x : Int, ((figS 0 0 R.data.toList).2 : Int) = x := ⟨_, rfl⟩
      have hle := figS_le R.data.toList 0 0 (by omega)
      have hlr := list_len R
      have g1 : 0 ≤ fb := by omega
      have g2 : fb ≤ 2000000 := by omega
      have e1 : bgS s.data.toList = false := by unfold bgS; rw [hb, hn, hc, h58]; rfl
      have e2 : (bgM s.data.toList : Int) = fa := by
        unfold bgM; rw [hn, hc, h58, if_pos ⟨hb, rfl⟩, ← hRl]; exact ha
      have e3 : (bgN s.data.toList : Int) = k + 1 + fb := by
        unfold bgN; rw [hb, hn, hc, h58, ← hRl, ← hbb]; simp
      rw [e1, e2, e3]
      have HA := hide ha
      have HB := hide hbb
      clear e1 e2 e3 hc h42 h58 hb p1 hn hk hnm hkl hnl hnk ha hbb hle hlr hRl
      go_enter Tryd.func74, Tryd.ntmps74
      go_wp2_with (first
        | (go_at_call 56; refine (pend_is s k _ hs2 HN.out).mono ?_; rintro e w1 ⟨rfl, bb⟩; have X := X0.next bb; have B := (B0 _).trans (bb.mono (by simp)); clear bb)
        | (go_at_call 87; refine (pbad_is s k _ hs2 HK.out).mono ?_; rintro e w2 ⟨rfl, bb⟩; replace X := X.next bb; replace B := B.trans (bb.mono B.size); clear bb)
        | (go_at_call 23; refine (clone_any nm _ hns).mono ?_; rintro e w3 ⟨rfl, bb⟩; replace X := X.next bb; replace B := B.trans (bb.mono B.size); clear bb; have XL := fun o => cells3 (X.later o); have x0 := fun o => (XL o).1; have x1 := fun o => (XL o).2.1; have x2 := fun o => (XL o).2.2; clear XL; have z0 := fun o => (X.later o).free 0; have z1 := fun o => (X.later o).free 1; have z2 := fun o => (X.later o).free 2)
        | (go_at_call 88; refine (figs_is R fa fb _ hRs HA.out HB.out).mono ?_; rintro e w4 ⟨rfl, bb⟩; have hw3 := B.size; have hne := Nat.ne_of_lt X.lt; have Y := (Bx.made w3 #[.string nm, .int .i64 0, .bool false] 39).next bb; replace X := (X.later _).next bb; replace B := bel_alloc B bb; clear bb x0 x1 x2 z0 z1 z2; obtain ⟨x0, x1, x2⟩ := cells3 X; obtain ⟨y0, y1, y2⟩ := cells3 Y; have z0 := X.free 0; have z1 := X.free 1; have z2 := X.free 2; have v0 := Y.free 0; have v1 := Y.free 1; have v2 := Y.free 2))
      have Y1 := Y.put 1 (.int .i64 fa)
      obtain ⟨X3, B3⟩ := put3 (B.setCell (p := ⟨w3.heap.size, 1, none⟩) hw3 (.int .i64 fa)) (X.other hne 1 (.int .i64 fa)) (.string nm) (.int .i64 fa) (.bool false)
      exact bodyPost_ret (v := .tuple #[.agg #[.string nm, .int .i64 fa, .bool false], .int .i64 (k + 1 + fb)]) (ret_cell_tmp Tryd.results74 _ _ rfl X3 Tryd.underlying39 rfl (by kernel_rfl)) rfl ⟨rfl, B3⟩
    · have f2 : ((s[k].toNat : Int) == 58) = false := by
        have : s[k].toNat ≠ 58 := fun e => h58 (UInt8.toNat_inj.1 e)
        simp; omega
      have e1 : bgS s.data.toList = false := by unfold bgS; rw [hb, hn, hc]; simpa using h42
      have e2 : bgM s.data.toList = 0 := by unfold bgM; rw [hn, hc, if_neg]; simpa using fun _ => h58
      have e3 : bgN s.data.toList = k := by unfold bgN; rw [hb, hn, hc, if_neg (by decide), if_neg (by simpa using h42), if_neg (by simpa using h58)]
      rw [e1, e2, e3]
      clear e1 e2 e3 hc h42 h58 hb p1 hn hk hnm hkl hnl hnk
      go_enter Tryd.func74, Tryd.ntmps74
      go_wp2_with (first
        | (go_at_call 56; refine (pend_is s k _ hs2 HN.out).mono ?_; rintro e w1 ⟨rfl, bb⟩; have X := X0.next bb; have B := (B0 _).trans (bb.mono (by simp)); clear bb)
        | (go_at_call 87; refine (pbad_is s k _ hs2 HK.out).mono ?_; rintro e w2 ⟨rfl, bb⟩; replace X := X.next bb; replace B := B.trans (bb.mono B.size); clear bb)
        | (go_at_call 23; refine (clone_any nm _ hns).mono ?_; rintro e w3 ⟨rfl, bb⟩; replace X := X.next bb; replace B := B.trans (bb.mono B.size); clear bb; have XL := fun o => cells3 (X.later o); have x0 := fun o => (XL o).1; have x1 := fun o => (XL o).2.1; have x2 := fun o => (XL o).2.2; clear XL; have z0 := fun o => (X.later o).free 0; have z1 := fun o => (X.later o).free 1; have z2 := fun o => (X.later o).free 2))
      obtain ⟨X3, B3⟩ := put3 (B.alloc B.size (.cells #[.string nm, .int .i64 0, .bool false] 39)) (X.later _) (.string nm) (.int .i64 0) (.bool false)
      exact bodyPost_ret (v := .tuple #[.agg #[.string nm, .int .i64 0, .bool false], .int .i64 k]) (ret_cell_tmp Tryd.results74 _ _ rfl X3 Tryd.underlying39 rfl (by kernel_rfl)) rfl ⟨rfl, B3⟩
end Go.Proofs.YtjbnofljoijnmaaDoor

/-
  WALKS: the program's Take (layer 6), in the form that the laws use.
-/
namespace Go.Proofs.YtjbnofljoijnmaaDoor
open Go.RowKit

theorem bgin_is (s nm : ByteArray) (m : Int) (st : Bool) (n : Int) (w : World) (hs : s.size ≤ 1000000) (h1 : nmX s = nm) (h2 : (bgM s.data.toList : Int) = m) (h3 : bgS s.data.toList = st) (h4 : (bgN s.data.toList : Int) = n) :
    Calls Tryd.prog 74 #[.string s] w fun e w' => e = .returned (.tuple #[.agg #[.string nm, .int .i64 m, .bool st], .int .i64 n]) ∧ Below w.heap.size w w' := by
  subst h1 h2 h3 h4; exact begin_any s w hs
theorem spB (s : ByteArray) : spA (nmX s) (bgM s.data.toList) (bgS s.data.toList) = bgX s.data.toList := by
  unfold spA bgX; rw [nmX_list]
set_option maxRecDepth 20000 in
set_option maxHeartbeats 1000000 in
theorem pxtk_is (s nm : ByteArray) (m : Int) (st : Bool) (n e : Int) (w : World) (hs : s.size ≤ 1000000) (h1 : tkN s = nm) (h2 : tkM s = m) (h3 : tkS s = st) (h4 : (badX s.data.toList : Int) = n) (h5 : tkE s = e) (RN : Ran w) :
    Calls Tryd.prog 59 #[.string s] w fun r w' => r = .returned (.tuple #[.agg #[.string nm, .int .i64 m, .bool st], .int .i64 n, .int .i64 e]) ∧ Below w.heap.size w w' := by
  have hs1 : s.size ≤ 1000000 := by omega
  rw [← bgN_is] at h4
  obtain ⟨bn, b1⟩ : ∃ x, nmX s = x := ⟨_, rfl⟩
  obtain ⟨bm, b2⟩ : ∃ x : Int, (bgM s.data.toList : Int) = x := ⟨_, rfl⟩
  obtain ⟨bs, b3⟩ : ∃ x, bgS s.data.toList = x := ⟨_, rfl⟩
  have hbn : bn.size ≤ 1000000 := by
    rw [← b1, size_list, nmX_list, List.length_take, ← size_list]; omega
  have hB := spB s
  rw [b1, b2, b3] at hB
  obtain ⟨p, hp⟩ : ∃ p : ByteArray, p.data.toList = putL (spA bn bm bs) := ⟨putA bn bm bs, rfl⟩
  have X0 := Bx.made w #[.string ⟨#[]⟩, .int .i64 0, .bool false] 39
  have B0 : ∀ o, Below w.heap.size w (w.alloc o) := fun o => (Below.refl _ w).alloc (Nat.le_refl _) _
  have H1 := hide b1
  have H2 := hide b2
  have H3 := hide b3
  have H4 := hide h4
  have HP := hide hp
  cases hi : isX s.data.toList with
  | true =>
    obtain ⟨k1, k2, k3⟩ := bg_is hi
    have e1 : bn = nm := by rw [← h1, ← b1]; unfold tkN; rw [hi, if_pos rfl]
    have e2 : bm = m := by
      rw [← h2, ← b2]; unfold tkM; rw [hi, if_pos rfl, ← k3]; rfl
    have e3 : bs = st := by
      rw [← h3, ← b3]; unfold tkS; rw [hi, if_pos rfl, ← k3]; rfl
    have e4 : 0 = e := by rw [← h5]; unfold tkE; rw [hi, if_pos rfl]
    have e5 : p = s := arr_ext (by rw [hp, hB, k2])
    subst e1 e2 e3 e4 e5
    have HM : Hid (mayX (spA bn bm bs) = true) := by rw [hB]; exact k1
    clear h1 h2 h3 h4 h5 b1 b2 b3 hp hi k1 k2 k3 hB
    go_enter Tryd.func59, Tryd.ntmps59
    go_wp2_with (first
      | (go_at_call 74; refine (bgin_is p bn bm bs n _ hs1 H1.out H2.out H3.out H4.out).mono ?_; rintro e w1 ⟨rfl, bb⟩; have X := X0.next bb; have B := (B0 _).trans (bb.mono (by simp)); clear bb)
      | (go_at_call 27; refine (pxmay_is bn bm bs true _ hbn HM.out).mono ?_; rintro e w2 ⟨rfl, bb⟩; have Y := (Bx.made w1 #[.string bn, .int .i64 bm, .bool bs] 39).next bb; replace X := (X.later _).next bb; replace B := bel_alloc B bb; clear bb; obtain ⟨y0, y1, y2⟩ := cells3 Y)
      | (go_at_call 30; refine (pxput_is bn bm bs p _ hbn HP.out (RN.at B)).mono ?_; rintro e w3 ⟨rfl, bb⟩; replace Y := Y.next bb; replace X := X.next bb; replace B := B.trans (bb.mono B.size); clear bb y0 y1 y2; obtain ⟨y0, y1, y2⟩ := cells3 Y; obtain ⟨x0, x1, x2⟩ := cells3 X; have z0 := X.free 0; have z1 := X.free 1; have z2 := X.free 2))
    obtain ⟨X3, B3⟩ := put3 B X (.string bn) (.int .i64 bm) (.bool bs)
    exact bodyPost_ret (v := .tuple #[.agg #[.string bn, .int .i64 bm, .bool bs], .int .i64 n, .int .i64 0]) (ret_cell_tmp2 Tryd.results59 _ _ rfl X3 Tryd.underlying39 rfl (by kernel_rfl)) rfl ⟨rfl, B3⟩
  | false =>
    have e1 : (⟨#[]⟩ : ByteArray) = nm := by rw [← h1]; unfold tkN; rw [hi]; rfl
    have e2 : 0 = m := by rw [← h2]; unfold tkM; rw [hi]; rfl
    have e3 : false = st := by rw [← h3]; unfold tkS; rw [hi]; rfl
    have e4 : 2 = e := by rw [← h5]; unfold tkE; rw [hi]; rfl
    subst e1 e2 e3 e4
    have hn := bg_not hi
    rw [← hB] at hn
    cases hm : mayX (spA bn bm bs) with
    | false =>
      have HM := hide hm
      clear h1 h2 h3 h4 h5 b1 b2 b3 hp hi hB hn hm
      go_enter Tryd.func59, Tryd.ntmps59
      go_wp2_with (first
        | (go_at_call 74; refine (bgin_is s bn bm bs n _ hs1 H1.out H2.out H3.out H4.out).mono ?_; rintro e w1 ⟨rfl, bb⟩; have X := X0.next bb; have B := (B0 _).trans (bb.mono (by simp)); clear bb)
        | (go_at_call 27; refine (pxmay_is bn bm bs false _ hbn HM.out).mono ?_; rintro e w2 ⟨rfl, bb⟩; have Y := (Bx.made w1 #[.string bn, .int .i64 bm, .bool bs] 39).next bb; replace X := (X.later _).next bb; replace B := bel_alloc B bb; clear bb; obtain ⟨y0, y1, y2⟩ := cells3 Y; obtain ⟨x0, x1, x2⟩ := cells3 X; have z0 := X.free 0; have z1 := X.free 1; have z2 := X.free 2))
      obtain ⟨X3, B3⟩ := put3 B X (.string ⟨#[]⟩) (.int .i64 0) (.bool false)
      exact bodyPost_ret (v := .tuple #[.agg #[.string ⟨#[]⟩, .int .i64 0, .bool false], .int .i64 n, .int .i64 2]) (ret_cell_tmp2 Tryd.results59 _ _ rfl X3 Tryd.underlying39 rfl (by kernel_rfl)) rfl ⟨rfl, B3⟩
    | true =>
      have HM := hide hm
      have hne : ¬ p.toList = s.toList := by
        intro e
        rcases hn with hn | hn
        · rw [hm] at hn; cases hn
        · apply hn
          rw [← hp]
          simpa [ByteArray.toList_eq] using e
      have hq : (p.toList == s.toList) = false := by simpa using hne
      clear h1 h2 h3 h4 h5 b1 b2 b3 hp hi hB hn hm hne
      go_enter Tryd.func59, Tryd.ntmps59
      go_wp2_with (first
        | (go_at_call 74; refine (bgin_is s bn bm bs n _ hs1 H1.out H2.out H3.out H4.out).mono ?_; rintro e w1 ⟨rfl, bb⟩; have X := X0.next bb; have B := (B0 _).trans (bb.mono (by simp)); clear bb)
        | (go_at_call 27; refine (pxmay_is bn bm bs true _ hbn HM.out).mono ?_; rintro e w2 ⟨rfl, bb⟩; have Y := (Bx.made w1 #[.string bn, .int .i64 bm, .bool bs] 39).next bb; replace X := (X.later _).next bb; replace B := bel_alloc B bb; clear bb; obtain ⟨y0, y1, y2⟩ := cells3 Y)
        | (go_at_call 30; refine (pxput_is bn bm bs p _ hbn HP.out (RN.at B)).mono ?_; rintro e w3 ⟨rfl, bb⟩; replace Y := Y.next bb; replace X := X.next bb; replace B := B.trans (bb.mono B.size); clear bb y0 y1 y2; obtain ⟨y0, y1, y2⟩ := cells3 Y; obtain ⟨x0, x1, x2⟩ := cells3 X; have z0 := X.free 0; have z1 := X.free 1; have z2 := X.free 2))
      obtain ⟨X3, B3⟩ := put3 B X (.string ⟨#[]⟩) (.int .i64 0) (.bool false)
      exact bodyPost_ret (v := .tuple #[.agg #[.string ⟨#[]⟩, .int .i64 0, .bool false], .int .i64 n, .int .i64 2]) (ret_cell_tmp2 Tryd.results59 _ _ rfl X3 Tryd.underlying39 rfl (by kernel_rfl)) rfl ⟨rfl, B3⟩
end Go.Proofs.YtjbnofljoijnmaaDoor
