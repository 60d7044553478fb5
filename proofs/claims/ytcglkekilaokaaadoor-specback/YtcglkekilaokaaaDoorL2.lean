/-
  THE WALK of SpecBack.
-/
import Derived.Test.YtcglkekilaokaaaDoorL0
namespace Go.Proofs.YtcglkekilaokaaaDoor
open Go.RowKit

set_option maxRecDepth 20000 in
set_option maxHeartbeats 4000000 in
theorem back_walk (nm : ByteArray) (m : Int) (st : Bool) (s : ByteArray) (w : World) (RN : Ran w) :
    Calls Tryd.prog 4 #[.agg #[.string nm, .int .i64 m, .bool st], .string s] w fun e w' => e = .returned (.bool true) ∧ Below w.heap.size w w' := by
  have hg := guard23
  have he := eq23_same
  by_cases hb1 : 200 < nm.size
  · go_enter Tryd.func4, Tryd.ntmps4
    go_wp2_with (first
      | (go_at_call 9; refine (awake_any _ (by first | with_reducible exact RN.at B | with_reducible exact RN.at (B.alloc B.size _) | with_reducible exact RN.at T.below | with_reducible exact RN.at T.drew.below | with_reducible exact RN.alloc _ | with_reducible exact RN)).mono ?_; rintro e w1 ⟨rfl, bb⟩; have X := (Bx.made w #[.string nm, .int .i64 m, .bool st] 23).next bb; have B := ((Below.refl _ w).alloc (Nat.le_refl _) _).trans (bb.mono (by simp)); clear bb; obtain ⟨x0, x1, x2⟩ := cells3 X))
    go_ret
    exact ⟨rfl, B⟩
  by_cases hb2 : 200 < s.size
  · go_enter Tryd.func4, Tryd.ntmps4
    go_wp2_with (first
      | (go_at_call 9; refine (awake_any _ (by first | with_reducible exact RN.at B | with_reducible exact RN.at (B.alloc B.size _) | with_reducible exact RN.at T.below | with_reducible exact RN.at T.drew.below | with_reducible exact RN.alloc _ | with_reducible exact RN)).mono ?_; rintro e w1 ⟨rfl, bb⟩; have X := (Bx.made w #[.string nm, .int .i64 m, .bool st] 23).next bb; have B := ((Below.refl _ w).alloc (Nat.le_refl _) _).trans (bb.mono (by simp)); clear bb; obtain ⟨x0, x1, x2⟩ := cells3 X))
    go_ret
    exact ⟨rfl, B⟩
  have z1 : nm.size ≤ 1000000 := by omega
  have z2 : s.size ≤ 80000 := by omega
  obtain ⟨p, h7⟩ : ∃ p : ByteArray, p.data.toList = putL (spA nm m st) := ⟨putA nm m st, rfl⟩
  have z3 : p.size ≤ 80000 := by
    have := put_len (spA nm m st)
    have e : (spA nm m st).name.length = nm.size := by show nm.data.toList.length = _; simp
    rw [size_list, h7]; omega
  have H7 := hide h7
  cases h6 : mayX (spA nm m st) with
  | true =>
    obtain ⟨p1, p2, p3, p4, p5⟩ := tk_put h6 h7
    have P1 := hide p1
    have P2 := hide p2
    have P3 := hide p3
    have P4 := hide p4
    have P5 := hide p5
    have H6 := hide h6
    clear p1 p2 p3 p4 p5 h6 h7
    cases hi : isX s.data.toList with
    | true =>
      obtain ⟨t1, t2, t3, t4, t5⟩ := tk_is hi
      obtain ⟨tn, h1⟩ : ∃ x, tkN s = x := ⟨_, rfl⟩
      obtain ⟨tm, h2⟩ : ∃ x, tkM s = x := ⟨_, rfl⟩
      obtain ⟨ts, h3⟩ : ∃ x, tkS s = x := ⟨_, rfl⟩
      rw [h1, h2, h3] at t1 t2
      rw [h1] at t5
      have z4 : tn.size ≤ 1000000 := by omega
      have H1 := hide h1
      have H2 := hide h2
      have H3 := hide h3
      have H4 := hide t3
      have H5 := hide t4
      have G1 := hide t1
      have G2 := hide t2.symm
      clear h1 h2 h3 t1 t2 t3 t4 hi
      have T0 : Hid True := trivial
      have T1 : Hid True := trivial
      have T2 : Hid True := trivial
      have T3 : Hid True := trivial
      have T4 : Hid True := trivial
      go_enter Tryd.func4, Tryd.ntmps4
      go_wp2_with (first
        | (go_at_call 9; refine (awake_any _ (by first | with_reducible exact RN.at B | with_reducible exact RN.at (B.alloc B.size _) | with_reducible exact RN.at T.below | with_reducible exact RN.at T.drew.below | with_reducible exact RN.alloc _ | with_reducible exact RN)).mono ?_; rintro e w1 ⟨rfl, bb⟩; have X := (Bx.made w #[.string nm, .int .i64 m, .bool st] 23).next bb; have B := ((Below.refl _ w).alloc (Nat.le_refl _) _).trans (bb.mono (by simp)); clear bb; obtain ⟨x0, x1, x2⟩ := cells3 X)
        | (go_at_call 14; have z := T0; refine (pxput_is nm m st p _ z1 H7.out (by first | with_reducible exact RN.at B | with_reducible exact RN.at (B.alloc B.size _) | with_reducible exact RN.at T.below | with_reducible exact RN.at T.drew.below | with_reducible exact RN.alloc _ | with_reducible exact RN)).mono ?_; rintro e w2 ⟨rfl, bb⟩; replace X := X.next bb; replace B := B.trans (bb.mono B.size); clear bb x0 x1 x2; obtain ⟨x0, x1, x2⟩ := cells3 X; clear T0 z)
        | (go_at_call 12; have z := T1; refine (pxmay_is nm m st true _ z1 H6.out).mono ?_; rintro e w3 ⟨rfl, bb⟩; replace X := X.next bb; replace B := B.trans (bb.mono B.size); clear bb x0 x1 x2; obtain ⟨x0, x1, x2⟩ := cells3 X; clear T1 z)
        | (go_at_call 10; have z := T2; refine (pxtk_is p nm m st p.size 0 _ z3 P1.out P2.out P3.out P4.out P5.out (by first | with_reducible exact RN.at B | with_reducible exact RN.at (B.alloc B.size _) | with_reducible exact RN.at T.below | with_reducible exact RN.at T.drew.below | with_reducible exact RN.alloc _ | with_reducible exact RN)).mono ?_; rintro e w4 ⟨rfl, bb⟩; replace X := X.next bb; replace B := B.trans (bb.mono B.size); clear bb T2 z x0 x1 x2; have XL := fun o => cells3 (X.later o); have x0 := fun o => (XL o).1; have x1 := fun o => (XL o).2.1; have x2 := fun o => (XL o).2.2; clear XL)
        | (go_at_call 10; have z := T3; refine (pxtk_is s tn tm ts s.size 0 _ z2 H1.out H2.out H3.out H4.out H5.out (by first | with_reducible exact RN.at B | with_reducible exact RN.at (B.alloc B.size _) | with_reducible exact RN.at T.below | with_reducible exact RN.at T.drew.below | with_reducible exact RN.alloc _ | with_reducible exact RN)).mono ?_; rintro e w5 ⟨rfl, bb⟩; replace X := (X.later _).next bb; replace B := bel_alloc B bb; clear bb T3 z x0 x1 x2; have XL := fun o => cells3 (X.later o); have x0 := fun o => (XL o).1; have x1 := fun o => (XL o).2.1; have x2 := fun o => (XL o).2.2; clear XL)
        | (go_at_call 12; have z := T4; refine (pxmay_is tn tm ts true _ z4 G1.out).mono ?_; rintro e w6 ⟨rfl, bb⟩; replace X := (X.later _).next bb; have Y := (Bx.made w5 #[.string tn, .int .i64 tm, .bool ts] 23).next bb; replace B := bel_alloc B bb; clear bb T4 z x0 x1 x2; obtain ⟨x0, x1, x2⟩ := cells3 X; obtain ⟨y0, y1, y2⟩ := cells3 Y)
        | (go_at_call 14; refine (pxput_is tn tm ts s _ z4 G2.out (by first | with_reducible exact RN.at B | with_reducible exact RN.at (B.alloc B.size _) | with_reducible exact RN.at T.below | with_reducible exact RN.at T.drew.below | with_reducible exact RN.alloc _ | with_reducible exact RN)).mono ?_; rintro e w7 ⟨rfl, bb⟩; replace X := X.next bb; replace B := B.trans (bb.mono B.size); clear bb x0 x1 x2; obtain ⟨x0, x1, x2⟩ := cells3 X)
        | (go_at_call 12; refine (pxmay_is nm m st true _ z1 H6.out).mono ?_; rintro e w8 ⟨rfl, bb⟩; replace X := X.next bb; replace B := B.trans (bb.mono B.size); clear bb))
      go_ret
      first | exact ⟨rfl, B⟩ | exact ⟨ret_bool (by simp [*]), B⟩
    | false =>
      obtain ⟨h1, h2, h3, h5⟩ := tk_none hi
      have hle := tk_bad s
      obtain ⟨n, h4⟩ : ∃ x : Nat, badX s.data.toList = x := ⟨_, rfl⟩
      rw [h4] at hle
      obtain ⟨tn, e1⟩ : ∃ x : ByteArray, x = ⟨#[]⟩ := ⟨_, rfl⟩
      obtain ⟨tm, e2⟩ : ∃ x : Int, x = 0 := ⟨_, rfl⟩
      obtain ⟨ts, e3⟩ : ∃ x : Bool, x = false := ⟨_, rfl⟩
      have H1 : Hid (tkN s = tn) := by rw [e1]; exact h1
      have H2 : Hid (tkM s = tm) := by rw [e2]; exact h2
      have H3 : Hid (tkS s = ts) := by rw [e3]; exact h3
      have H4 : Hid ((badX s.data.toList : Int) = n) := congrArg Nat.cast h4
      have H5 := hide h5
      subst e1 e2 e3
      clear h1 h2 h3 h4 h5 hi
      have T0 : Hid True := trivial
      have T1 : Hid True := trivial
      have T2 : Hid True := trivial
      have T3 : Hid True := trivial
      have T4 : Hid True := trivial
      go_enter Tryd.func4, Tryd.ntmps4
      go_wp2_with (first
        | (go_at_call 9; refine (awake_any _ (by first | with_reducible exact RN.at B | with_reducible exact RN.at (B.alloc B.size _) | with_reducible exact RN.at T.below | with_reducible exact RN.at T.drew.below | with_reducible exact RN.alloc _ | with_reducible exact RN)).mono ?_; rintro e w1 ⟨rfl, bb⟩; have X := (Bx.made w #[.string nm, .int .i64 m, .bool st] 23).next bb; have B := ((Below.refl _ w).alloc (Nat.le_refl _) _).trans (bb.mono (by simp)); clear bb; obtain ⟨x0, x1, x2⟩ := cells3 X)
        | (go_at_call 14; have z := T0; refine (pxput_is nm m st p _ z1 H7.out (by first | with_reducible exact RN.at B | with_reducible exact RN.at (B.alloc B.size _) | with_reducible exact RN.at T.below | with_reducible exact RN.at T.drew.below | with_reducible exact RN.alloc _ | with_reducible exact RN)).mono ?_; rintro e w2 ⟨rfl, bb⟩; replace X := X.next bb; replace B := B.trans (bb.mono B.size); clear bb x0 x1 x2; obtain ⟨x0, x1, x2⟩ := cells3 X; clear T0 z)
        | (go_at_call 12; have z := T1; refine (pxmay_is nm m st true _ z1 H6.out).mono ?_; rintro e w3 ⟨rfl, bb⟩; replace X := X.next bb; replace B := B.trans (bb.mono B.size); clear bb x0 x1 x2; obtain ⟨x0, x1, x2⟩ := cells3 X; clear T1 z)
        | (go_at_call 10; have z := T2; refine (pxtk_is p nm m st p.size 0 _ z3 P1.out P2.out P3.out P4.out P5.out (by first | with_reducible exact RN.at B | with_reducible exact RN.at (B.alloc B.size _) | with_reducible exact RN.at T.below | with_reducible exact RN.at T.drew.below | with_reducible exact RN.alloc _ | with_reducible exact RN)).mono ?_; rintro e w4 ⟨rfl, bb⟩; replace X := X.next bb; replace B := B.trans (bb.mono B.size); clear bb T2 z x0 x1 x2; have XL := fun o => cells3 (X.later o); have x0 := fun o => (XL o).1; have x1 := fun o => (XL o).2.1; have x2 := fun o => (XL o).2.2; clear XL)
        | (go_at_call 10; have z := T3; refine (pxtk_is s ⟨#[]⟩ 0 false n 2 _ z2 H1.out H2.out H3.out H4.out H5.out (by first | with_reducible exact RN.at B | with_reducible exact RN.at (B.alloc B.size _) | with_reducible exact RN.at T.below | with_reducible exact RN.at T.drew.below | with_reducible exact RN.alloc _ | with_reducible exact RN)).mono ?_; rintro e w5 ⟨rfl, bb⟩; replace X := (X.later _).next bb; replace B := bel_alloc B bb; clear bb T3 z x0 x1 x2; have XL := fun o => cells3 (X.later o); have x0 := fun o => (XL o).1; have x1 := fun o => (XL o).2.1; have x2 := fun o => (XL o).2.2; clear XL)
        | (go_at_call 12; refine (pxmay_is nm m st true _ z1 H6.out).mono ?_; rintro e w8 ⟨rfl, bb⟩; replace X := (X.later _).next bb; replace B := bel_alloc B bb; clear bb))
      go_ret
      first | exact ⟨rfl, B⟩ | exact ⟨ret_bool (by simp [*]), B⟩
  | false =>
    have hpe : p.toList.isEmpty = true := by
      apply eq_none
      rw [size_list, h7, put_none h6]
      simp
    have H6 := hide h6
    clear h6 h7
    cases hi : isX s.data.toList with
    | true =>
      obtain ⟨t1, t2, t3, t4, t5⟩ := tk_is hi
      obtain ⟨tn, h1⟩ : ∃ x, tkN s = x := ⟨_, rfl⟩
      obtain ⟨tm, h2⟩ : ∃ x, tkM s = x := ⟨_, rfl⟩
      obtain ⟨ts, h3⟩ : ∃ x, tkS s = x := ⟨_, rfl⟩
      rw [h1, h2, h3] at t1 t2
      rw [h1] at t5
      have z4 : tn.size ≤ 1000000 := by omega
      have H1 := hide h1
      have H2 := hide h2
      have H3 := hide h3
      have H4 := hide t3
      have H5 := hide t4
      have G1 := hide t1
      have G2 := hide t2.symm
      clear h1 h2 h3 t1 t2 t3 t4 hi
      have T0 : Hid True := trivial
      have T1 : Hid True := trivial
      have T2 : Hid True := trivial
      have T3 : Hid True := trivial
      have T4 : Hid True := trivial
      go_enter Tryd.func4, Tryd.ntmps4
      go_wp2_with (first
        | (go_at_call 9; refine (awake_any _ (by first | with_reducible exact RN.at B | with_reducible exact RN.at (B.alloc B.size _) | with_reducible exact RN.at T.below | with_reducible exact RN.at T.drew.below | with_reducible exact RN.alloc _ | with_reducible exact RN)).mono ?_; rintro e w1 ⟨rfl, bb⟩; have X := (Bx.made w #[.string nm, .int .i64 m, .bool st] 23).next bb; have B := ((Below.refl _ w).alloc (Nat.le_refl _) _).trans (bb.mono (by simp)); clear bb; obtain ⟨x0, x1, x2⟩ := cells3 X)
        | (go_at_call 14; have z := T0; refine (pxput_is nm m st p _ z1 H7.out (by first | with_reducible exact RN.at B | with_reducible exact RN.at (B.alloc B.size _) | with_reducible exact RN.at T.below | with_reducible exact RN.at T.drew.below | with_reducible exact RN.alloc _ | with_reducible exact RN)).mono ?_; rintro e w2 ⟨rfl, bb⟩; replace X := X.next bb; replace B := B.trans (bb.mono B.size); clear bb x0 x1 x2; obtain ⟨x0, x1, x2⟩ := cells3 X; clear T0 z)
        | (go_at_call 12; have z := T1; refine (pxmay_is nm m st false _ z1 H6.out).mono ?_; rintro e w3 ⟨rfl, bb⟩; replace X := X.next bb; replace B := B.trans (bb.mono B.size); clear bb x0 x1 x2; obtain ⟨x0, x1, x2⟩ := cells3 X; clear T1 z)
        | (go_at_call 10; have z := T3; refine (pxtk_is s tn tm ts s.size 0 _ z2 H1.out H2.out H3.out H4.out H5.out (by first | with_reducible exact RN.at B | with_reducible exact RN.at (B.alloc B.size _) | with_reducible exact RN.at T.below | with_reducible exact RN.at T.drew.below | with_reducible exact RN.alloc _ | with_reducible exact RN)).mono ?_; rintro e w5 ⟨rfl, bb⟩; replace X := X.next bb; replace B := B.trans (bb.mono B.size); clear bb T3 z x0 x1 x2; have XL := fun o => cells3 (X.later o); have x0 := fun o => (XL o).1; have x1 := fun o => (XL o).2.1; have x2 := fun o => (XL o).2.2; clear XL)
        | (go_at_call 12; have z := T4; refine (pxmay_is tn tm ts true _ z4 G1.out).mono ?_; rintro e w6 ⟨rfl, bb⟩; replace X := (X.later _).next bb; have Y := (Bx.made w5 #[.string tn, .int .i64 tm, .bool ts] 23).next bb; replace B := bel_alloc B bb; clear bb T4 z x0 x1 x2; obtain ⟨x0, x1, x2⟩ := cells3 X; obtain ⟨y0, y1, y2⟩ := cells3 Y)
        | (go_at_call 14; refine (pxput_is tn tm ts s _ z4 G2.out (by first | with_reducible exact RN.at B | with_reducible exact RN.at (B.alloc B.size _) | with_reducible exact RN.at T.below | with_reducible exact RN.at T.drew.below | with_reducible exact RN.alloc _ | with_reducible exact RN)).mono ?_; rintro e w7 ⟨rfl, bb⟩; replace X := X.next bb; replace B := B.trans (bb.mono B.size); clear bb x0 x1 x2; obtain ⟨x0, x1, x2⟩ := cells3 X)
        | (go_at_call 12; refine (pxmay_is nm m st false _ z1 H6.out).mono ?_; rintro e w8 ⟨rfl, bb⟩; replace X := X.next bb; replace B := B.trans (bb.mono B.size); clear bb))
      go_ret
      first | exact ⟨rfl, B⟩ | exact ⟨ret_bool (by simp [*]), B⟩
    | false =>
      obtain ⟨h1, h2, h3, h5⟩ := tk_none hi
      have hle := tk_bad s
      obtain ⟨n, h4⟩ : ∃ x : Nat, badX s.data.toList = x := ⟨_, rfl⟩
      rw [h4] at hle
      obtain ⟨tn, e1⟩ : ∃ x : ByteArray, x = ⟨#[]⟩ := ⟨_, rfl⟩
      obtain ⟨tm, e2⟩ : ∃ x : Int, x = 0 := ⟨_, rfl⟩
      obtain ⟨ts, e3⟩ : ∃ x : Bool, x = false := ⟨_, rfl⟩
      have H1 : Hid (tkN s = tn) := by rw [e1]; exact h1
      have H2 : Hid (tkM s = tm) := by rw [e2]; exact h2
      have H3 : Hid (tkS s = ts) := by rw [e3]; exact h3
      have H4 : Hid ((badX s.data.toList : Int) = n) := congrArg Nat.cast h4
      have H5 := hide h5
      subst e1 e2 e3
      clear h1 h2 h3 h4 h5 hi
      have T0 : Hid True := trivial
      have T1 : Hid True := trivial
      have T2 : Hid True := trivial
      have T3 : Hid True := trivial
      have T4 : Hid True := trivial
      go_enter Tryd.func4, Tryd.ntmps4
      go_wp2_with (first
        | (go_at_call 9; refine (awake_any _ (by first | with_reducible exact RN.at B | with_reducible exact RN.at (B.alloc B.size _) | with_reducible exact RN.at T.below | with_reducible exact RN.at T.drew.below | with_reducible exact RN.alloc _ | with_reducible exact RN)).mono ?_; rintro e w1 ⟨rfl, bb⟩; have X := (Bx.made w #[.string nm, .int .i64 m, .bool st] 23).next bb; have B := ((Below.refl _ w).alloc (Nat.le_refl _) _).trans (bb.mono (by simp)); clear bb; obtain ⟨x0, x1, x2⟩ := cells3 X)
        | (go_at_call 14; have z := T0; refine (pxput_is nm m st p _ z1 H7.out (by first | with_reducible exact RN.at B | with_reducible exact RN.at (B.alloc B.size _) | with_reducible exact RN.at T.below | with_reducible exact RN.at T.drew.below | with_reducible exact RN.alloc _ | with_reducible exact RN)).mono ?_; rintro e w2 ⟨rfl, bb⟩; replace X := X.next bb; replace B := B.trans (bb.mono B.size); clear bb x0 x1 x2; obtain ⟨x0, x1, x2⟩ := cells3 X; clear T0 z)
        | (go_at_call 12; have z := T1; refine (pxmay_is nm m st false _ z1 H6.out).mono ?_; rintro e w3 ⟨rfl, bb⟩; replace X := X.next bb; replace B := B.trans (bb.mono B.size); clear bb x0 x1 x2; obtain ⟨x0, x1, x2⟩ := cells3 X; clear T1 z)
        | (go_at_call 10; have z := T3; refine (pxtk_is s ⟨#[]⟩ 0 false n 2 _ z2 H1.out H2.out H3.out H4.out H5.out (by first | with_reducible exact RN.at B | with_reducible exact RN.at (B.alloc B.size _) | with_reducible exact RN.at T.below | with_reducible exact RN.at T.drew.below | with_reducible exact RN.alloc _ | with_reducible exact RN)).mono ?_; rintro e w5 ⟨rfl, bb⟩; replace X := X.next bb; replace B := B.trans (bb.mono B.size); clear bb T3 z x0 x1 x2; have XL := fun o => cells3 (X.later o); have x0 := fun o => (XL o).1; have x1 := fun o => (XL o).2.1; have x2 := fun o => (XL o).2.2; clear XL)
        | (go_at_call 12; refine (pxmay_is nm m st false _ z1 H6.out).mono ?_; rintro e w8 ⟨rfl, bb⟩; replace X := (X.later _).next bb; replace B := bel_alloc B bb; clear bb))
      go_ret
      first | exact ⟨rfl, B⟩ | exact ⟨ret_bool (by simp [*]), B⟩
end Go.Proofs.YtcglkekilaokaaaDoor
