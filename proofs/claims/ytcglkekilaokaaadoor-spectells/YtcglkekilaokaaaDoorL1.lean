/-
  THE WALK of SpecTells.
-/
import Derived.Test.YtcglkekilaokaaaDoorW8
import Derived.Test.YtcglkekilaokaaaDoorB3
namespace Go.Proofs.YtcglkekilaokaaaDoor
open Go.RowKit

set_option maxRecDepth 20000 in
set_option maxHeartbeats 4000000 in
theorem tells_walk (nm : ByteArray) (m : Int) (st : Bool) (s : ByteArray) (w : World) (RN : Ran w) :
    Calls Tryd.prog 3 #[.agg #[.string nm, .int .i64 m, .bool st], .string s] w fun e w' => e = .returned (.bool true) ∧ Below w.heap.size w w' := by
  have hg := guard23
  have he := eq23_same
  by_cases hb1 : 200 < nm.size
  · go_enter Tryd.func3, Tryd.ntmps3
    go_wp2_with (first
      | (go_at_call 9; refine (awake_any _ (by first | with_reducible exact RN.at B | with_reducible exact RN.at (B.alloc B.size _) | with_reducible exact RN.at T.below | with_reducible exact RN.at T.drew.below | with_reducible exact RN.alloc _ | with_reducible exact RN)).mono ?_; rintro e w1 ⟨rfl, bb⟩; have X := (Bx.made w #[.string nm, .int .i64 m, .bool st] 23).next bb; have B := ((Below.refl _ w).alloc (Nat.le_refl _) _).trans (bb.mono (by simp)); clear bb; obtain ⟨x0, x1, x2⟩ := cells3 X))
    go_ret
    exact ⟨rfl, B⟩
  by_cases hb2 : 200 < s.size
  · go_enter Tryd.func3, Tryd.ntmps3
    go_wp2_with (first
      | (go_at_call 9; refine (awake_any _ (by first | with_reducible exact RN.at B | with_reducible exact RN.at (B.alloc B.size _) | with_reducible exact RN.at T.below | with_reducible exact RN.at T.drew.below | with_reducible exact RN.alloc _ | with_reducible exact RN)).mono ?_; rintro e w1 ⟨rfl, bb⟩; have X := (Bx.made w #[.string nm, .int .i64 m, .bool st] 23).next bb; have B := ((Below.refl _ w).alloc (Nat.le_refl _) _).trans (bb.mono (by simp)); clear bb; obtain ⟨x0, x1, x2⟩ := cells3 X))
    go_ret
    exact ⟨rfl, B⟩
  have z1 : nm.size ≤ 1000000 := by omega
  have z2 : s.size ≤ 80000 := by omega
  obtain ⟨tn, h1⟩ : ∃ x, tkN s = x := ⟨_, rfl⟩
  obtain ⟨tm, h2⟩ : ∃ x, tkM s = x := ⟨_, rfl⟩
  obtain ⟨ts, h3⟩ : ∃ x, tkS s = x := ⟨_, rfl⟩
  obtain ⟨n, h4⟩ : ∃ x : Int, (badX s.data.toList : Int) = x := ⟨_, rfl⟩
  obtain ⟨er, h5⟩ : ∃ x, tkE s = x := ⟨_, rfl⟩
  obtain ⟨b, h6⟩ : ∃ x, mayX (spA nm m st) = x := ⟨_, rfl⟩
  obtain ⟨p, h7⟩ : ∃ p : ByteArray, p.data.toList = putL (spA nm m st) := ⟨putA nm m st, rfl⟩
  have H1 := hide h1
  have H2 := hide h2
  have H3 := hide h3
  have H4 := hide h4
  have H5 := hide h5
  have H6 := hide h6
  have H7 := hide h7
  clear h1 h2 h3 h4 h5 h6 h7
  go_enter Tryd.func3, Tryd.ntmps3
  go_wp2_with (first
    | (go_at_call 9; refine (awake_any _ (by first | with_reducible exact RN.at B | with_reducible exact RN.at (B.alloc B.size _) | with_reducible exact RN.at T.below | with_reducible exact RN.at T.drew.below | with_reducible exact RN.alloc _ | with_reducible exact RN)).mono ?_; rintro e w1 ⟨rfl, bb⟩; have X := (Bx.made w #[.string nm, .int .i64 m, .bool st] 23).next bb; have B := ((Below.refl _ w).alloc (Nat.le_refl _) _).trans (bb.mono (by simp)); clear bb; obtain ⟨x0, x1, x2⟩ := cells3 X)
    | (go_at_call 10; refine (pxtk_is s tn tm ts n er _ z2 H1.out H2.out H3.out H4.out H5.out (by first | with_reducible exact RN.at B | with_reducible exact RN.at (B.alloc B.size _) | with_reducible exact RN.at T.below | with_reducible exact RN.at T.drew.below | with_reducible exact RN.alloc _ | with_reducible exact RN)).mono ?_; rintro e w2 ⟨rfl, bb⟩; replace X := X.next bb; replace B := B.trans (bb.mono B.size); clear bb)
    | (go_at_call 11; refine (rtk_is s tn tm ts n er _ z2 H1.out H2.out H3.out H4.out H5.out).mono ?_; rintro e w3 ⟨rfl, bb⟩; have Y := (Bx.made w2 #[.string tn, .int .i64 tm, .bool ts] 23).next bb; replace X := (X.later _).next bb; replace B := bel_alloc B bb; clear bb))
  have T : Tri w _ w.heap.size w2.heap.size w3.heap.size (.string nm) (.int .i64 m) (.bool st) (.string tn) (.int .i64 tm) (.bool ts) (.string tn) (.int .i64 tm) (.bool ts) 23 := ⟨B.alloc B.size _, X.later _, Y.later _, Bx.made w3 #[.string tn, .int .i64 tm, .bool ts] 23⟩
  clear X Y B
  have f1 : (b == b) = true := by simp
  have f2 : (p.toList == p.toList) = true := by simp
  have f3 : (n == n) = true := by simp
  have f4 : (er == er) = true := by simp
  go_region_held3 (fun W => W.cell? ⟨w.heap.size, 0, none⟩ = some (.string nm) ∧ W.cell? ⟨w.heap.size, 1, none⟩ = some (.int .i64 m) ∧ W.cell? ⟨w.heap.size, 2, none⟩ = some (.bool st) ∧ W.cell? ⟨w2.heap.size, 0, none⟩ = some (.string tn) ∧ W.cell? ⟨w2.heap.size, 1, none⟩ = some (.int .i64 tm) ∧ W.cell? ⟨w2.heap.size, 2, none⟩ = some (.bool ts) ∧ W.cell? ⟨w3.heap.size, 0, none⟩ = some (.string tn) ∧ W.cell? ⟨w3.heap.size, 1, none⟩ = some (.int .i64 tm) ∧ W.cell? ⟨w3.heap.size, 2, none⟩ = some (.bool ts)) (first | exact T.cells | exact T.drew.cells) (first
    | (go_at_call 12; refine (pxmay_is nm m st b _ z1 H6.out).mono ?_; rintro e w4 ⟨rfl, bb⟩; (first | replace T := T.next bb | replace T := T.drew.next bb); clear bb)
    | (go_at_call 13; refine (rxmay_is nm m st b _ H6.out).mono ?_; rintro e w4 ⟨rfl, bb⟩; (first | replace T := T.next bb | replace T := T.drew.next bb); clear bb)
    | (go_at_call 14; refine (pxput_is nm m st p _ z1 H7.out (by first | with_reducible exact RN.at B | with_reducible exact RN.at (B.alloc B.size _) | with_reducible exact RN.at T.below | with_reducible exact RN.at T.drew.below | with_reducible exact RN.alloc _ | with_reducible exact RN)).mono ?_; rintro e w4 ⟨rfl, bb⟩; (first | replace T := T.next bb | replace T := T.drew.next bb); clear bb)
    | (go_at_call 15; refine (rxput_is nm m st p _ z1 H7.out).mono ?_; rintro e w4 ⟨rfl, bb⟩; (first | replace T := T.next bb | replace T := T.drew.next bb); clear bb))
  all_goals go_wp2
  all_goals go_ret
  all_goals exact ⟨rfl, T.below⟩
end Go.Proofs.YtcglkekilaokaaaDoor
