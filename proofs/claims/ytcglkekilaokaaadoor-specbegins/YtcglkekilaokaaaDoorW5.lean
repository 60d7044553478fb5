/-
  WALKS: the reference's Begins, Take (layer 6).
-/
import Derived.Test.YtcglkekilaokaaaDoorW4
namespace Go.Proofs.YtcglkekilaokaaaDoor
open Go.RowKit Go.Lib

theorem ris_b (s : ByteArray) (b : Bool) (w : World) (hs : s.size ≤ 100000) (h : isX s.data.toList = b) :
    Calls Tryd.prog 19 #[.string s] w fun e w' => ∃ nm mx st, e = .returned (.tuple #[.agg #[.string nm, .int .i64 mx, .bool st], .bool b]) ∧ Below w.heap.size w w' := by
  subst h
  refine (ris_any s w hs).mono ?_
  rintro e w' ⟨rfl, bb⟩
  exact ⟨_, _, _, rfl, bb⟩
theorem ris_is (s nm : ByteArray) (mx : Int) (st b : Bool) (w : World) (hs : s.size ≤ 100000) (h1 : nmX s = nm) (h2 : (specX s.data.toList).max = mx) (h3 : (specX s.data.toList).star = st) (h : isX s.data.toList = b) :
    Calls Tryd.prog 19 #[.string s] w fun e w' => e = .returned (.tuple #[.agg #[.string nm, .int .i64 mx, .bool st], .bool b]) ∧ Below w.heap.size w w' := by
  subst h h1 h2 h3; exact ris_any s w hs

theorem bel_alloc {w W W' : World} {o : Obj} (B : Below w.heap.size w W) (bb : Below (W.alloc o).heap.size (W.alloc o) W') : Below w.heap.size w W' :=
  (B.alloc B.size o).trans (bb.mono (B.alloc B.size o).size)
set_option maxRecDepth 20000 in
set_option maxHeartbeats 2000000 in
theorem begX_any (s : ByteArray) (w : World) (hs : s.size ≤ 90000) :
    Calls Tryd.prog 20 #[.string s] w fun e w' => e = .returned (.bool (beginX s.data.toList)) ∧ Below w.heap.size w w' := by
  rw [begin_isX]
  have B := Below.refl w.heap.size w
  obtain ⟨x0, h0⟩ : ∃ x, isX s.data.toList = x := ⟨_, rfl⟩
  obtain ⟨x1, h1⟩ : ∃ x, isX (s.data.toList ++ [97]) = x := ⟨_, rfl⟩
  obtain ⟨x2, h2⟩ : ∃ x, isX (s.data.toList ++ [52, 49]) = x := ⟨_, rfl⟩
  obtain ⟨x3, h3⟩ : ∃ x, isX (s.data.toList ++ [49]) = x := ⟨_, rfl⟩
  rw [h0, h1, h2, h3]
  have H0 := hide h0
  have H1 : Hid (isX (s ++ ⟨#[97]⟩).data.toList = x1) := by show isX (s ++ ⟨#[97]⟩).data.toList = x1; rw [app_list]; exact h1
  have H2 : Hid (isX (s ++ ⟨#[52, 49]⟩).data.toList = x2) := by show isX (s ++ ⟨#[52, 49]⟩).data.toList = x2; rw [app_list]; exact h2
  have H3 : Hid (isX (s ++ ⟨#[49]⟩).data.toList = x3) := by show isX (s ++ ⟨#[49]⟩).data.toList = x3; rw [app_list]; exact h3
  have z0 : s.size ≤ 100000 := by omega
  have z1 : (s ++ ⟨#[97]⟩).size ≤ 100000 := by rw [ByteArray.size_append]; show s.size + 1 ≤ _; omega
  have z2 : (s ++ ⟨#[52, 49]⟩).size ≤ 100000 := by rw [ByteArray.size_append]; show s.size + 2 ≤ _; omega
  have z3 : (s ++ ⟨#[49]⟩).size ≤ 100000 := by rw [ByteArray.size_append]; show s.size + 1 ≤ _; omega
  clear h0 h1 h2 h3
  obtain ⟨S1, e1⟩ : ∃ S : ByteArray, s ++ ⟨#[97]⟩ = S := ⟨_, rfl⟩
  obtain ⟨S2, e2⟩ : ∃ S : ByteArray, s ++ ⟨#[52, 49]⟩ = S := ⟨_, rfl⟩
  obtain ⟨S3, e3⟩ : ∃ S : ByteArray, s ++ ⟨#[49]⟩ = S := ⟨_, rfl⟩
  rw [e1] at H1 z1
  rw [e2] at H2 z2
  rw [e3] at H3 z3
  have T0 : Hid True := trivial
  have T1 : Hid True := trivial
  have T2 : Hid True := trivial
  have T3 : Hid True := trivial
  go_enter Tryd.func20, Tryd.ntmps20
  go_wp2_with (first
    | (go_at_call 19; have z := T0; refine (ris_b s x0 _ z0 H0.out).mono ?_; rintro e w1 ⟨_, _, _, rfl, bb⟩; replace B := B.trans (bb.mono B.size); clear T0 z bb)
    | (go_at_call 19; have z := T1; refine (ris_b S1 x1 _ z1 H1.out).mono ?_; rintro e w1 ⟨_, _, _, rfl, bb⟩; replace B := bel_alloc B bb; clear T1 z bb)
    | (go_at_call 19; have z := T2; refine (ris_b S2 x2 _ z2 H2.out).mono ?_; rintro e w1 ⟨_, _, _, rfl, bb⟩; replace B := bel_alloc B bb; clear T2 z bb)
    | (go_at_call 19; have z := T3; refine (ris_b S3 x3 _ z3 H3.out).mono ?_; rintro e w1 ⟨_, _, _, rfl, bb⟩; replace B := bel_alloc B bb; clear T3 z bb))
  all_goals go_ret
  all_goals exact ⟨ret_bool (by simp [*]), B.alloc B.size _⟩
end Go.Proofs.YtcglkekilaokaaaDoor
