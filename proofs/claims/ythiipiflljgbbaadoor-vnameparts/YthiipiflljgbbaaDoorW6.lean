/-
  WALKS: the program's May, Bad, End and Split, in the forms that the laws use.
-/
import Derived.Test.YthiipiflljgbbaaDoorP3
import Derived.Test.YthiipiflljgbbaaDoorP4
namespace Go.Proofs.YthiipiflljgbbaaDoor
open Go.RowKit

theorem scan_is (s : ByteArray) (n m : Int) (w : World) (hs : s.size ≤ 100000) (h : (badN s.data.toList : Int) = n) (h' : (endN s.data.toList : Int) = m) :
    Calls Tryd.prog 21 #[.string s] w fun e w' => e = .returned (.tuple #[.int .i64 n, .int .i64 m]) ∧ Below w.heap.size w w' := by
  subst h h'; exact scan_any s w hs
set_option maxHeartbeats 400000 in
theorem pbad_is (s : ByteArray) (n : Int) (w : World) (hs : s.size ≤ 100000) (h : (badN s.data.toList : Int) = n) : Calls Tryd.prog 12 #[.string s] w fun e w' => e = .returned (.int .i64 n) ∧ Below w.heap.size w w' := by
  obtain ⟨m, hm⟩ : ∃ m : Int, (endN s.data.toList : Int) = m := ⟨_, rfl⟩
  have H := hide h
  have HM := hide hm
  clear h hm
  go_enter Tryd.func12, Tryd.ntmps12
  go_wp2_with (go_at_call 21; refine (scan_is s n m _ hs H.out HM.out).mono ?_; rintro e w1 ⟨rfl, bb⟩)
  go_ret
  exact ⟨rfl, bb⟩
set_option maxHeartbeats 400000 in
theorem pend_is (s : ByteArray) (n : Int) (w : World) (hs : s.size ≤ 100000) (h : (endN s.data.toList : Int) = n) : Calls Tryd.prog 14 #[.string s] w fun e w' => e = .returned (.int .i64 n) ∧ Below w.heap.size w w' := by
  obtain ⟨m, hm⟩ : ∃ m : Int, (badN s.data.toList : Int) = m := ⟨_, rfl⟩
  have H := hide h
  have HM := hide hm
  clear h hm
  go_enter Tryd.func14, Tryd.ntmps14
  go_wp2_with (go_at_call 21; refine (scan_is s m n _ hs HM.out H.out).mono ?_; rintro e w1 ⟨rfl, bb⟩)
  go_ret
  exact ⟨rfl, bb⟩
set_option maxHeartbeats 400000 in
theorem pmay_is (s : ByteArray) (b : Bool) (w : World) (hs : s.size ≤ 100000) (h : nameB s.data.toList = b) : Calls Tryd.prog 10 #[.string s] w fun e w' => e = .returned (.bool b) ∧ Below w.heap.size w w' := by
  have B := Below.refl w.heap.size w
  by_cases h0 : 0 < s.size
  · have hE := eq_some s h0
    obtain ⟨n, hn⟩ : ∃ n : Int, (endN s.data.toList : Int) = n := ⟨_, rfl⟩
    have hb : (n == (s.size : Int)) = b := by
      have := end_whole s.data.toList
      rw [h, ← size_list] at this
      rw [this, ← hn]
      by_cases e : endN s.data.toList = s.size
      · simp [e]; omega
      · have : ((endN s.data.toList : Int) == (s.size : Int)) = false := by simp; omega
        rw [this]; simp [e]
    have HN := hide hn
    clear hn h
    go_enter Tryd.func10, Tryd.ntmps10
    go_wp2_with (go_at_call 14; refine (pend_is s n _ hs HN.out).mono ?_; rintro e w1 ⟨rfl, bb⟩; replace B := bb; clear bb)
    all_goals go_ret
    all_goals exact ⟨rfl, B⟩
  · have hE := eq_none s h0
    have hb : b = false := by
      rw [← h, list_none s h0]; rfl
    subst hb
    clear h
    go_enter Tryd.func10, Tryd.ntmps10
    go_wp2
    all_goals go_ret
    all_goals exact ⟨rfl, B⟩

theorem rbad_is (s : ByteArray) (n : Int) (w : World) (hs : s.size ≤ 100000) (h : (badN s.data.toList : Int) = n) : Calls Tryd.prog 13 #[.string s] w fun e w' => e = .returned (.int .i64 n) ∧ w' = w := by
  subst h; exact rbad_any s w hs
theorem rend_is (s : ByteArray) (n : Int) (w : World) (hs : s.size ≤ 100000) (h : (endN s.data.toList : Int) = n) : Calls Tryd.prog 15 #[.string s] w fun e w' => e = .returned (.int .i64 n) ∧ w' = w := by
  subst h; exact rend_any s w hs
theorem StrsAt.form {w : World} {v : Value} {ps : List (List UInt8)} (h : StrsAt w v ps) : ∃ a cap, v = .slice a ps.length cap := by
  rcases h with ⟨rfl, ao, cap, rfl⟩ | ⟨hp, b, off, cap, rfl, hc⟩
  · exact ⟨_, _, rfl⟩
  · exact ⟨_, _, rfl⟩
/-- Split's answer, as the laws use it -/
def SplitPost (w : World) (ps : List (List UInt8)) (e : Ending) (w' : World) : Prop := ∃ a cap, e = .returned (.slice a ps.length cap) ∧ StrsAt w' (.slice a ps.length cap) ps ∧ Below w.heap.size w w'
theorem rsplit_is (s : ByteArray) (ps : List (List UInt8)) (w : World) (hs : s.size ≤ 100000) (h : splitL s.data.toList = ps) : Calls Tryd.prog 18 #[.string s] w fun e w' => SplitPost w ps e w' := by
  subst h
  refine (rsplit_any s w hs).mono ?_
  rintro e w' ⟨v, rfl, hS, hB⟩
  obtain ⟨a, cap, rfl⟩ := hS.form
  exact ⟨a, cap, rfl, hS, hB⟩
theorem cut_at (W : World) (ps : List (List UInt8)) (h : 0 < ps.length) : StrsAt (W.alloc (.cells (strsV ps).toArray 9)) (.slice (some ⟨W.heap.size, 0, none⟩) ps.length ps.length) ps := by
  refine .inr ⟨h, _, _, _, rfl, fun k hk => ?_⟩
  rw [Nat.zero_add, World.cell?_alloc_new]
  simp [strsV, hk]
/-- strings.Split at a point, in Split's form -/
theorem cut_is (s : ByteArray) (ps : List (List UInt8)) (w : World) (hs : s.size ≤ 100000) (h : partsL s.data.toList = ps) : Calls Tryd.prog 23 #[.string s, .string ⟨#[46]⟩] w fun e w' => SplitPost w ps e w' := by
  subst h
  refine (cut_any s w hs).mono ?_
  rintro e w' ⟨rfl, rfl⟩
  have hl := parts_len s.data.toList
  exact ⟨_, _, rfl, cut_at w _ (by omega), (Below.refl _ _).alloc (Nat.le_refl _) _⟩
set_option maxHeartbeats 400000 in
theorem psplit_is (s : ByteArray) (ps : List (List UInt8)) (w : World) (hs : s.size ≤ 100000) (h : splitL s.data.toList = ps) : Calls Tryd.prog 17 #[.string s] w fun e w' => SplitPost w ps e w' := by
  have B := Below.refl w.heap.size w
  obtain ⟨b, hb⟩ : ∃ b, nameB s.data.toList = b := ⟨_, rfl⟩
  have Hb := hide hb
  cases b
  · have : ps = [] := by rw [← h, splitL, hb]; rfl
    subst this
    clear h hb
    go_enter Tryd.func17, Tryd.ntmps17
    go_wp2_with (go_at_call 10; refine (pmay_is s false _ hs Hb.out).mono ?_; rintro e w1 ⟨rfl, bb⟩; replace B := bb; clear bb)
    go_ret
    exact ⟨none, 0, rfl, .inl ⟨rfl, none, 0, rfl⟩, B⟩
  · have hp : partsL s.data.toList = ps := by rw [← h, splitL, hb]; rfl
    have Hp := hide hp
    clear h hb hp
    go_enter Tryd.func17, Tryd.ntmps17
    go_wp2_with (first
      | (go_at_call 10; refine (pmay_is s true _ hs Hb.out).mono ?_; rintro e w1 ⟨rfl, bb⟩; replace B := bb; clear bb)
      | (go_at_call 24; refine (clone_any s _ hs).mono ?_; rintro e w1 ⟨rfl, bb⟩; replace B := B.trans (bb.mono B.size); clear bb)
      | (go_at_call 23; refine (cut_is s ps _ hs Hp.out).mono ?_; rintro e w1 ⟨a, cap, rfl, hS, bb⟩; replace B := B.trans (bb.mono B.size); clear bb))
    go_ret
    exact ⟨a, cap, rfl, hS, B⟩
end Go.Proofs.YthiipiflljgbbaaDoor
