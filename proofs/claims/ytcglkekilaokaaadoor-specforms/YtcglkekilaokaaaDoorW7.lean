/-
  WALKS: the program's Take (layer 6), in the form that the laws use.
-/
import Derived.Test.YtcglkekilaokaaaDoorG4
namespace Go.Proofs.YtcglkekilaokaaaDoor
open Go.RowKit

theorem bgin_is (s nm : ByteArray) (m : Int) (st : Bool) (n : Int) (w : World) (hs : s.size ≤ 1000000) (h1 : nmX s = nm) (h2 : (bgM s.data.toList : Int) = m) (h3 : bgS s.data.toList = st) (h4 : (bgN s.data.toList : Int) = n) :
    Calls Tryd.prog 18 #[.string s] w fun e w' => e = .returned (.tuple #[.agg #[.string nm, .int .i64 m, .bool st], .int .i64 n]) ∧ Below w.heap.size w w' := by
  subst h1 h2 h3 h4; exact begin_any s w hs
theorem spB (s : ByteArray) : spA (nmX s) (bgM s.data.toList) (bgS s.data.toList) = bgX s.data.toList := by
  unfold spA bgX; rw [nmX_list]
set_option maxRecDepth 20000 in
set_option maxHeartbeats 1000000 in
theorem pxtk_is (s nm : ByteArray) (m : Int) (st : Bool) (n e : Int) (w : World) (hs : s.size ≤ 80000) (h1 : tkN s = nm) (h2 : tkM s = m) (h3 : tkS s = st) (h4 : (badX s.data.toList : Int) = n) (h5 : tkE s = e) (RN : Ran w) :
    Calls Tryd.prog 10 #[.string s] w fun r w' => r = .returned (.tuple #[.agg #[.string nm, .int .i64 m, .bool st], .int .i64 n, .int .i64 e]) ∧ Below w.heap.size w w' := by
  have hs1 : s.size ≤ 1000000 := by omega
  rw [← bgN_is] at h4
  obtain ⟨bn, b1⟩ : ∃ x, nmX s = x := ⟨_, rfl⟩
  obtain ⟨bm, b2⟩ : ∃ x : Int, (bgM s.data.toList : Int) = x := ⟨_, rfl⟩
  obtain ⟨bs, b3⟩ : ∃ x, bgS s.data.toList = x := ⟨_, rfl⟩
  have hbn : bn.size ≤ 1000000 := by
    rw [← b1, size_list, nmX_list, List.length_take, ← size_list]; omega
  have hB := spB s
  rw [b1, b2, b3] at hB
  obtain ⟨p, hp⟩ : ∃ p : ByteArray, p.data.toList = putL (spA bn bm bs) := ⟨putA bn bm bs, rfl⟩
  have X0 := Bx.made w #[.string ⟨#[]⟩, .int .i64 0, .bool false] 23
  have B0 : ∀ o, Below w.heap.size w (w.alloc o) := fun o => (Below.refl _ w).alloc (Nat.le_refl _) _
  have H1 := hide b1
  have H2 := hide b2
  have H3 := hide b3
  have H4 := hide h4
  have HP := hide hp
  cases hi : isX s.data.toList with
  | true =>
    obtain ⟨k1, k2, k3⟩ := bg_is hi
    have e1 : bn = nm := by rw [← h1, ← b1]; unfold tkN; rw [hi, if_pos rfl]
    have e2 : bm = m := by
      rw [← h2, ← b2]; unfold tkM; rw [hi, if_pos rfl, ← k3]; rfl
    have e3 : bs = st := by
      rw [← h3, ← b3]; unfold tkS; rw [hi, if_pos rfl, ← k3]; rfl
    have e4 : 0 = e := by rw [← h5]; unfold tkE; rw [hi, if_pos rfl]
    have e5 : p = s := arr_ext (by rw [hp, hB, k2])
    subst e1 e2 e3 e4 e5
    have HM : Hid (mayX (spA bn bm bs) = true) := by rw [hB]; exact k1
    clear h1 h2 h3 h4 h5 b1 b2 b3 hp hi k1 k2 k3 hB
    go_enter Tryd.func10, Tryd.ntmps10
    go_wp2_with (first
      | (go_at_call 18; refine (bgin_is p bn bm bs n _ hs1 H1.out H2.out H3.out H4.out).mono ?_; rintro e w1 ⟨rfl, bb⟩; have X := X0.next bb; have B := (B0 _).trans (bb.mono (by simp)); clear bb)
      | (go_at_call 12; refine (pxmay_is bn bm bs true _ hbn HM.out).mono ?_; rintro e w2 ⟨rfl, bb⟩; have Y := (Bx.made w1 #[.string bn, .int .i64 bm, .bool bs] 23).next bb; replace X := (X.later _).next bb; replace B := bel_alloc B bb; clear bb; obtain ⟨y0, y1, y2⟩ := cells3 Y)
      | (go_at_call 14; refine (pxput_is bn bm bs p _ hbn HP.out (RN.at B)).mono ?_; rintro e w3 ⟨rfl, bb⟩; replace Y := Y.next bb; replace X := X.next bb; replace B := B.trans (bb.mono B.size); clear bb y0 y1 y2; obtain ⟨y0, y1, y2⟩ := cells3 Y; obtain ⟨x0, x1, x2⟩ := cells3 X; have z0 := X.free 0; have z1 := X.free 1; have z2 := X.free 2))
    obtain ⟨X3, B3⟩ := put3 B X (.string bn) (.int .i64 bm) (.bool bs)
    exact bodyPost_ret (v := .tuple #[.agg #[.string bn, .int .i64 bm, .bool bs], .int .i64 n, .int .i64 0]) (ret_cell_tmp2 Tryd.results10 _ _ rfl X3 Tryd.underlying23 rfl (by kernel_rfl)) rfl ⟨rfl, B3⟩
  | false =>
    have e1 : (⟨#[]⟩ : ByteArray) = nm := by rw [← h1]; unfold tkN; rw [hi]; rfl
    have e2 : 0 = m := by rw [← h2]; unfold tkM; rw [hi]; rfl
    have e3 : false = st := by rw [← h3]; unfold tkS; rw [hi]; rfl
    have e4 : 2 = e := by rw [← h5]; unfold tkE; rw [hi]; rfl
    subst e1 e2 e3 e4
    have hn := bg_not hi
    rw [← hB] at hn
    cases hm : mayX (spA bn bm bs) with
    | false =>
      have HM := hide hm
      clear h1 h2 h3 h4 h5 b1 b2 b3 hp hi hB hn hm
      go_enter Tryd.func10, Tryd.ntmps10
      go_wp2_with (first
        | (go_at_call 18; refine (bgin_is s bn bm bs n _ hs1 H1.out H2.out H3.out H4.out).mono ?_; rintro e w1 ⟨rfl, bb⟩; have X := X0.next bb; have B := (B0 _).trans (bb.mono (by simp)); clear bb)
        | (go_at_call 12; refine (pxmay_is bn bm bs false _ hbn HM.out).mono ?_; rintro e w2 ⟨rfl, bb⟩; have Y := (Bx.made w1 #[.string bn, .int .i64 bm, .bool bs] 23).next bb; replace X := (X.later _).next bb; replace B := bel_alloc B bb; clear bb; obtain ⟨y0, y1, y2⟩ := cells3 Y; obtain ⟨x0, x1, x2⟩ := cells3 X; have z0 := X.free 0; have z1 := X.free 1; have z2 := X.free 2))
      obtain ⟨X3, B3⟩ := put3 B X (.string ⟨#[]⟩) (.int .i64 0) (.bool false)
      exact bodyPost_ret (v := .tuple #[.agg #[.string ⟨#[]⟩, .int .i64 0, .bool false], .int .i64 n, .int .i64 2]) (ret_cell_tmp2 Tryd.results10 _ _ rfl X3 Tryd.underlying23 rfl (by kernel_rfl)) rfl ⟨rfl, B3⟩
    | true =>
      have HM := hide hm
      have hne : ¬ p.toList = s.toList := by
        intro e
        rcases hn with hn | hn
        · rw [hm] at hn; cases hn
        · apply hn
          rw [← hp]
          simpa [ByteArray.toList_eq] using e
      have hq : (p.toList == s.toList) = false := by simpa using hne
      clear h1 h2 h3 h4 h5 b1 b2 b3 hp hi hB hn hm hne
      go_enter Tryd.func10, Tryd.ntmps10
      go_wp2_with (first
        | (go_at_call 18; refine (bgin_is s bn bm bs n _ hs1 H1.out H2.out H3.out H4.out).mono ?_; rintro e w1 ⟨rfl, bb⟩; have X := X0.next bb; have B := (B0 _).trans (bb.mono (by simp)); clear bb)
        | (go_at_call 12; refine (pxmay_is bn bm bs true _ hbn HM.out).mono ?_; rintro e w2 ⟨rfl, bb⟩; have Y := (Bx.made w1 #[.string bn, .int .i64 bm, .bool bs] 23).next bb; replace X := (X.later _).next bb; replace B := bel_alloc B bb; clear bb; obtain ⟨y0, y1, y2⟩ := cells3 Y)
        | (go_at_call 14; refine (pxput_is bn bm bs p _ hbn HP.out (RN.at B)).mono ?_; rintro e w3 ⟨rfl, bb⟩; replace Y := Y.next bb; replace X := X.next bb; replace B := B.trans (bb.mono B.size); clear bb y0 y1 y2; obtain ⟨y0, y1, y2⟩ := cells3 Y; obtain ⟨x0, x1, x2⟩ := cells3 X; have z0 := X.free 0; have z1 := X.free 1; have z2 := X.free 2))
      obtain ⟨X3, B3⟩ := put3 B X (.string ⟨#[]⟩) (.int .i64 0) (.bool false)
      exact bodyPost_ret (v := .tuple #[.agg #[.string ⟨#[]⟩, .int .i64 0, .bool false], .int .i64 n, .int .i64 2]) (ret_cell_tmp2 Tryd.results10 _ _ rfl X3 Tryd.underlying23 rfl (by kernel_rfl)) rfl ⟨rfl, B3⟩
end Go.Proofs.YtcglkekilaokaaaDoor
