/-
  WALKS: the reference's Take (layer 6).
-/
import Derived.Test.YtcglkekilaokaaaDoorW5
namespace Go.Proofs.YtcglkekilaokaaaDoor
open Go.RowKit Go.Lib

theorem begX_is (s : ByteArray) (b : Bool) (w : World) (hs : s.size ≤ 90000) (h : beginX s.data.toList = b) :
    Calls Tryd.prog 20 #[.string s] w fun e w' => e = .returned (.bool b) ∧ Below w.heap.size w w' := by
  subst h; exact begX_any s w hs
/-- what is taken of a text: the name, the prefix, the star, how many bytes, the error -/
def tkN (s : ByteArray) : ByteArray := if isX s.data.toList then nmX s else ⟨#[]⟩
def tkM (s : ByteArray) : Int := if isX s.data.toList then (specX s.data.toList).max else 0
def tkS (s : ByteArray) : Bool := if isX s.data.toList then (specX s.data.toList).star else false
def tkE (s : ByteArray) : Int := if isX s.data.toList then 0 else 2

set_option maxRecDepth 20000 in
set_option maxHeartbeats 2000000 in
theorem rtk_any (s : ByteArray) (w : World) (hs : s.size ≤ 80000) :
    Calls Tryd.prog 11 #[.string s] w fun e w' => e = .returned (.tuple #[.agg #[.string (tkN s), .int .i64 (tkM s), .bool (tkS s)], .int .i64 (badX s.data.toList), .int .i64 (tkE s)]) ∧ Below w.heap.size w w' := by
  have z0 : s.size ≤ 100000 := by omega
  obtain ⟨nm, hnm⟩ : ∃ x, nmX s = x := ⟨_, rfl⟩
  obtain ⟨mx, hmx⟩ : ∃ x, (specX s.data.toList).max = x := ⟨_, rfl⟩
  obtain ⟨st, hst⟩ : ∃ x, (specX s.data.toList).star = x := ⟨_, rfl⟩
  cases h : isX s.data.toList with
  | true =>
    have e1 : tkN s = nm := by unfold tkN; rw [h, if_pos rfl, hnm]
    have e2 : tkM s = mx := by unfold tkM; rw [h, if_pos rfl, hmx]
    have e3 : tkS s = st := by unfold tkS; rw [h, if_pos rfl, hst]
    have e4 : tkE s = 0 := by unfold tkE; rw [h, if_pos rfl]
    have e5 := badX_is h
    rw [← size_list] at e5
    rw [e1, e2, e3, e4, e5]
    have H := hide h
    have H1 := hide hnm
    have H2 := hide hmx
    have H3 := hide hst
    clear h hnm hmx hst e1 e2 e3 e4 e5
    go_enter Tryd.func11, Tryd.ntmps11
    go_wp2_with (go_at_call 19; refine (ris_is s nm mx st true _ z0 H1.out H2.out H3.out H.out).mono ?_; rintro e w1 ⟨rfl, bb⟩; have X := (Bx.made w #[.string ⟨#[]⟩, .int .i64 0, .bool false] 23).next bb; have B := ((Below.refl _ w).alloc (Nat.le_refl _) _).trans (bb.mono (by simp)); clear bb; have x0 := fun o => (X.later o).cell 0 _ rfl; have x1 := fun o => (X.later o).cell 1 _ rfl; have x2 := fun o => (X.later o).cell 2 _ rfl; have z0 := fun o => (X.later o).free 0; have z1 := fun o => (X.later o).free 1; have z2 := fun o => (X.later o).free 2)
    have X3 := (((X.later (.cells #[.string nm, .int .i64 mx, .bool st] 23)).put 0 (.string nm)).put 1 (.int .i64 mx)).put 2 (.bool st)
    refine bodyPost_ret (v := .tuple #[.agg #[.string nm, .int .i64 mx, .bool st], .int .i64 s.size, .int .i64 0]) (ret_cell_tmp2 Tryd.results11 _ _ rfl X3 Tryd.underlying23 rfl (by kernel_rfl)) rfl ⟨rfl, ?_⟩
    exact ((((B.alloc B.size _).setCell (p := ⟨w.heap.size, 0, none⟩) (Nat.le_refl _) _).setCell (p := ⟨w.heap.size, 1, none⟩) (Nat.le_refl _) _).setCell (p := ⟨w.heap.size, 2, none⟩) (Nat.le_refl _) _)
  | false =>
    have e1 : tkN s = ⟨#[]⟩ := by unfold tkN; rw [h]; rfl
    have e2 : tkM s = 0 := by unfold tkM; rw [h]; rfl
    have e3 : tkS s = false := by unfold tkS; rw [h]; rfl
    have e4 : tkE s = 2 := by unfold tkE; rw [h]; rfl
    have hle := badX_le s.data.toList
    rw [← size_list] at hle
    have hif : ∀ k, k ≤ s.size → (beginX (s.extract 0 k).data.toList = true ↔ k ≤ badX s.data.toList) := by
      intro k hk
      rw [head_list]
      exact badX_iff _ k (by rw [← size_list]; exact hk)
    obtain ⟨N, hN⟩ : ∃ N, badX s.data.toList = N := ⟨_, rfl⟩
    rw [hN] at hle hif ⊢
    rw [e1, e2, e3, e4]
    have Hif := hide hif
    have H := hide h
    have H1 := hide hnm
    have H2 := hide hmx
    have H3 := hide hst
    clear h hnm hmx hst e1 e2 e3 e4 hif hN
    go_enter Tryd.func11, Tryd.ntmps11
    go_wp2_with (go_at_call 19; refine (ris_is s nm mx st false _ z0 H1.out H2.out H3.out H.out).mono ?_; rintro e w1 ⟨rfl, bb⟩; have X := (Bx.made w #[.string ⟨#[]⟩, .int .i64 0, .bool false] 23).next bb; have B := ((Below.refl _ w).alloc (Nat.le_refl _) _).trans (bb.mono (by simp)); clear bb)
    go_loopw [7] (fun i wr => ∃ k : Nat, k ≤ N ∧ i = .int .i64 k ∧ Below w.heap.size w wr ∧ Bx wr w.heap.size #[.string ⟨#[]⟩, .int .i64 0, .bool false] 23) (fun i _ => s.size - (intOf i).toNat)
    case atStart => exact ⟨0, Nat.zero_le _, rfl, B.alloc B.size _, X.later _⟩
    case round =>
      clear B X
      obtain ⟨k, hk, rfl, B, X⟩ := hrel
      have x0 := X.cell 0 _ rfl
      have x1 := X.cell 1 _ rfl
      have x2 := X.cell 2 _ rfl
      have f0 := X.free 0
      have f1 := X.free 1
      have f2 := X.free 2
      by_cases hlt : k < s.size
      · have hxs : (s.extract 0 (k + 1)).size ≤ 90000 := by rw [size_list, head_list, List.length_take, ← size_list]; omega
        by_cases hN : k + 1 ≤ N
        · have Hb := hide ((Hif.out (k + 1) (by omega)).2 hN)
          go_wp2_with (go_at_call 20; refine (begX_is _ _ _ hxs Hb.out).mono ?_; rintro e w2 ⟨rfl, bb⟩)
          go_roundw
          case rel => exact ⟨k + 1, hN, by go_num, B.trans (bb.mono B.size), X.next bb⟩
          case measure => simp [intOf]; omega
        · have Hb : Hid (beginX (s.extract 0 (k + 1)).data.toList = false) := by
            show beginX (s.extract 0 (k + 1)).data.toList = false
            cases h : beginX (s.extract 0 (k + 1)).data.toList with
            | false => rfl
            | true => exact absurd ((Hif.out (k + 1) (by omega)).1 h) hN
          have hkN : k = N := by omega
          have HK := hide hkN
          clear hkN
          go_wp2_with (go_at_call 20; refine (begX_is _ _ _ hxs Hb.out).mono ?_; rintro e w2 ⟨rfl, bb⟩; replace B := B.trans (bb.mono B.size); replace X := X.next bb; clear bb; have y0 := X.cell 0 _ rfl; have y1 := X.cell 1 _ rfl; have y2 := X.cell 2 _ rfl; have g0 := X.free 0; have g1 := X.free 1; have g2 := X.free 2)
          have X3 := ((X.put 0 (.string ⟨#[]⟩)).put 1 (.int .i64 0)).put 2 (.bool false)
          refine bodyPost_ret (v := .tuple #[.agg #[.string ⟨#[]⟩, .int .i64 0, .bool false], .int .i64 k, .int .i64 2]) (ret_cell_tmp2 Tryd.results11 _ _ rfl X3 Tryd.underlying23 rfl (by kernel_rfl)) rfl ⟨by rw [HK.out], ?_⟩
          exact (((B.setCell (p := ⟨w.heap.size, 0, none⟩) (Nat.le_refl _) _).setCell (p := ⟨w.heap.size, 1, none⟩) (Nat.le_refl _) _).setCell (p := ⟨w.heap.size, 2, none⟩) (Nat.le_refl _) _)
      · have hkN : k = N := by omega
        have HK := hide hkN
        clear hkN
        go_wp2
        have X3 := ((X.put 0 (.string ⟨#[]⟩)).put 1 (.int .i64 0)).put 2 (.bool false)
        refine bodyPost_ret (v := .tuple #[.agg #[.string ⟨#[]⟩, .int .i64 0, .bool false], .int .i64 k, .int .i64 2]) (ret_cell_tmp2 Tryd.results11 _ _ rfl X3 Tryd.underlying23 rfl (by kernel_rfl)) rfl ⟨by rw [HK.out], ?_⟩
        exact (((B.setCell (p := ⟨w.heap.size, 0, none⟩) (Nat.le_refl _) _).setCell (p := ⟨w.heap.size, 1, none⟩) (Nat.le_refl _) _).setCell (p := ⟨w.heap.size, 2, none⟩) (Nat.le_refl _) _)
theorem rtk_is (s nm : ByteArray) (m : Int) (st : Bool) (n e : Int) (w : World) (hs : s.size ≤ 80000) (h1 : tkN s = nm) (h2 : tkM s = m) (h3 : tkS s = st) (h4 : (badX s.data.toList : Int) = n) (h5 : tkE s = e) :
    Calls Tryd.prog 11 #[.string s] w fun r w' => r = .returned (.tuple #[.agg #[.string nm, .int .i64 m, .bool st], .int .i64 n, .int .i64 e]) ∧ Below w.heap.size w w' := by
  subst h1 h2 h3 h4 h5; exact rtk_any s w hs
end Go.Proofs.YtcglkekilaokaaaDoor
