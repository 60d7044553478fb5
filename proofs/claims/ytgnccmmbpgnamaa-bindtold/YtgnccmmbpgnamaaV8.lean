/-
  WALKS: the reference's Canon (layer 8).
-/
import Derived.Test.YtgnccmmbpgnamaaV7
import Derived.Deep.RegionHeld3
namespace Go.Proofs.Ytgnccmmbpgnamaa
open Go.RowKit

/-- an argument's cells, and the result's -/
structure Kx (w W : World) (k : Int) (S : ByteArray) (sl sp : Value) : Prop where
  bel : Below w.heap.size w W
  box : Bx W w.heap.size #[.int .i64 k, .string S, sl, sp] 28
  res : Bx W (w.heap.size + 1) #[.int .i64 0, .string ⟨#[]⟩, .slice none 0 0, .slice none 0 0] 28
section
variable {w W W' : World} {k : Int} {S : ByteArray} {sl sp : Value}
theorem Kx.next (h : Kx w W k S sl sp) (bb : Below W.heap.size W W') : Kx w W' k S sl sp := ⟨h.bel.trans (bb.mono h.bel.size), h.box.next bb, h.res.next bb⟩
theorem Kx.drew (h : Kx w W k S sl sp) : Kx w W.drew k S sl sp := ⟨h.bel.drew, h.box, h.res⟩
theorem Kx.alloc (h : Kx w W k S sl sp) (o : Obj) : Kx w (W.alloc o) k S sl sp := h.next ((Below.refl _ _).alloc (Nat.le_refl _) _)
theorem Kx.all (h : Kx w W k S sl sp) : W.cell? ⟨w.heap.size, 0, none⟩ = some (.int .i64 k) ∧ W.cell? ⟨w.heap.size, 1, none⟩ = some (.string S) ∧ W.cell? ⟨w.heap.size, 2, none⟩ = some sl ∧ W.cell? ⟨w.heap.size, 3, none⟩ = some sp := cells4 h.box
theorem Kx.put4 (h : Kx w W k S sl sp) {b : Nat} (hb : w.heap.size + 1 < b) (a0 a1 a2 a3 : Value) : Kx w ((((W.setCell ⟨b, 0, none⟩ a0).setCell ⟨b, 1, none⟩ a1).setCell ⟨b, 2, none⟩ a2).setCell ⟨b, 3, none⟩ a3) k S sl sp :=
  ⟨(((h.bel.setCell (p := ⟨b, 0, none⟩) (by simp; omega) _).setCell (p := ⟨b, 1, none⟩) (by simp; omega) _).setCell (p := ⟨b, 2, none⟩) (by simp; omega) _).setCell (p := ⟨b, 3, none⟩) (by simp; omega) _,
    (((h.box.other (by omega) _ _).other (by omega) _ _).other (by omega) _ _).other (by omega) _ _, (((h.res.other (by omega) _ _).other (by omega) _ _).other (by omega) _ _).other (by omega) _ _⟩
end
theorem Newly.le {n m : Nat} {v : Value} (h : Newly n v) (hm : m ≤ n) : Newly m v := fun b off k c e => Nat.le_trans hm (h b off k c e)
theorem cell_other {W : World} {b g j o : Nat} {u : Value} (h : b ≠ g) : (W.setCell ⟨b, j, none⟩ u).cell? ⟨g, o, none⟩ = W.cell? ⟨g, o, none⟩ := by
  unfold World.cell?
  rw [heap_setCell_other _ _ _ _ (Ne.symm h)]
theorem StrsAt.put {W : World} {v : Value} {ps : List (List UInt8)} {n b : Nat} (h : StrsAt W v ps) (hn : Newly n v) (hb : b < n) (j : Nat) (u : Value) : StrsAt (W.setCell ⟨b, j, none⟩ u) v ps := by
  rcases h with h | ⟨hp, g, off, cap, rfl, hc⟩
  · exact .inl h
  · have := hn g off _ _ rfl
    exact .inr ⟨hp, g, off, cap, rfl, fun k hk => by rw [cell_other (by omega)]; exact hc k hk⟩
theorem PairsAt.put {W : World} {v : Value} {ps : List (List UInt8 × List UInt8)} {n b : Nat} (h : PairsAt W v ps) (hn : Newly n v) (hb : b < n) (j : Nat) (u : Value) : PairsAt (W.setCell ⟨b, j, none⟩ u) v ps := by
  rcases h with h | ⟨hp, g, off, cap, rfl, hc⟩
  · exact .inl h
  · have := hn g off _ _ rfl
    exact .inr ⟨hp, g, off, cap, rfl, fun k hk => by rw [cell_other (by omega), cell_other (by omega)]; exact hc k hk⟩
theorem canon_end {w W : World} {k : Int} {S : ByteArray} {sl sp : Value} {c : Vl} {la pa : Option Addr} {lc pc cb : Nat} (K : Kx w W k S sl sp) (_C : Bx W cb #[.int .i64 c.kind, .string ⟨c.s.toArray⟩, .slice la c.l.length lc, .slice pa c.p.length pc] 28) (_hc : w.heap.size + 1 < cb)
    (R1 : StrsAt W (.slice la c.l.length lc) c.l) (R2 : PairsAt W (.slice pa c.p.length pc) c.p) (N1 : Newly (w.heap.size + 2) (.slice la c.l.length lc)) (N2 : Newly (w.heap.size + 2) (.slice pa c.p.length pc)) :
    Bx ((((W.setCell ⟨w.heap.size + 1, 0, none⟩ (.int .i64 c.kind)).setCell ⟨w.heap.size + 1, 1, none⟩ (.string ⟨c.s.toArray⟩)).setCell ⟨w.heap.size + 1, 2, none⟩ (.slice la c.l.length lc)).setCell ⟨w.heap.size + 1, 3, none⟩ (.slice pa c.p.length pc)) (w.heap.size + 1) #[.int .i64 c.kind, .string ⟨c.s.toArray⟩, .slice la c.l.length lc, .slice pa c.p.length pc] 28 ∧
    VlPost w c (.returned (.agg #[.int .i64 c.kind, .string ⟨c.s.toArray⟩, .slice la c.l.length lc, .slice pa c.p.length pc])) ((((W.setCell ⟨w.heap.size + 1, 0, none⟩ (.int .i64 c.kind)).setCell ⟨w.heap.size + 1, 1, none⟩ (.string ⟨c.s.toArray⟩)).setCell ⟨w.heap.size + 1, 2, none⟩ (.slice la c.l.length lc)).setCell ⟨w.heap.size + 1, 3, none⟩ (.slice pa c.p.length pc)) :=
  ⟨(((K.res.put 0 _).put 1 _).put 2 _).put 3 _, la, lc, pa, pc, rfl, (((R1.put N1 (by omega) _ _).put N1 (by omega) _ _).put N1 (by omega) _ _).put N1 (by omega) _ _, (((R2.put N2 (by omega) _ _).put N2 (by omega) _ _).put N2 (by omega) _ _).put N2 (by omega) _ _,
    (((K.bel.setCell (p := ⟨_, 0, none⟩) (by simp) _).setCell (p := ⟨_, 1, none⟩) (by simp) _).setCell (p := ⟨_, 2, none⟩) (by simp) _).setCell (p := ⟨_, 3, none⟩) (by simp) _, N1.le (by omega), N2.le (by omega)⟩
theorem b_drew (W : World) : Below W.heap.size W W.drew := (Below.refl _ _).drew
theorem b_alloc (W : World) (o : Obj) : Below W.heap.size W (W.alloc o) := (Below.refl _ _).alloc (Nat.le_refl _) _
theorem b_alloc_drew (W : World) (o : Obj) : Below W.heap.size W (W.alloc o).drew := ((Below.refl _ _).alloc (Nat.le_refl _) _).drew
theorem b_drew_alloc (W : World) (o : Obj) : Below W.heap.size W (W.drew.alloc o) := ((Below.refl _ _).drew).alloc (Nat.le_refl _) _
theorem made_next {W W' : World} {cs : Array Value} {t : TypeId} (bb : Below (W.alloc (.cells cs t)).heap.size (W.alloc (.cells cs t)) W') : Bx W' W.heap.size cs t := (Bx.made W cs t).next bb
theorem made_drew_next {W W' : World} {cs : Array Value} {t : TypeId} (bb : Below (W.alloc (.cells cs t)).drew.heap.size (W.alloc (.cells cs t)).drew W') : Bx W' W.heap.size cs t := (Bx.made W cs t).drew.next bb
set_option maxRecDepth 20000 in
set_option maxHeartbeats 4000000 in
theorem rcanon_any (x : Value) (v : Vl) (w : World) (H : VlAt w x v) (hl : v.l.length ≤ 1000) (hp : v.p.length ≤ 1000) : Calls Try.prog 25 #[x] w fun e w' => VlPost w (canonV v) e w' := by
  have H0 := hide H
  obtain ⟨sl, sp, rfl, h1, h2⟩ := H
  obtain ⟨S, hS⟩ : ∃ S : ByteArray, (⟨v.s.toArray⟩ : ByteArray) = S := ⟨_, rfl⟩
  obtain ⟨k, hk⟩ : ∃ k, v.kind = k := ⟨_, rfl⟩
  rw [hS, hk] at H0 ⊢
  clear h1 h2 hS
  have K : Kx w ((w.alloc (.cells #[.int .i64 k, .string S, sl, sp] 28)).alloc (.cells #[.int .i64 0, .string ⟨#[]⟩, .slice none 0 0, .slice none 0 0] 28)) k S sl sp := by
    refine ⟨((Below.refl _ _).alloc (Nat.le_refl _) _).alloc (by simp) _, (Bx.made _ _ _).later _, ?_⟩
    have := Bx.made (w.alloc (.cells #[.int .i64 k, .string S, sl, sp] 28)) #[.int .i64 0, .string ⟨#[]⟩, .slice none 0 0, .slice none 0 0] 28
    simpa using this
  obtain ⟨ts, hts⟩ : ∃ ts, textsV v = ts := ⟨_, rfl⟩
  have hln : ts.length ≤ 2000 := by rw [← hts]; exact texts_len v hl hp
  have Hts := hide hts
  have Hk := hide hk
  clear hts hk
  go_enter Try.func25, Try.ntmps25
  go_wp2
  obtain ⟨x0, x1, x2, x3⟩ := K.all
  go_region_held3 (fun W => W.cell? ⟨w.heap.size, 0, none⟩ = some (.int .i64 k) ∧ W.cell? ⟨w.heap.size, 1, none⟩ = some (.string S) ∧ W.cell? ⟨w.heap.size, 2, none⟩ = some sl ∧ W.cell? ⟨w.heap.size, 3, none⟩ = some sp) (first | with_reducible exact K.all | with_reducible exact K.drew.all | with_reducible exact (K.alloc _).all | with_reducible exact (K.alloc _).drew.all | with_reducible exact (K.drew.alloc _).all | with_reducible exact (K.put4 (by first | omega | (simp; omega)) _ _ _ _).all | with_reducible exact ((K.alloc _).put4 (by first | omega | (simp; omega)) _ _ _ _).all)
    (first | (go_at_call 36; refine (rtexts_is _ v ts _ (by first | with_reducible exact H0.out.later K.bel | with_reducible exact H0.out.later K.drew.bel | with_reducible exact H0.out.later (K.alloc _).bel | with_reducible exact H0.out.later (K.alloc _).drew.bel | with_reducible exact H0.out.later (K.drew.alloc _).bel) hl hp Hts.out).mono ?_; rintro e w1 ⟨ta, tc, rfl, T1, bb⟩; (first | with_reducible (have C := made_next bb) | with_reducible (have C := made_drew_next bb) | skip); (try simp only [World.size_alloc] at C); have N0 := bb.size; (first | with_reducible (replace K := K.next bb) | with_reducible (replace K := K.drew.next bb) | with_reducible (replace K := (K.alloc _).next bb) | with_reducible (replace K := (K.alloc _).drew.next bb) | with_reducible (replace K := (K.drew.alloc _).next bb)); have L2 := K.res.lt; clear bb) | (go_at_call 35; refine (rof_canon v k Hk.out _ ts _ (by first | with_reducible exact T1 | with_reducible exact T1.later (b_drew _) | with_reducible exact T1.later (b_alloc _ _) | with_reducible exact T1.later (b_alloc_drew _ _) | with_reducible exact T1.later (b_drew_alloc _ _)) hln Hts.out).mono ?_; rintro e w2 ⟨la, lc, pa, pc, bo, rfl, R1, R2, N1, N2, bb⟩; (first | with_reducible (replace C := C.next bb) | with_reducible (replace C := C.drew.next bb) | with_reducible (have C := made_next bb) | with_reducible (have C := made_drew_next bb) | skip); (first | (obtain ⟨c0, c1, c2, c3⟩ := cells4 C; have f0 := C.free 0; have f1 := C.free 1; have f2 := C.free 2; have f3 := C.free 3) | skip); have L1 := K.res.lt; have N3 := bb.size; (first | with_reducible (replace K := K.next bb) | with_reducible (replace K := K.drew.next bb) | with_reducible (replace K := (K.alloc _).next bb) | with_reducible (replace K := (K.alloc _).drew.next bb) | with_reducible (replace K := (K.drew.alloc _).next bb)); have L2 := K.res.lt; clear bb))
  · have CB := Bx.made w2 #[.int .i64 (canonV v).kind, .string ⟨(canonV v).s.toArray⟩, .slice la (canonV v).l.length lc, .slice pa (canonV v).p.length pc] 28
    replace K := K.alloc (.cells #[.int .i64 (canonV v).kind, .string ⟨(canonV v).s.toArray⟩, .slice la (canonV v).l.length lc, .slice pa (canonV v).p.length pc] 28)
    replace R1 := R1.later (b_alloc w2 (.cells #[.int .i64 (canonV v).kind, .string ⟨(canonV v).s.toArray⟩, .slice la (canonV v).l.length lc, .slice pa (canonV v).p.length pc] 28))
    replace R2 := R2.later (b_alloc w2 (.cells #[.int .i64 (canonV v).kind, .string ⟨(canonV v).s.toArray⟩, .slice la (canonV v).l.length lc, .slice pa (canonV v).p.length pc] 28))
    generalize w2.alloc (.cells #[.int .i64 (canonV v).kind, .string ⟨(canonV v).s.toArray⟩, .slice la (canonV v).l.length lc, .slice pa (canonV v).p.length pc] 28) = W3 at K CB R1 R2 ⊢
    have F := canon_end K CB (by omega) R1 R2 (N1.le (by omega)) (N2.le (by omega))
    obtain ⟨c0, c1, c2, c3⟩ := cells4 CB
    have r0 := K.res.free 0
    have r1 := K.res.free 1
    have r2 := K.res.free 2
    have r3 := K.res.free 3
    obtain ⟨s0, s1, s2, s3⟩ := cells4 K.res
    have HF := hide F
    clear F CB
    go_wp2
    refine bodyPost_ret (v := .agg #[.int .i64 (canonV v).kind, .string ⟨(canonV v).s.toArray⟩, .slice la (canonV v).l.length lc, .slice pa (canonV v).p.length pc]) (results_cell_row Try.results25 _ _ (w.heap.size + 1) 28 _ (0, 0) _ rfl HF.out.1 Try.underlying28 rfl (by kernel_rfl)) rfl HF.out.2
  · have CB := (((C.put 0 (.int .i64 (canonV v).kind)).put 1 (.string ⟨(canonV v).s.toArray⟩)).put 2 (.slice la (canonV v).l.length lc)).put 3 (.slice pa (canonV v).p.length pc)
    replace K := K.put4 (b := w1.heap.size) (by first | omega | (simp; omega) | simp) (.int .i64 (canonV v).kind) (.string ⟨(canonV v).s.toArray⟩) (.slice la (canonV v).l.length lc) (.slice pa (canonV v).p.length pc)
    have F := canon_end K CB (by first | omega | (simp; omega) | simp) ((((R1.put N1 (by first | omega | (simp; omega) | simp) _ _).put N1 (by first | omega | (simp; omega) | simp) _ _).put N1 (by first | omega | (simp; omega) | simp) _ _).put N1 (by first | omega | (simp; omega) | simp) _ _) ((((R2.put N2 (by first | omega | (simp; omega) | simp) _ _).put N2 (by first | omega | (simp; omega) | simp) _ _).put N2 (by first | omega | (simp; omega) | simp) _ _).put N2 (by first | omega | (simp; omega) | simp) _ _) (N1.le (by first | omega | (simp; omega) | simp)) (N2.le (by first | omega | (simp; omega) | simp))
    obtain ⟨c0, c1, c2, c3⟩ := cells4 CB
    have r0 := K.res.free 0
    have r1 := K.res.free 1
    have r2 := K.res.free 2
    have r3 := K.res.free 3
    obtain ⟨s0, s1, s2, s3⟩ := cells4 K.res
    have HF := hide F
    clear F CB
    go_wp2
    refine bodyPost_ret (v := .agg #[.int .i64 (canonV v).kind, .string ⟨(canonV v).s.toArray⟩, .slice la (canonV v).l.length lc, .slice pa (canonV v).p.length pc]) (results_cell_row Try.results25 _ _ (w.heap.size + 1) 28 _ (0, 0) _ rfl HF.out.1 Try.underlying28 rfl (by kernel_rfl)) rfl HF.out.2
  · have CB := (((C.put 0 (.int .i64 (canonV v).kind)).put 1 (.string ⟨(canonV v).s.toArray⟩)).put 2 (.slice la (canonV v).l.length lc)).put 3 (.slice pa (canonV v).p.length pc)
    have hw1 : w.heap.size + 1 + 1 < w1.heap.size := by simp at N0; omega
    replace K := K.put4 (b := w.heap.size + 1 + 1) (by omega) (.int .i64 (canonV v).kind) (.string ⟨(canonV v).s.toArray⟩) (.slice la (canonV v).l.length lc) (.slice pa (canonV v).p.length pc)
    have F := canon_end K CB (by omega) ((((R1.put N1 (by omega) _ _).put N1 (by omega) _ _).put N1 (by omega) _ _).put N1 (by omega) _ _) ((((R2.put N2 (by omega) _ _).put N2 (by omega) _ _).put N2 (by omega) _ _).put N2 (by omega) _ _) (N1.le (by omega)) (N2.le (by omega))
    obtain ⟨c0, c1, c2, c3⟩ := cells4 CB
    have r0 := K.res.free 0
    have r1 := K.res.free 1
    have r2 := K.res.free 2
    have r3 := K.res.free 3
    obtain ⟨s0, s1, s2, s3⟩ := cells4 K.res
    have HF := hide F
    clear F CB
    go_wp2
    refine bodyPost_ret (v := .agg #[.int .i64 (canonV v).kind, .string ⟨(canonV v).s.toArray⟩, .slice la (canonV v).l.length lc, .slice pa (canonV v).p.length pc]) (results_cell_row Try.results25 _ _ (w.heap.size + 1) 28 _ (0, 0) _ rfl HF.out.1 Try.underlying28 rfl (by kernel_rfl)) rfl HF.out.2
theorem rcanon_is (x : Value) (v : Vl) (q : Int) (w : World) (H : VlAt w x v) (hl : v.l.length ≤ 1000) (hp : v.p.length ≤ 1000) (hq : (canonV v).kind = q) : Calls Try.prog 25 #[x] w fun e w' => ∃ c1 c2 c3, e = .returned (.agg #[.int .i64 q, c1, c2, c3]) ∧ Below w.heap.size w w' := by
  subst hq
  refine (rcanon_any x v w H hl hp).mono ?_
  rintro e w' ⟨la, lc, pa, pc, rfl, _, _, bb, _⟩
  exact ⟨_, _, _, rfl, bb⟩
end Go.Proofs.Ytgnccmmbpgnamaa
