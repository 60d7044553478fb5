/-
  WALKS: the program's Canon (layer 8).
-/
import Derived.Test.YtgnccmmbpgnamaaP8
namespace Go.Proofs.Ytgnccmmbpgnamaa
open Go.RowKit

theorem StrsAt.far {W : World} {v : Value} {ps : List (List UInt8)} {b : Nat} (h : StrsAt W v ps) (hp : 0 < ps.length) (hb : W.heap.size ≤ b) : Far b v := by
  intro g off n c e
  obtain ⟨b', _, _, e', hb', _⟩ := h.at 0 hp
  rw [e] at e'
  cases e'
  omega
theorem canon_endF {w W : World} {k : Int} {S : ByteArray} {sl sp : Value} {c : Vl} {la pa : Option Addr} {lc pc : Nat} (K : Kx w W k S sl sp)
    (R1 : StrsAt W (.slice la c.l.length lc) c.l) (R2 : PairsAt W (.slice pa c.p.length pc) c.p) (F1 : Far (w.heap.size + 1) (.slice la c.l.length lc)) (F2 : Far (w.heap.size + 1) (.slice pa c.p.length pc)) (N1 : Newly w.heap.size (.slice la c.l.length lc)) (N2 : Newly w.heap.size (.slice pa c.p.length pc)) :
    Bx ((((W.setCell ⟨w.heap.size + 1, 0, none⟩ (.int .i64 c.kind)).setCell ⟨w.heap.size + 1, 1, none⟩ (.string ⟨c.s.toArray⟩)).setCell ⟨w.heap.size + 1, 2, none⟩ (.slice la c.l.length lc)).setCell ⟨w.heap.size + 1, 3, none⟩ (.slice pa c.p.length pc)) (w.heap.size + 1) #[.int .i64 c.kind, .string ⟨c.s.toArray⟩, .slice la c.l.length lc, .slice pa c.p.length pc] 28 ∧ VlPost w c (.returned (.agg #[.int .i64 c.kind, .string ⟨c.s.toArray⟩, .slice la c.l.length lc, .slice pa c.p.length pc])) ((((W.setCell ⟨w.heap.size + 1, 0, none⟩ (.int .i64 c.kind)).setCell ⟨w.heap.size + 1, 1, none⟩ (.string ⟨c.s.toArray⟩)).setCell ⟨w.heap.size + 1, 2, none⟩ (.slice la c.l.length lc)).setCell ⟨w.heap.size + 1, 3, none⟩ (.slice pa c.p.length pc)) :=
  ⟨(((K.res.put 0 _).put 1 _).put 2 _).put 3 _, la, lc, pa, pc, rfl, (((R1.putF F1 _ _).putF F1 _ _).putF F1 _ _).putF F1 _ _, (((R2.putF F2 _ _).putF F2 _ _).putF F2 _ _).putF F2 _ _,
    (((K.bel.setCell (p := ⟨_, 0, none⟩) (by simp) _).setCell (p := ⟨_, 1, none⟩) (by simp) _).setCell (p := ⟨_, 2, none⟩) (by simp) _).setCell (p := ⟨_, 3, none⟩) (by simp) _, N1, N2⟩
set_option maxRecDepth 20000 in
set_option maxHeartbeats 4000000 in
theorem canon_any (x : Value) (v c : Vl) (w : World) (H : VlAt w x v) (hl : v.l.length ≤ 1000) (hp : v.p.length ≤ 1000) (hts : ∀ y ∈ textsV v, y.length ≤ 140737488355328) (hc : canonV v = c) : Calls Try.prog 28 #[x] w fun e w' => VlPost w c e w' := by
  have Hc := hide hc
  clear hc
  have H0 := hide H
  obtain ⟨sl, sp, rfl, h1, h2⟩ := H
  obtain ⟨S, hS⟩ : ∃ S : ByteArray, (⟨v.s.toArray⟩ : ByteArray) = S := ⟨_, rfl⟩
  obtain ⟨k, hk⟩ : ∃ k, v.kind = k := ⟨_, rfl⟩
  rw [hS, hk] at H0 ⊢
  clear h1 h2 hS
  have K : Kx w ((w.alloc (.cells #[.int .i64 k, .string S, sl, sp] 28)).alloc (.cells #[.int .i64 0, .string ⟨#[]⟩, .slice none 0 0, .slice none 0 0] 28)) k S sl sp := by
    refine ⟨((Below.refl _ _).alloc (Nat.le_refl _) _).alloc (by simp) _, (Bx.made _ _ _).later _, ?_⟩
    have := Bx.made (w.alloc (.cells #[.int .i64 k, .string S, sl, sp] 28)) #[.int .i64 0, .string ⟨#[]⟩, .slice none 0 0, .slice none 0 0] 28
    simpa using this
  obtain ⟨ts, hts'⟩ : ∃ ts, textsV v = ts := ⟨_, rfl⟩
  have hln : ts.length ≤ 2000 := by rw [← hts']; exact texts_len v hl hp
  have Htl := hide (show ∀ y ∈ ts, y.length ≤ 140737488355328 by rw [← hts']; exact hts)
  have Hts := hide hts'
  have Hk := hide hk
  have Htv := hide hts
  clear hts hts' hk
  go_enter Try.func28, Try.ntmps28
  go_wp2
  obtain ⟨x0, x1, x2, x3⟩ := K.all
  go_region_held3 (fun W => W.cell? ⟨w.heap.size, 0, none⟩ = some (.int .i64 k) ∧ W.cell? ⟨w.heap.size, 1, none⟩ = some (.string S) ∧ W.cell? ⟨w.heap.size, 2, none⟩ = some sl ∧ W.cell? ⟨w.heap.size, 3, none⟩ = some sp) (first | with_reducible exact K.all | with_reducible exact K.drew.all | with_reducible exact (K.alloc _).all | with_reducible exact (K.alloc _).drew.all | with_reducible exact (K.drew.alloc _).all | with_reducible exact (K.put4 (by first | omega | (simp; omega)) _ _ _ _).all | with_reducible exact ((K.alloc _).put4 (by first | omega | (simp; omega)) _ _ _ _).all)
    (first | (go_at_call 38; refine (texts_any' _ v ts _ (by first | with_reducible exact H0.out.later K.bel | with_reducible exact H0.out.later K.drew.bel | with_reducible exact H0.out.later (K.alloc _).bel | with_reducible exact H0.out.later (K.alloc _).drew.bel | with_reducible exact H0.out.later (K.drew.alloc _).bel) (by omega) (by omega) Htv.out Hts.out).mono ?_; rintro e w1 ⟨ta, tc, rfl, T1, NT, bb⟩; (first | with_reducible (have C := made_next bb) | with_reducible (have C := made_drew_next bb) | skip); (try simp only [World.size_alloc] at C); have N0 := bb.size; (first | with_reducible (replace K := K.next bb) | with_reducible (replace K := K.drew.next bb) | with_reducible (replace K := (K.alloc _).next bb) | with_reducible (replace K := (K.alloc _).drew.next bb) | with_reducible (replace K := (K.drew.alloc _).next bb)); have L2 := K.res.lt; clear bb) | (go_at_call 37; refine (made_canon v k Hk.out c Hc.out _ _ ts _ (by first | with_reducible exact T1 | with_reducible exact T1.later (b_drew _) | with_reducible exact T1.later (b_alloc _ _) | with_reducible exact T1.later (b_alloc_drew _ _) | with_reducible exact T1.later (b_drew_alloc _ _)) (by omega) Htl.out Hts.out).mono ?_; rintro e w2 ⟨la, lc, pa, pc, bo, rfl, R1, R2, FF, bb⟩; have N9 := bb.size; (first | with_reducible (replace C := C.next bb) | with_reducible (replace C := C.drew.next bb) | with_reducible (have C := made_next bb) | with_reducible (have C := made_drew_next bb) | skip); (first | (obtain ⟨c0, c1, c2, c3⟩ := cells4 C; have f0 := C.free 0; have f1 := C.free 1; have f2 := C.free 2; have f3 := C.free 3) | skip); have L1 := K.res.lt; have N3 := bb.size; (first | with_reducible (replace K := K.next bb) | with_reducible (replace K := K.drew.next bb) | with_reducible (replace K := (K.alloc _).next bb) | with_reducible (replace K := (K.alloc _).drew.next bb) | with_reducible (replace K := (K.drew.alloc _).next bb)); have L2 := K.res.lt; clear bb))
  · have N0' : w.heap.size + 2 ≤ w1.heap.size := by simp at N0; omega
    obtain ⟨F1, F2⟩ := FF (w.heap.size + 1) (by first | omega | (simp; omega) | simp) (fun _ => NT.far (by first | omega | (simp; omega) | simp))
    have M1 := newly_of_far (n := w.heap.size) (fun b hb => (FF b (by first | omega | (simp; omega) | simp) (fun _ => NT.far (by first | omega | (simp; omega) | simp))).1)
    have M2 := newly_of_far (n := w.heap.size) (fun b hb => (FF b (by first | omega | (simp; omega) | simp) (fun _ => NT.far (by first | omega | (simp; omega) | simp))).2)
    have CB := Bx.made w2 #[.int .i64 c.kind, .string ⟨c.s.toArray⟩, .slice la c.l.length lc, .slice pa c.p.length pc] 28
    replace K := K.alloc (.cells #[.int .i64 c.kind, .string ⟨c.s.toArray⟩, .slice la c.l.length lc, .slice pa c.p.length pc] 28)
    replace R1 := R1.later (b_alloc w2 (.cells #[.int .i64 c.kind, .string ⟨c.s.toArray⟩, .slice la c.l.length lc, .slice pa c.p.length pc] 28))
    replace R2 := R2.later (b_alloc w2 (.cells #[.int .i64 c.kind, .string ⟨c.s.toArray⟩, .slice la c.l.length lc, .slice pa c.p.length pc] 28))
    generalize w2.alloc (.cells #[.int .i64 c.kind, .string ⟨c.s.toArray⟩, .slice la c.l.length lc, .slice pa c.p.length pc] 28) = W3 at K CB R1 R2 ⊢
    have F := canon_endF K R1 R2 F1 F2 M1 M2
    obtain ⟨c0, c1, c2, c3⟩ := cells4 CB
    have r0 := K.res.free 0
    have r1 := K.res.free 1
    have r2 := K.res.free 2
    have r3 := K.res.free 3
    obtain ⟨s0, s1, s2, s3⟩ := cells4 K.res
    have HF := hide F
    clear F CB
    go_wp2
    refine bodyPost_ret (v := .agg #[.int .i64 c.kind, .string ⟨c.s.toArray⟩, .slice la c.l.length lc, .slice pa c.p.length pc]) (results_cell_row Try.results28 _ _ (w.heap.size + 1) 28 _ (0, 0) _ rfl HF.out.1 Try.underlying28 rfl (by kernel_rfl)) rfl HF.out.2
  · have N0' : w.heap.size + 2 ≤ w1.heap.size := by simp at N0; omega
    obtain ⟨F1, F2⟩ := FF (w.heap.size + 1) (by first | omega | (simp; omega) | simp) (fun _ => NT.far (by first | omega | (simp; omega) | simp))
    have M1 := newly_of_far (n := w.heap.size) (fun b hb => (FF b (by first | omega | (simp; omega) | simp) (fun _ => NT.far (by first | omega | (simp; omega) | simp))).1)
    have M2 := newly_of_far (n := w.heap.size) (fun b hb => (FF b (by first | omega | (simp; omega) | simp) (fun _ => NT.far (by first | omega | (simp; omega) | simp))).2)
    obtain ⟨E1, E2⟩ := FF w1.heap.size (by first | omega | (simp; omega) | simp) (fun h => T1.far h (Nat.le_refl _))
    have CB := (((C.put 0 (.int .i64 c.kind)).put 1 (.string ⟨c.s.toArray⟩)).put 2 (.slice la c.l.length lc)).put 3 (.slice pa c.p.length pc)
    replace K := K.put4 (b := w1.heap.size) (by first | omega | (simp; omega) | simp) (.int .i64 c.kind) (.string ⟨c.s.toArray⟩) (.slice la c.l.length lc) (.slice pa c.p.length pc)
    have F := canon_endF K ((((R1.putF E1 _ _).putF E1 _ _).putF E1 _ _).putF E1 _ _) ((((R2.putF E2 _ _).putF E2 _ _).putF E2 _ _).putF E2 _ _) F1 F2 M1 M2
    obtain ⟨c0, c1, c2, c3⟩ := cells4 CB
    have r0 := K.res.free 0
    have r1 := K.res.free 1
    have r2 := K.res.free 2
    have r3 := K.res.free 3
    obtain ⟨s0, s1, s2, s3⟩ := cells4 K.res
    have HF := hide F
    clear F CB
    go_wp2
    refine bodyPost_ret (v := .agg #[.int .i64 c.kind, .string ⟨c.s.toArray⟩, .slice la c.l.length lc, .slice pa c.p.length pc]) (results_cell_row Try.results28 _ _ (w.heap.size + 1) 28 _ (0, 0) _ rfl HF.out.1 Try.underlying28 rfl (by kernel_rfl)) rfl HF.out.2
  · have hw1 : w.heap.size + 1 + 1 < w1.heap.size := by simp at N0; omega
    obtain ⟨F1, F2⟩ := FF (w.heap.size + 1) (by first | omega | (simp; omega) | simp) (fun _ => NT.far (by first | omega | (simp; omega) | simp))
    have M1 := newly_of_far (n := w.heap.size) (fun b hb => (FF b (by first | omega | (simp; omega) | simp) (fun _ => NT.far (by first | omega | (simp; omega) | simp))).1)
    have M2 := newly_of_far (n := w.heap.size) (fun b hb => (FF b (by first | omega | (simp; omega) | simp) (fun _ => NT.far (by first | omega | (simp; omega) | simp))).2)
    obtain ⟨E1, E2⟩ := FF (w.heap.size + 1 + 1) (by first | omega | (simp; omega) | simp) (fun _ => NT.far (by first | omega | (simp; omega) | simp))
    have CB := (((C.put 0 (.int .i64 c.kind)).put 1 (.string ⟨c.s.toArray⟩)).put 2 (.slice la c.l.length lc)).put 3 (.slice pa c.p.length pc)
    replace K := K.put4 (b := w.heap.size + 1 + 1) (by omega) (.int .i64 c.kind) (.string ⟨c.s.toArray⟩) (.slice la c.l.length lc) (.slice pa c.p.length pc)
    have F := canon_endF K ((((R1.putF E1 _ _).putF E1 _ _).putF E1 _ _).putF E1 _ _) ((((R2.putF E2 _ _).putF E2 _ _).putF E2 _ _).putF E2 _ _) F1 F2 M1 M2
    obtain ⟨c0, c1, c2, c3⟩ := cells4 CB
    have r0 := K.res.free 0
    have r1 := K.res.free 1
    have r2 := K.res.free 2
    have r3 := K.res.free 3
    obtain ⟨s0, s1, s2, s3⟩ := cells4 K.res
    have HF := hide F
    clear F CB
    go_wp2
    refine bodyPost_ret (v := .agg #[.int .i64 c.kind, .string ⟨c.s.toArray⟩, .slice la c.l.length lc, .slice pa c.p.length pc]) (results_cell_row Try.results28 _ _ (w.heap.size + 1) 28 _ (0, 0) _ rfl HF.out.1 Try.underlying28 rfl (by kernel_rfl)) rfl HF.out.2
end Go.Proofs.Ytgnccmmbpgnamaa
