/-
  WALKS: the law ValueCanon (layer 8).
-/
import Derived.Test.YtikhggdigndhoaaL3
import Derived.Test.YtikhggdigndhoaaL5
namespace Go.Proofs.Ytikhggdigndhoaa
open Go.RowKit

theorem of_canon (v : Vl) (k : Int) (hk : v.kind = k) (c : Vl) (hc : canonV v = c) (d : Bool) (hd : definedV v = d) (ua : Option Addr) (uc : Nat) (l : List (List UInt8)) (w : World) (H : StrsAt w (.slice ua l.length uc) l) (hl : l.length ≤ 100000) (hts : ∀ y ∈ l, y.length ≤ 140737488355328) (e : textsV v = l) :
    Calls Try.prog 24 #[.int .i64 k, .slice ua l.length uc] w fun e w' => ∃ la lc pa pc, e = .returned (.tuple #[.agg #[.int .i64 c.kind, .string ⟨c.s.toArray⟩, .slice la c.l.length lc, .slice pa c.p.length pc], .bool d]) ∧ StrsAt w' (.slice la c.l.length lc) c.l ∧ PairsAt w' (.slice pa c.p.length pc) c.p ∧ Newly w.heap.size (.slice la c.l.length lc) ∧ Newly w.heap.size (.slice pa c.p.length pc) ∧ Below w.heap.size w w' := by
  subst e hk hc hd
  refine (of_any v.kind ua uc (textsV v) w H hl hts).mono ?_
  rintro e w' ⟨hB, he⟩
  have hd := of_defined v
  unfold canonV
  cases ho : ofV v.kind (textsV v) with
  | none =>
    rw [ho] at he hd
    subst he
    rw [← hd]
    exact ⟨none, 0, none, 0, rfl, .inl ⟨rfl, _, _, rfl⟩, .inl ⟨rfl, _, _, rfl⟩, Newly.none _ _ _, Newly.none _ _ _, hB⟩
  | some c =>
    rw [ho] at he hd
    obtain ⟨x, rfl, ⟨sl, sp, rfl, h1, h2⟩, _, _, _, _, e, n1, n2⟩ := he
    cases e
    obtain ⟨la, lc, rfl⟩ := h1.form
    obtain ⟨pa, pc, rfl⟩ := h2.form
    rw [← hd]
    exact ⟨la, lc, pa, pc, rfl, h1, h2, n1, n2, hB⟩
theorem below_put4 {n : Nat} {W0 W : World} (h : Below n W0 W) {b : Nat} (hb : n ≤ b) (a0 a1 a2 a3 : Value) : Below n W0 ((((W.setCell ⟨b, 0, none⟩ a0).setCell ⟨b, 1, none⟩ a1).setCell ⟨b, 2, none⟩ a2).setCell ⟨b, 3, none⟩ a3) :=
  (((h.setCell (p := ⟨b, 0, none⟩) hb _).setCell (p := ⟨b, 1, none⟩) hb _).setCell (p := ⟨b, 2, none⟩) hb _).setCell (p := ⟨b, 3, none⟩) hb _
/-- three values' boxes -/
structure Fx (w W : World) (bc bw : Nat) (cv cc cw : Array Value) (a c : Vl) : Prop where
  bel : Below w.heap.size w W
  fst : Bx W w.heap.size cv 25
  snd : Bx W bc cc 25
  thd : Bx W bw cw 25
  va : VlAt W (.agg cv) a
  vc : VlAt W (.agg cc) c
  vw : VlAt W (.agg cw) c
section
variable {w W W' : World} {bc bw : Nat} {cv cc cw : Array Value} {a c : Vl}
theorem Fx.next (h : Fx w W bc bw cv cc cw a c) (k : Below W.heap.size W W') : Fx w W' bc bw cv cc cw a c := ⟨h.bel.trans (k.mono h.bel.size), h.fst.next k, h.snd.next k, h.thd.next k, h.va.later k, h.vc.later k, h.vw.later k⟩
theorem Fx.drew (h : Fx w W bc bw cv cc cw a c) : Fx w W.drew bc bw cv cc cw a c := ⟨h.bel.drew, h.fst, h.snd, h.thd, h.va.later (b_drew _), h.vc.later (b_drew _), h.vw.later (b_drew _)⟩
theorem Fx.all {x0 x1 x2 x3 y0 y1 y2 y3 z0 z1 z2 z3 : Value} (h : Fx w W bc bw #[x0, x1, x2, x3] #[y0, y1, y2, y3] #[z0, z1, z2, z3] a c) : W.cell? ⟨w.heap.size, 0, none⟩ = some x0 ∧ W.cell? ⟨w.heap.size, 1, none⟩ = some x1 ∧ W.cell? ⟨w.heap.size, 2, none⟩ = some x2 ∧ W.cell? ⟨w.heap.size, 3, none⟩ = some x3 ∧ W.cell? ⟨bc, 0, none⟩ = some y0 ∧ W.cell? ⟨bc, 1, none⟩ = some y1 ∧ W.cell? ⟨bc, 2, none⟩ = some y2 ∧ W.cell? ⟨bc, 3, none⟩ = some y3 ∧
    W.cell? ⟨bw, 0, none⟩ = some z0 ∧ W.cell? ⟨bw, 1, none⟩ = some z1 ∧ W.cell? ⟨bw, 2, none⟩ = some z2 ∧ W.cell? ⟨bw, 3, none⟩ = some z3 := by
  obtain ⟨a0, a1, a2, a3⟩ := cells4 h.fst
  obtain ⟨b0, b1, b2, b3⟩ := cells4 h.snd
  obtain ⟨c0, c1, c2, c3⟩ := cells4 h.thd
  exact ⟨a0, a1, a2, a3, b0, b1, b2, b3, c0, c1, c2, c3⟩
end
set_option maxRecDepth 20000 in
set_option maxHeartbeats 16000000 in
theorem canon_walk (xa : Value) (a : Vl) (w : World) (HA : VlAt w xa a) (WA : WideV a) :
    Calls Try.prog 5 #[xa] w fun e w' => e = .returned (.bool true) ∧ Below w.heap.size w w' := by
  have GA := hide HA
  obtain ⟨al, ap, rfl, _, _⟩ := HA
  obtain ⟨SA, hSA⟩ : ∃ S : ByteArray, (⟨a.s.toArray⟩ : ByteArray) = S := ⟨_, rfl⟩
  obtain ⟨ka, hka⟩ : ∃ k, a.kind = k := ⟨_, rfl⟩
  rw [hSA, hka] at GA ⊢
  have Hka := hide hka
  have E : Ex w (w.alloc (.cells #[.int .i64 ka, .string SA, al, ap] 25)) w.heap.size #[.int .i64 ka, .string SA, al, ap] a := ⟨b_alloc _ _, Bx.made _ _ _, GA.out.later (b_alloc _ _)⟩
  clear hSA hka
  obtain ⟨W0, hW0⟩ : ∃ W0, w.alloc (.cells #[.int .i64 ka, .string SA, al, ap] 25) = W0 := ⟨_, rfl⟩
  rw [hW0] at E
  have Q2 : Hid True := hide trivial
  have Q3 : Hid True := hide trivial
  have Q4 : Hid True := hide trivial
  have Q5 : Hid True := hide trivial
  cases fa : fewV a with
  | false =>
    have Fa := hide fa
    clear fa
    go_enter Try.func5, Try.ntmps5
    go_wp2_with (first | (go_at_call 9; refine (awake_any _).mono ?_; rintro e w1 ⟨rfl, bb⟩; replace E := E.next bb; clear bb; obtain ⟨x0, x1, x2, x3⟩ := cells4 E.box) | (go_at_call 10; refine (few_w _ a false _ E.val WA Fa.out).mono ?_; rintro e w2 ⟨rfl, bb⟩; replace E := E.next bb; clear bb))
    all_goals
      go_ret
      exact ⟨rfl, E.bel⟩
  | true =>
    have Fa := hide fa
    have FA := few_of fa
    clear fa
    have hpa : a.p.length ≤ 1000000 := by have := FA.p; omega
    have hla5 : a.l.length ≤ 100000 := by have := FA.l; omega
    have hpa5 : a.p.length ≤ 100000 := by have := FA.p; omega
    have hla1 : a.l.length ≤ 1000 := by have := FA.l; omega
    have hpa1 : a.p.length ≤ 1000 := by have := FA.p; omega
    obtain ⟨ts, hts⟩ : ∃ ts, textsV a = ts := ⟨_, rfl⟩
    have hnt5 : ts.length ≤ 100000 := by rw [← hts]; exact Nat.le_trans (texts_len a hla1 hpa1) (by omega)
    have Htl : Hid (∀ y ∈ ts, y.length ≤ 140737488355328) := by rw [← hts]; exact hide FA.t4
    obtain ⟨dd, hd⟩ : ∃ d, definedV a = d := ⟨_, rfl⟩
    obtain ⟨vb, hvb⟩ : ∃ b, validV a = b := ⟨_, rfl⟩
    obtain ⟨cl1, cl2, _⟩ := canon_lens a
    have Hs : Hid (sameV a (canonV a) = true) := hide (same_canon a)
    have Hcc : Hid (canonV (canonV a) = canonV a) := hide (canon_canon a)
    have Hdc : Hid (definedV (canonV a) = dd) := by rw [← hd]; exact hide (defined_canon a)
    have Hvc : Hid (validV (canonV a) = vb) := by rw [← hvb]; unfold validV; rw [texts_canon]; exact hide rfl
    have FC : FewV (canonV a) := ⟨by have := FA.l; omega, by have := FA.p; omega, by rw [texts_canon]; exact FA.ts⟩
    obtain ⟨ca, hca⟩ : ∃ c, canonV a = c := ⟨_, rfl⟩
    rw [hca] at Hs Hcc Hdc Hvc FC
    have hlc : ca.l.length ≤ 1000000 := by have := FC.l; omega
    have hpc : ca.p.length ≤ 1000000 := by have := FC.p; omega
    have hpc6 : ca.p.length ≤ 1000000 := hpc
    have hlc5 : ca.l.length ≤ 100000 := by have := FC.l; omega
    have hpc5 : ca.p.length ≤ 100000 := by have := FC.p; omega
    have hlc1 : ca.l.length ≤ 1000 := by have := FC.l; omega
    have hpc1 : ca.p.length ≤ 1000 := by have := FC.p; omega
    have Ht := hide hts
    have Hdd := hide hd
    have Hv := hide hvb
    have Hc := hide hca
    clear hts hd hvb hca cl1 cl2
    go_enter Try.func5, Try.ntmps5
    go_wp2_with (first | (go_at_call 9; refine (awake_any _).mono ?_; rintro e w1 ⟨rfl, bb⟩; replace E := E.next bb; clear bb; obtain ⟨x0, x1, x2, x3⟩ := cells4 E.box) | (go_at_call 10; refine (few_w _ a true _ E.val WA Fa.out).mono ?_; rintro e w2 ⟨rfl, bb⟩; replace E := E.next bb; clear bb; obtain ⟨x0, x1, x2, x3⟩ := cells4 E.box) | (go_at_call 16; refine (canon_any _ a ca _ E.val hla1 hpa1 FA.t4 Hc.out).mono ?_; rintro e w3 ⟨la, lc, pa, pc, rfl, R1, R2, bb⟩; replace E := E.next bb; clear bb))
    have U : Dx w (w3.alloc (.cells #[.int .i64 ca.kind, .string ⟨ca.s.toArray⟩, .slice la ca.l.length lc, .slice pa ca.p.length pc] 25)) w3.heap.size #[.int .i64 ka, .string SA, al, ap] #[.int .i64 ca.kind, .string ⟨ca.s.toArray⟩, .slice la ca.l.length lc, .slice pa ca.p.length pc] a ca :=
      ⟨E.bel.alloc E.bel.size _, E.box.later _, Bx.made _ _ _, E.val.later (b_alloc _ _), (VlAt.mk R1 R2).later (b_alloc _ _)⟩
    have hbc : w3.heap.size < (w3.alloc (.cells #[.int .i64 ca.kind, .string ⟨ca.s.toArray⟩, .slice la ca.l.length lc, .slice pa ca.p.length pc] 25)).heap.size := by simp
    clear x0 x1 x2 x3 R1 R2 E
    generalize w3.heap.size = bc at U hbc ⊢
    generalize w3.alloc (.cells #[.int .i64 ca.kind, .string ⟨ca.s.toArray⟩, .slice la ca.l.length lc, .slice pa ca.p.length pc] 25) = W3 at U hbc ⊢
    have K := Below.refl W3.heap.size W3
    have hw3 := U.bel.size
    have hwv := U.fst.lt
    go_region_held3 (fun W => W.cell? ⟨w.heap.size, 0, none⟩ = some (.int .i64 ka) ∧ W.cell? ⟨w.heap.size, 1, none⟩ = some (.string SA) ∧ W.cell? ⟨w.heap.size, 2, none⟩ = some (al) ∧ W.cell? ⟨w.heap.size, 3, none⟩ = some (ap) ∧ W.cell? ⟨bc, 0, none⟩ = some (.int .i64 ca.kind) ∧ W.cell? ⟨bc, 1, none⟩ = some (.string ⟨ca.s.toArray⟩) ∧ W.cell? ⟨bc, 2, none⟩ = some (.slice la ca.l.length lc) ∧ W.cell? ⟨bc, 3, none⟩ = some (.slice pa ca.p.length pc)) (first | with_reducible exact (U.next K).all | with_reducible exact (U.next K.drew).all | with_reducible exact (U.next (K.alloc K.size _)).all | with_reducible exact (U.next (K.alloc K.size _).drew).all | with_reducible exact (U.next (K.drew.alloc K.drew.size _)).all | with_reducible exact (U.next (below_put4 K (by first | omega | (simp; omega)) _ _ _ _)).all) (first | (go_at_call 14; refine (texts_any' _ a ts _ (by first | with_reducible exact (U.next K).va | with_reducible exact (U.next K.drew).va | with_reducible exact (U.next (K.alloc K.size _)).va | with_reducible exact (U.next (K.alloc K.size _).drew).va | with_reducible exact (U.next (K.drew.alloc K.drew.size _)).va) hla5 hpa5 FA.t4 Ht.out).mono ?_; rintro e w4 ⟨ta, tc, rfl, TA, NT, bb⟩; (first | with_reducible (have C := made_next bb) | with_reducible (have C := made_drew_next bb) | skip); (try simp only [World.size_alloc] at C); have M0 := bb.size; (first | with_reducible (replace K := (K).trans (bb.mono (K).size)) | with_reducible (replace K := (K.drew).trans (bb.mono (K.drew).size)) | with_reducible (replace K := ((K.alloc K.size _)).trans (bb.mono ((K.alloc K.size _)).size)) | with_reducible (replace K := ((K.alloc K.size _).drew).trans (bb.mono ((K.alloc K.size _).drew).size)) | with_reducible (replace K := ((K.drew.alloc K.drew.size _)).trans (bb.mono ((K.drew.alloc K.drew.size _)).size))); have M1 := K.size; clear bb) | (go_at_call 24; refine (of_canon a ka Hka.out ca Hc.out dd Hdd.out _ _ ts _ (by first | with_reducible exact TA | with_reducible exact TA.later (b_drew _) | with_reducible exact TA.later (b_alloc _ _) | with_reducible exact TA.later (b_alloc_drew _ _) | with_reducible exact TA.later (b_drew_alloc _ _)) hnt5 Htl.out Ht.out).mono ?_; rintro e w5 ⟨ma, mc, na, nc, rfl, R3, R4, N1, N2, bb⟩; have M9 := bb.size; (first | with_reducible (replace C := C.next bb) | with_reducible (replace C := C.drew.next bb) | with_reducible (have C := made_next bb) | with_reducible (have C := made_drew_next bb) | skip); (first | (obtain ⟨c0, c1, c2, c3⟩ := cells4 C; have f0 := C.free 0; have f1 := C.free 1; have f2 := C.free 2; have f3 := C.free 3) | skip); (first | with_reducible (replace K := (K).trans (bb.mono (K).size)) | with_reducible (replace K := (K.drew).trans (bb.mono (K.drew).size)) | with_reducible (replace K := ((K.alloc K.size _)).trans (bb.mono ((K.alloc K.size _)).size)) | with_reducible (replace K := ((K.alloc K.size _).drew).trans (bb.mono ((K.alloc K.size _).drew).size)) | with_reducible (replace K := ((K.drew.alloc K.drew.size _)).trans (bb.mono ((K.drew.alloc K.drew.size _)).size))); have M2 := K.size; clear bb))
    · have F : Fx w (w5.alloc (.cells #[.int .i64 ca.kind, .string ⟨ca.s.toArray⟩, .slice ma ca.l.length mc, .slice na ca.p.length nc] 25)) bc w5.heap.size #[.int .i64 ka, .string SA, al, ap] #[.int .i64 ca.kind, .string ⟨ca.s.toArray⟩, .slice la ca.l.length lc, .slice pa ca.p.length pc] #[.int .i64 ca.kind, .string ⟨ca.s.toArray⟩, .slice ma ca.l.length mc, .slice na ca.p.length nc] a ca :=
        ⟨(U.next (K.alloc K.size _)).bel, (U.next (K.alloc K.size _)).fst, (U.next (K.alloc K.size _)).snd, Bx.made _ _ _, (U.next (K.alloc K.size _)).va, (U.next (K.alloc K.size _)).vx, (VlAt.mk R3 R4).later (b_alloc _ _)⟩
      go_wp2
      generalize w5.heap.size = bw at F ⊢
      generalize w5.alloc (.cells #[.int .i64 ca.kind, .string ⟨ca.s.toArray⟩, .slice ma ca.l.length mc, .slice na ca.p.length nc] 25) = W6 at F ⊢
      go_region_held3 (fun W => W.cell? ⟨w.heap.size, 0, none⟩ = some (.int .i64 ka) ∧ W.cell? ⟨w.heap.size, 1, none⟩ = some (.string SA) ∧ W.cell? ⟨w.heap.size, 2, none⟩ = some (al) ∧ W.cell? ⟨w.heap.size, 3, none⟩ = some (ap) ∧ W.cell? ⟨bc, 0, none⟩ = some (.int .i64 ca.kind) ∧ W.cell? ⟨bc, 1, none⟩ = some (.string ⟨ca.s.toArray⟩) ∧ W.cell? ⟨bc, 2, none⟩ = some (.slice la ca.l.length lc) ∧ W.cell? ⟨bc, 3, none⟩ = some (.slice pa ca.p.length pc) ∧ W.cell? ⟨bw, 0, none⟩ = some (.int .i64 ca.kind) ∧ W.cell? ⟨bw, 1, none⟩ = some (.string ⟨ca.s.toArray⟩) ∧ W.cell? ⟨bw, 2, none⟩ = some (.slice ma ca.l.length mc) ∧ W.cell? ⟨bw, 3, none⟩ = some (.slice na ca.p.length nc)) (first | with_reducible exact F.all | with_reducible exact F.drew.all) (first | (go_at_call 16; refine (canon_any _ ca ca _ (by first | with_reducible exact F.vc | with_reducible exact F.drew.vc) hlc1 hpc1 FC.t4 Hcc.out).mono ?_; rintro e w6 ⟨xa, xc, ya, yc, rfl, R1, R2, bb⟩; have VX := VlAt.mk R1 R2; clear R1 R2; (first | with_reducible (replace F := F.next bb) | with_reducible (replace F := F.drew.next bb)); clear bb) | (go_at_call 15; have zz := Q2; clear zz Q2; refine (very_is _ _ ca _ (by with_reducible exact VX) (by first | with_reducible exact F.vc | with_reducible exact F.drew.vc) hlc hpc).mono ?_; rintro e w6 ⟨rfl, bb⟩; (first | with_reducible (replace F := F.next bb) | with_reducible (replace F := F.drew.next bb)); clear bb) | (go_at_call 15; refine (very_is _ _ ca _ (by first | with_reducible exact F.vw | with_reducible exact F.drew.vw) (by first | with_reducible exact F.vc | with_reducible exact F.drew.vc) hlc hpc).mono ?_; rintro e w6 ⟨rfl, bb⟩; (first | with_reducible (replace F := F.next bb) | with_reducible (replace F := F.drew.next bb)); clear bb) | (go_at_call 22; refine (same_few _ _ a ca true _ (by first | with_reducible exact F.va | with_reducible exact F.drew.va) (by first | with_reducible exact F.vc | with_reducible exact F.drew.vc) FA FC Hs.out).mono ?_; rintro e w6 ⟨rfl, bb⟩; (first | with_reducible (replace F := F.next bb) | with_reducible (replace F := F.drew.next bb)); clear bb) | (go_at_call 12; have zz := Q3; clear zz Q3; refine (defined_any _ a dd _ (by first | with_reducible exact F.va | with_reducible exact F.drew.va) hpa Hdd.out).mono ?_; rintro e w6 ⟨rfl, bb⟩; (first | with_reducible (replace F := F.next bb) | with_reducible (replace F := F.drew.next bb)); clear bb) | (go_at_call 12; have zz := Q4; clear zz Q4; refine (defined_any _ ca dd _ (by first | with_reducible exact F.vc | with_reducible exact F.drew.vc) hpc6 Hdc.out).mono ?_; rintro e w6 ⟨rfl, bb⟩; (first | with_reducible (replace F := F.next bb) | with_reducible (replace F := F.drew.next bb)); clear bb) | (go_at_call 12; refine (defined_any _ a dd _ (by first | with_reducible exact F.va | with_reducible exact F.drew.va) hpa Hdd.out).mono ?_; rintro e w6 ⟨rfl, bb⟩; (first | with_reducible (replace F := F.next bb) | with_reducible (replace F := F.drew.next bb)); clear bb) | (go_at_call 18; have zz := Q5; clear zz Q5; refine (pvalid_any _ ca vb _ (by first | with_reducible exact F.vc | with_reducible exact F.drew.vc) hlc5 hpc5 FC.t4 Hvc.out).mono ?_; rintro e w6 ⟨rfl, bb⟩; (first | with_reducible (replace F := F.next bb) | with_reducible (replace F := F.drew.next bb)); clear bb) | (go_at_call 18; refine (pvalid_any _ a vb _ (by first | with_reducible exact F.va | with_reducible exact F.drew.va) hla5 hpa5 FA.t4 Hv.out).mono ?_; rintro e w6 ⟨rfl, bb⟩; (first | with_reducible (replace F := F.next bb) | with_reducible (replace F := F.drew.next bb)); clear bb))
      all_goals go_wp2
      all_goals
        go_ret
        exact ⟨ret_bool (by first | rfl | simp), F.bel⟩
    · have K6 := below_put4 K (b := w4.heap.size) M1 (.int .i64 ca.kind) (.string ⟨ca.s.toArray⟩) (.slice ma ca.l.length mc) (.slice na ca.p.length nc)
      have F : Fx w ((((w5.setCell ⟨w4.heap.size, 0, none⟩ (.int .i64 ca.kind)).setCell ⟨w4.heap.size, 1, none⟩ (.string ⟨ca.s.toArray⟩)).setCell ⟨w4.heap.size, 2, none⟩ (.slice ma ca.l.length mc)).setCell ⟨w4.heap.size, 3, none⟩ (.slice na ca.p.length nc)) bc w4.heap.size #[.int .i64 ka, .string SA, al, ap] #[.int .i64 ca.kind, .string ⟨ca.s.toArray⟩, .slice la ca.l.length lc, .slice pa ca.p.length pc] #[.int .i64 ca.kind, .string ⟨ca.s.toArray⟩, .slice ma ca.l.length mc, .slice na ca.p.length nc] a ca :=
        ⟨(U.next K6).bel, (U.next K6).fst, (U.next K6).snd, (((C.put 0 _).put 1 _).put 2 _).put 3 _, (U.next K6).va, (U.next K6).vx, VlAt.mk ((((R3.put N1 (by first | omega | (simp; omega) | simp) _ _).put N1 (by first | omega | (simp; omega) | simp) _ _).put N1 (by first | omega | (simp; omega) | simp) _ _).put N1 (by first | omega | (simp; omega) | simp) _ _) ((((R4.put N2 (by first | omega | (simp; omega) | simp) _ _).put N2 (by first | omega | (simp; omega) | simp) _ _).put N2 (by first | omega | (simp; omega) | simp) _ _).put N2 (by first | omega | (simp; omega) | simp) _ _)⟩
      go_wp2
      generalize w4.heap.size = bw at F ⊢
      generalize ((((w5.setCell ⟨bw, 0, none⟩ (.int .i64 ca.kind)).setCell ⟨bw, 1, none⟩ (.string ⟨ca.s.toArray⟩)).setCell ⟨bw, 2, none⟩ (.slice ma ca.l.length mc)).setCell ⟨bw, 3, none⟩ (.slice na ca.p.length nc)) = W6 at F ⊢
      go_region_held3 (fun W => W.cell? ⟨w.heap.size, 0, none⟩ = some (.int .i64 ka) ∧ W.cell? ⟨w.heap.size, 1, none⟩ = some (.string SA) ∧ W.cell? ⟨w.heap.size, 2, none⟩ = some (al) ∧ W.cell? ⟨w.heap.size, 3, none⟩ = some (ap) ∧ W.cell? ⟨bc, 0, none⟩ = some (.int .i64 ca.kind) ∧ W.cell? ⟨bc, 1, none⟩ = some (.string ⟨ca.s.toArray⟩) ∧ W.cell? ⟨bc, 2, none⟩ = some (.slice la ca.l.length lc) ∧ W.cell? ⟨bc, 3, none⟩ = some (.slice pa ca.p.length pc) ∧ W.cell? ⟨bw, 0, none⟩ = some (.int .i64 ca.kind) ∧ W.cell? ⟨bw, 1, none⟩ = some (.string ⟨ca.s.toArray⟩) ∧ W.cell? ⟨bw, 2, none⟩ = some (.slice ma ca.l.length mc) ∧ W.cell? ⟨bw, 3, none⟩ = some (.slice na ca.p.length nc)) (first | with_reducible exact F.all | with_reducible exact F.drew.all) (first | (go_at_call 16; refine (canon_any _ ca ca _ (by first | with_reducible exact F.vc | with_reducible exact F.drew.vc) hlc1 hpc1 FC.t4 Hcc.out).mono ?_; rintro e w6 ⟨xa, xc, ya, yc, rfl, R1, R2, bb⟩; have VX := VlAt.mk R1 R2; clear R1 R2; (first | with_reducible (replace F := F.next bb) | with_reducible (replace F := F.drew.next bb)); clear bb) | (go_at_call 15; have zz := Q2; clear zz Q2; refine (very_is _ _ ca _ (by with_reducible exact VX) (by first | with_reducible exact F.vc | with_reducible exact F.drew.vc) hlc hpc).mono ?_; rintro e w6 ⟨rfl, bb⟩; (first | with_reducible (replace F := F.next bb) | with_reducible (replace F := F.drew.next bb)); clear bb) | (go_at_call 15; refine (very_is _ _ ca _ (by first | with_reducible exact F.vw | with_reducible exact F.drew.vw) (by first | with_reducible exact F.vc | with_reducible exact F.drew.vc) hlc hpc).mono ?_; rintro e w6 ⟨rfl, bb⟩; (first | with_reducible (replace F := F.next bb) | with_reducible (replace F := F.drew.next bb)); clear bb) | (go_at_call 22; refine (same_few _ _ a ca true _ (by first | with_reducible exact F.va | with_reducible exact F.drew.va) (by first | with_reducible exact F.vc | with_reducible exact F.drew.vc) FA FC Hs.out).mono ?_; rintro e w6 ⟨rfl, bb⟩; (first | with_reducible (replace F := F.next bb) | with_reducible (replace F := F.drew.next bb)); clear bb) | (go_at_call 12; have zz := Q3; clear zz Q3; refine (defined_any _ a dd _ (by first | with_reducible exact F.va | with_reducible exact F.drew.va) hpa Hdd.out).mono ?_; rintro e w6 ⟨rfl, bb⟩; (first | with_reducible (replace F := F.next bb) | with_reducible (replace F := F.drew.next bb)); clear bb) | (go_at_call 12; have zz := Q4; clear zz Q4; refine (defined_any _ ca dd _ (by first | with_reducible exact F.vc | with_reducible exact F.drew.vc) hpc6 Hdc.out).mono ?_; rintro e w6 ⟨rfl, bb⟩; (first | with_reducible (replace F := F.next bb) | with_reducible (replace F := F.drew.next bb)); clear bb) | (go_at_call 12; refine (defined_any _ a dd _ (by first | with_reducible exact F.va | with_reducible exact F.drew.va) hpa Hdd.out).mono ?_; rintro e w6 ⟨rfl, bb⟩; (first | with_reducible (replace F := F.next bb) | with_reducible (replace F := F.drew.next bb)); clear bb) | (go_at_call 18; have zz := Q5; clear zz Q5; refine (pvalid_any _ ca vb _ (by first | with_reducible exact F.vc | with_reducible exact F.drew.vc) hlc5 hpc5 FC.t4 Hvc.out).mono ?_; rintro e w6 ⟨rfl, bb⟩; (first | with_reducible (replace F := F.next bb) | with_reducible (replace F := F.drew.next bb)); clear bb) | (go_at_call 18; refine (pvalid_any _ a vb _ (by first | with_reducible exact F.va | with_reducible exact F.drew.va) hla5 hpa5 FA.t4 Hv.out).mono ?_; rintro e w6 ⟨rfl, bb⟩; (first | with_reducible (replace F := F.next bb) | with_reducible (replace F := F.drew.next bb)); clear bb))
      all_goals go_wp2
      all_goals
        go_ret
        exact ⟨ret_bool (by first | rfl | simp), F.bel⟩
    · have M0' : W3.heap.size < w4.heap.size := by simp at M0; omega
      have K6 := below_put4 K (b := W3.heap.size) (Nat.le_refl _) (.int .i64 ca.kind) (.string ⟨ca.s.toArray⟩) (.slice ma ca.l.length mc) (.slice na ca.p.length nc)
      have F : Fx w ((((w5.setCell ⟨W3.heap.size, 0, none⟩ (.int .i64 ca.kind)).setCell ⟨W3.heap.size, 1, none⟩ (.string ⟨ca.s.toArray⟩)).setCell ⟨W3.heap.size, 2, none⟩ (.slice ma ca.l.length mc)).setCell ⟨W3.heap.size, 3, none⟩ (.slice na ca.p.length nc)) bc W3.heap.size #[.int .i64 ka, .string SA, al, ap] #[.int .i64 ca.kind, .string ⟨ca.s.toArray⟩, .slice la ca.l.length lc, .slice pa ca.p.length pc] #[.int .i64 ca.kind, .string ⟨ca.s.toArray⟩, .slice ma ca.l.length mc, .slice na ca.p.length nc] a ca :=
        ⟨(U.next K6).bel, (U.next K6).fst, (U.next K6).snd, (((C.put 0 _).put 1 _).put 2 _).put 3 _, (U.next K6).va, (U.next K6).vx, VlAt.mk ((((R3.put N1 (by first | omega | (simp; omega) | simp) _ _).put N1 (by first | omega | (simp; omega) | simp) _ _).put N1 (by first | omega | (simp; omega) | simp) _ _).put N1 (by first | omega | (simp; omega) | simp) _ _) ((((R4.put N2 (by first | omega | (simp; omega) | simp) _ _).put N2 (by first | omega | (simp; omega) | simp) _ _).put N2 (by first | omega | (simp; omega) | simp) _ _).put N2 (by first | omega | (simp; omega) | simp) _ _)⟩
      go_wp2
      generalize W3.heap.size = bw at F ⊢
      generalize ((((w5.setCell ⟨bw, 0, none⟩ (.int .i64 ca.kind)).setCell ⟨bw, 1, none⟩ (.string ⟨ca.s.toArray⟩)).setCell ⟨bw, 2, none⟩ (.slice ma ca.l.length mc)).setCell ⟨bw, 3, none⟩ (.slice na ca.p.length nc)) = W6 at F ⊢
      go_region_held3 (fun W => W.cell? ⟨w.heap.size, 0, none⟩ = some (.int .i64 ka) ∧ W.cell? ⟨w.heap.size, 1, none⟩ = some (.string SA) ∧ W.cell? ⟨w.heap.size, 2, none⟩ = some (al) ∧ W.cell? ⟨w.heap.size, 3, none⟩ = some (ap) ∧ W.cell? ⟨bc, 0, none⟩ = some (.int .i64 ca.kind) ∧ W.cell? ⟨bc, 1, none⟩ = some (.string ⟨ca.s.toArray⟩) ∧ W.cell? ⟨bc, 2, none⟩ = some (.slice la ca.l.length lc) ∧ W.cell? ⟨bc, 3, none⟩ = some (.slice pa ca.p.length pc) ∧ W.cell? ⟨bw, 0, none⟩ = some (.int .i64 ca.kind) ∧ W.cell? ⟨bw, 1, none⟩ = some (.string ⟨ca.s.toArray⟩) ∧ W.cell? ⟨bw, 2, none⟩ = some (.slice ma ca.l.length mc) ∧ W.cell? ⟨bw, 3, none⟩ = some (.slice na ca.p.length nc)) (first | with_reducible exact F.all | with_reducible exact F.drew.all) (first | (go_at_call 16; refine (canon_any _ ca ca _ (by first | with_reducible exact F.vc | with_reducible exact F.drew.vc) hlc1 hpc1 FC.t4 Hcc.out).mono ?_; rintro e w6 ⟨xa, xc, ya, yc, rfl, R1, R2, bb⟩; have VX := VlAt.mk R1 R2; clear R1 R2; (first | with_reducible (replace F := F.next bb) | with_reducible (replace F := F.drew.next bb)); clear bb) | (go_at_call 15; have zz := Q2; clear zz Q2; refine (very_is _ _ ca _ (by with_reducible exact VX) (by first | with_reducible exact F.vc | with_reducible exact F.drew.vc) hlc hpc).mono ?_; rintro e w6 ⟨rfl, bb⟩; (first | with_reducible (replace F := F.next bb) | with_reducible (replace F := F.drew.next bb)); clear bb) | (go_at_call 15; refine (very_is _ _ ca _ (by first | with_reducible exact F.vw | with_reducible exact F.drew.vw) (by first | with_reducible exact F.vc | with_reducible exact F.drew.vc) hlc hpc).mono ?_; rintro e w6 ⟨rfl, bb⟩; (first | with_reducible (replace F := F.next bb) | with_reducible (replace F := F.drew.next bb)); clear bb) | (go_at_call 22; refine (same_few _ _ a ca true _ (by first | with_reducible exact F.va | with_reducible exact F.drew.va) (by first | with_reducible exact F.vc | with_reducible exact F.drew.vc) FA FC Hs.out).mono ?_; rintro e w6 ⟨rfl, bb⟩; (first | with_reducible (replace F := F.next bb) | with_reducible (replace F := F.drew.next bb)); clear bb) | (go_at_call 12; have zz := Q3; clear zz Q3; refine (defined_any _ a dd _ (by first | with_reducible exact F.va | with_reducible exact F.drew.va) hpa Hdd.out).mono ?_; rintro e w6 ⟨rfl, bb⟩; (first | with_reducible (replace F := F.next bb) | with_reducible (replace F := F.drew.next bb)); clear bb) | (go_at_call 12; have zz := Q4; clear zz Q4; refine (defined_any _ ca dd _ (by first | with_reducible exact F.vc | with_reducible exact F.drew.vc) hpc6 Hdc.out).mono ?_; rintro e w6 ⟨rfl, bb⟩; (first | with_reducible (replace F := F.next bb) | with_reducible (replace F := F.drew.next bb)); clear bb) | (go_at_call 12; refine (defined_any _ a dd _ (by first | with_reducible exact F.va | with_reducible exact F.drew.va) hpa Hdd.out).mono ?_; rintro e w6 ⟨rfl, bb⟩; (first | with_reducible (replace F := F.next bb) | with_reducible (replace F := F.drew.next bb)); clear bb) | (go_at_call 18; have zz := Q5; clear zz Q5; refine (pvalid_any _ ca vb _ (by first | with_reducible exact F.vc | with_reducible exact F.drew.vc) hlc5 hpc5 FC.t4 Hvc.out).mono ?_; rintro e w6 ⟨rfl, bb⟩; (first | with_reducible (replace F := F.next bb) | with_reducible (replace F := F.drew.next bb)); clear bb) | (go_at_call 18; refine (pvalid_any _ a vb _ (by first | with_reducible exact F.va | with_reducible exact F.drew.va) hla5 hpa5 FA.t4 Hv.out).mono ?_; rintro e w6 ⟨rfl, bb⟩; (first | with_reducible (replace F := F.next bb) | with_reducible (replace F := F.drew.next bb)); clear bb))
      all_goals go_wp2
      all_goals
        go_ret
        exact ⟨ret_bool (by first | rfl | simp), F.bel⟩
end Go.Proofs.Ytikhggdigndhoaa
