/-
  WALKS: the program's Get (layer 9).
-/
import Derived.Test.YtgnccmmbpgnamaaG5
namespace Go.Proofs.Ytgnccmmbpgnamaa
open Go.RowKit

/-- one of the variables, its slices laid open -/
theorem BindsAt.open {w : World} {v : Value} {bs : List Bd} (h : BindsAt w v bs) (k : Nat) (hk : k < bs.length) : ∃ (b off cap : Nat) (kd : Int) (M S : ByteArray) (a1 : Option Addr) (n1 c1 : Nat) (a2 : Option Addr) (n2 c2 : Nat), v = .slice (some ⟨b, off, none⟩) bs.length cap ∧ b < w.heap.size ∧
    w.cell? ⟨b, off + k * 5, none⟩ = some (.string M) ∧ w.cell? ⟨b, off + k * 5 + 1, none⟩ = some (.int .i64 kd) ∧ w.cell? ⟨b, off + k * 5 + 2, none⟩ = some (.string S) ∧ w.cell? ⟨b, off + k * 5 + 3, none⟩ = some (.slice a1 n1 c1) ∧ w.cell? ⟨b, off + k * 5 + 4, none⟩ = some (.slice a2 n2 c2) ∧
    VlAt w (.agg #[.int .i64 kd, .string S, .slice a1 n1 c1, .slice a2 n2 c2]) bs[k].2 ∧ M.data.toList = bs[k].1 := by
  obtain ⟨b, off, cap, sl, sp, e, hb, c0, c1, c2, c3, c4, g1, g2⟩ := h.at k hk
  obtain ⟨a1, d1, rfl⟩ := g1.form
  obtain ⟨a2, d2, rfl⟩ := g2.form
  exact ⟨b, off, cap, _, _, _, a1, _, d1, a2, _, d2, e, hb, c0, c1, c2, c3, c4, ⟨_, _, rfl, g1, g2⟩, rfl⟩
theorem cells5 {W : World} {b : Nat} {t : TypeId} {x y z u v : Value} (h : Bx W b #[x, y, z, u, v] t) : W.cell? ⟨b, 0, none⟩ = some x ∧ W.cell? ⟨b, 1, none⟩ = some y ∧ W.cell? ⟨b, 2, none⟩ = some z ∧ W.cell? ⟨b, 3, none⟩ = some u ∧ W.cell? ⟨b, 4, none⟩ = some v := ⟨h.cell 0 x rfl, h.cell 1 y rfl, h.cell 2 z rfl, h.cell 3 u rfl, h.cell 4 v rfl⟩
/-- the result's cell, and a variable's box -/
structure Gb (w W : World) (k : Nat) (y0 y1 y2 y3 y4 : Value) : Prop where
  bel : Below w.heap.size w W
  res : Bx W w.heap.size #[.int .i64 0, .string ⟨#[]⟩, .slice none 0 0, .slice none 0 0] 28
  val : Bx W k #[y0, y1, y2, y3, y4] 41
section
variable {w W W' : World} {k : Nat} {y0 y1 y2 y3 y4 : Value}
theorem Gb.next (h : Gb w W k y0 y1 y2 y3 y4) (bb : Below W.heap.size W W') : Gb w W' k y0 y1 y2 y3 y4 := ⟨h.bel.trans (bb.mono h.bel.size), h.res.next bb, h.val.next bb⟩
theorem Gb.drew (h : Gb w W k y0 y1 y2 y3 y4) : Gb w W.drew k y0 y1 y2 y3 y4 := h.next (b_drew W)
theorem Gb.kept (h : Gb w W k y0 y1 y2 y3 y4) (hk : w.heap.size < k) (a0 a1 a2 a3 : Value) : ((((W.setCell ⟨w.heap.size, 0, none⟩ a0).setCell ⟨w.heap.size, 1, none⟩ a1).setCell ⟨w.heap.size, 2, none⟩ a2).setCell ⟨w.heap.size, 3, none⟩ a3).cell? ⟨k, 0, none⟩ = some y0 ∧ ((((W.setCell ⟨w.heap.size, 0, none⟩ a0).setCell ⟨w.heap.size, 1, none⟩ a1).setCell ⟨w.heap.size, 2, none⟩ a2).setCell ⟨w.heap.size, 3, none⟩ a3).cell? ⟨k, 1, none⟩ = some y1 ∧ ((((W.setCell ⟨w.heap.size, 0, none⟩ a0).setCell ⟨w.heap.size, 1, none⟩ a1).setCell ⟨w.heap.size, 2, none⟩ a2).setCell ⟨w.heap.size, 3, none⟩ a3).cell? ⟨k, 2, none⟩ = some y2 ∧ ((((W.setCell ⟨w.heap.size, 0, none⟩ a0).setCell ⟨w.heap.size, 1, none⟩ a1).setCell ⟨w.heap.size, 2, none⟩ a2).setCell ⟨w.heap.size, 3, none⟩ a3).cell? ⟨k, 3, none⟩ = some y3 ∧ ((((W.setCell ⟨w.heap.size, 0, none⟩ a0).setCell ⟨w.heap.size, 1, none⟩ a1).setCell ⟨w.heap.size, 2, none⟩ a2).setCell ⟨w.heap.size, 3, none⟩ a3).cell? ⟨k, 4, none⟩ = some y4 :=
  cells5 ((((h.val.other (by omega) 0 a0).other (by omega) 1 a1).other (by omega) 2 a2).other (by omega) 3 a3)
theorem Gb.all (h : Gb w W k y0 y1 y2 y3 y4) : W.cell? ⟨k, 0, none⟩ = some y0 ∧ W.cell? ⟨k, 1, none⟩ = some y1 ∧ W.cell? ⟨k, 2, none⟩ = some y2 ∧ W.cell? ⟨k, 3, none⟩ = some y3 ∧ W.cell? ⟨k, 4, none⟩ = some y4 := cells5 h.val
end
set_option maxRecDepth 20000 in
set_option maxHeartbeats 4000000 in
theorem pget_any (v : Value) (bs : List Bd) (s : ByteArray) (c : Vl) (r : Bool) (w : World) (h : BindsAt w v bs) (F : Fd bs) (hc : getV bs s.data.toList = c) (hr : isV bs s.data.toList = r) : Calls Try.prog 11 #[v, .string s] w fun e w' => GetPost w c r e w' := by
  obtain ⟨la, lc, rfl⟩ := h.form
  have hln := F.len
  have G := hide F.all
  have H := hide h
  have Hc := hide hc
  have Hr := hide hr
  clear h F hc hr
  have X0 := Bx.made w #[.int .i64 0, .string ⟨#[]⟩, .slice none 0 0, .slice none 0 0] 28
  have B0 := b_alloc w (.cells #[.int .i64 0, .string ⟨#[]⟩, .slice none 0 0, .slice none 0 0] 28)
  go_enter Try.func11, Try.ntmps11
  go_wp2
  go_loopw [10] (fun i wr => ∃ q : Nat, q ≤ bs.length ∧ i = .int .i64 q ∧ firstV bs s.data.toList = firstV (bs.drop q) s.data.toList ∧ Below w.heap.size w wr ∧ Bx wr w.heap.size #[.int .i64 0, .string ⟨#[]⟩, .slice none 0 0, .slice none 0 0] 28) (fun i _ => bs.length - (intOf i).toNat)
  case atStart => exact ⟨0, Nat.zero_le _, rfl, rfl, B0, X0⟩
  case round =>
    clear B0 X0
    obtain ⟨q, hq, rfl, hfs, B, X⟩ := hrel
    by_cases hlt : q < bs.length
    · obtain ⟨b, off, cap, kd, M, S, a1, n1, k1, a2, n2, k2, ea, hb, c0, c1, c2, c3, c4, hv, hM⟩ := (H.out.later B).open q hlt
      cases ea
      rw [first_drop hlt] at hfs
      have fq := (G.out _ (List.getElem_mem hlt)).vl
      obtain ⟨y, hy⟩ : ∃ y, bs[q] = y := ⟨_, rfl⟩
      rw [hy] at hfs hv hM fq
      have ht := texts_eq hM (rfl : s.data.toList = s.data.toList)
      have bA := b_alloc wr (.cells #[.string M, .int .i64 kd, .string S, .slice a1 n1 k1, .slice a2 n2 k2] 41)
      have K : Gb w (wr.alloc (.cells #[.string M, .int .i64 kd, .string S, .slice a1 n1 k1, .slice a2 n2 k2] 41)) wr.heap.size (.string M) (.int .i64 kd) (.string S) (.slice a1 n1 k1) (.slice a2 n2 k2) := ⟨B.trans (bA.mono B.size), X.next bA, Bx.made _ _ _⟩
      have Hv := hide (hv.later bA)
      have Fq := hide fq
      clear hv fq hy hM
      by_cases hn : y.1 = s.data.toList
      · rw [if_pos hn] at hfs
        rw [decide_eq_true hn] at ht
        have hcv : canonV y.2 = c := by rw [← Hc.out]; unfold getV; rw [hfs]
        have hrd : definedV y.2 = r := by rw [← Hr.out]; unfold isV; rw [hfs]
        have Hcv := hide hcv
        have Hrd := hide hrd
        have hxl := X.lt
        clear hfs hn hcv hrd bA B X
        go_wp2
        generalize wr.alloc (.cells #[.string M, .int .i64 kd, .string S, .slice a1 n1 k1, .slice a2 n2 k2] 41) = W3 at *
        have hW3 : w.heap.size < W3.drew.heap.size := K.res.lt
        obtain ⟨x0, x1, x2, x3, x4⟩ := K.all
        go_region_held3 (fun W => W.cell? ⟨wr.heap.size, 0, none⟩ = some (.string M) ∧ W.cell? ⟨wr.heap.size, 1, none⟩ = some (.int .i64 kd) ∧ W.cell? ⟨wr.heap.size, 2, none⟩ = some (.string S) ∧ W.cell? ⟨wr.heap.size, 3, none⟩ = some (.slice a1 n1 k1) ∧ W.cell? ⟨wr.heap.size, 4, none⟩ = some (.slice a2 n2 k2)) (first | with_reducible exact K.all | with_reducible exact K.drew.all | with_reducible exact K.kept hxl _ _ _ _)
          (first
            | (go_at_call 28; refine (canon_any _ y.2 c _ (by first | with_reducible exact Hv.out.later (b_drew _) | with_reducible exact Hv.out) (by have := Fq.out.l; omega) (by have := Fq.out.p; omega) Fq.out.t4 Hcv.out).mono ?_; rintro e w2 ⟨la2, lc2, pa2, pc2, rfl, R1, R2, bb, N1, N2⟩; have hsz := bb.size; replace Hv := hide (Hv.out.later ((b_drew _).trans (bb.mono (b_drew _).size))); replace K := K.drew.next bb; clear bb)
            | (go_at_call 29; refine (defined_any _ y.2 r _ Hv.out (by have := Fq.out.p; omega) Hrd.out).mono ?_; rintro e w3 ⟨rfl, bb⟩; replace R1 := R1.later bb; replace R2 := R2.later bb; replace K := K.next bb; have hs3 := bb.size; clear bb; obtain ⟨r0, r1, r2, r3⟩ := cells4 K.res; have f0 := K.res.free 0; have f1 := K.res.free 1; have f2 := K.res.free 2; have f3 := K.res.free 3))
        obtain ⟨r5, r6⟩ := res_put K.bel K.res (.int .i64 c.kind) (.string ⟨c.s.toArray⟩) (.slice la2 c.l.length lc2) (.slice pa2 c.p.length pc2)
        go_wp2
        refine bodyPost_ret (v := .tuple #[.agg #[.int .i64 c.kind, .string ⟨c.s.toArray⟩, .slice la2 c.l.length lc2, .slice pa2 c.p.length pc2], .bool r]) (ret_cell_tmp Try.results11 _ _ rfl r5 Try.underlying28 rfl (by kernel_rfl)) rfl ?_
        exact ⟨la2, lc2, pa2, pc2, rfl, (((R1.put N1 hW3 _ _).put N1 hW3 _ _).put N1 hW3 _ _).put N1 hW3 _ _, (((R2.put N2 hW3 _ _).put N2 hW3 _ _).put N2 hW3 _ _).put N2 hW3 _ _, r6, N1.le (by omega), N2.le (by omega)⟩
      · rw [if_neg hn] at hfs
        rw [decide_eq_false hn] at ht
        have Hfs := hide hfs
        obtain ⟨x0, x1, x2, x3, x4⟩ := K.all
        clear hfs hn
        go_wp2
        go_roundw
        case rel => exact ⟨q + 1, by omega, by go_num, Hfs.out, K.bel, K.res⟩
        case measure => simp [intOf]; omega
    · have hf : firstV bs s.data.toList = none := by rw [hfs, List.drop_eq_nil_of_le (by omega)]; rfl
      have hcz : c = zeroV := by rw [← Hc.out]; unfold getV; rw [hf]
      have hrf : r = false := by rw [← Hr.out]; unfold isV; rw [hf]
      have Hcz := hide hcz
      have Hrf := hide hrf
      obtain ⟨x0, x1, x2, x3⟩ := cells4 X
      have f0 := X.free 0
      have f1 := X.free 1
      have f2 := X.free 2
      have f3 := X.free 3
      obtain ⟨r1, r2⟩ := res_put B X (.int .i64 0) (.string ⟨#[]⟩) (.slice none 0 0) (.slice none 0 0)
      clear hf hcz hrf hfs
      go_wp2
      refine bodyPost_ret (v := .tuple #[.agg #[.int .i64 0, .string ⟨#[]⟩, .slice none 0 0, .slice none 0 0], .bool false]) (ret_cell_tmp Try.results11 _ _ rfl r1 Try.underlying28 rfl (by kernel_rfl)) rfl ?_
      rw [Hcz.out, Hrf.out]
      exact ⟨none, 0, none, 0, rfl, .inl ⟨rfl, _, _, rfl⟩, .inl ⟨rfl, _, _, rfl⟩, r2, Newly.none _ _ _, Newly.none _ _ _⟩
end Go.Proofs.Ytgnccmmbpgnamaa
