/-
  WALKS: the reference's Get (layer 9).
-/
import Derived.Test.YtgnccmmbpgnamaaE2
namespace Go.Proofs.Ytgnccmmbpgnamaa
open Go.RowKit

theorem first_drop {bs : List Bd} {k : Nat} (h : k < bs.length) (n : List UInt8) : firstV (bs.drop k) n = if bs[k].1 = n then some bs[k].2 else firstV (bs.drop (k + 1)) n := by
  rw [List.drop_eq_getElem_cons h]; rfl
/-- a value told, and whether there is one -/
def GetPost (w : World) (c : Vl) (r : Bool) (e : Ending) (w' : World) : Prop := ∃ la lc pa pc, e = .returned (.tuple #[.agg #[.int .i64 c.kind, .string ⟨c.s.toArray⟩, .slice la c.l.length lc, .slice pa c.p.length pc], .bool r]) ∧ StrsAt w' (.slice la c.l.length lc) c.l ∧ PairsAt w' (.slice pa c.p.length pc) c.p ∧ Below w.heap.size w w' ∧ Newly w.heap.size (.slice la c.l.length lc) ∧ Newly w.heap.size (.slice pa c.p.length pc)
/-- four cells of the call's own result, put anew -/
theorem res_put {w W : World} {c0 c1 c2 c3 : Value} (B : Below w.heap.size w W) (X : Bx W w.heap.size #[c0, c1, c2, c3] 28) (a0 a1 a2 a3 : Value) :
    Bx ((((W.setCell ⟨w.heap.size, 0, none⟩ a0).setCell ⟨w.heap.size, 1, none⟩ a1).setCell ⟨w.heap.size, 2, none⟩ a2).setCell ⟨w.heap.size, 3, none⟩ a3) w.heap.size #[a0, a1, a2, a3] 28 ∧
    Below w.heap.size w ((((W.setCell ⟨w.heap.size, 0, none⟩ a0).setCell ⟨w.heap.size, 1, none⟩ a1).setCell ⟨w.heap.size, 2, none⟩ a2).setCell ⟨w.heap.size, 3, none⟩ a3) :=
  ⟨(((X.put 0 _).put 1 _).put 2 _).put 3 _, (((B.setCell (p := ⟨_, 0, none⟩) (Nat.le_refl _) _).setCell (p := ⟨_, 1, none⟩) (Nat.le_refl _) _).setCell (p := ⟨_, 2, none⟩) (Nat.le_refl _) _).setCell (p := ⟨_, 3, none⟩) (Nat.le_refl _) _⟩
set_option maxRecDepth 20000 in
set_option maxHeartbeats 4000000 in
theorem rget_any (v : Value) (bs : List Bd) (s : ByteArray) (c : Vl) (r : Bool) (w : World) (h : BindsAt w v bs) (F : Fd bs) (hc : getV bs s.data.toList = c) (hr : isV bs s.data.toList = r) : Calls Try.prog 12 #[v, .string s] w fun e w' => GetPost w c r e w' := by
  obtain ⟨la, lc, rfl⟩ := h.form
  have hln := F.len
  have G := hide F.all
  have H := hide h
  have Hc := hide hc
  have Hr := hide hr
  clear h F hc hr
  have X0 := Bx.made w #[.int .i64 0, .string ⟨#[]⟩, .slice none 0 0, .slice none 0 0] 28
  have B0 := b_alloc w (.cells #[.int .i64 0, .string ⟨#[]⟩, .slice none 0 0, .slice none 0 0] 28)
  obtain ⟨W1, hW1⟩ : ∃ W1, w.alloc (.cells #[.int .i64 0, .string ⟨#[]⟩, .slice none 0 0, .slice none 0 0] 28) = W1 := ⟨_, rfl⟩
  rw [hW1] at X0 B0
  go_enter Try.func12, Try.ntmps12
  go_wp2
  skip
  go_loopw [6] (fun i wr => ∃ q : Nat, q ≤ bs.length ∧ i = .int .i64 q ∧ firstV bs s.data.toList = firstV (bs.drop q) s.data.toList ∧ wr = W1) (fun i _ => bs.length - (intOf i).toNat)
  case atStart => exact ⟨0, Nat.zero_le _, rfl, rfl, rfl⟩
  case round =>
    obtain ⟨q, hq, rfl, hfs, hw⟩ := hrel
    subst hw
    clear hW1
    by_cases hlt : q < bs.length
    · obtain ⟨b, off, cap, kd, M, S, sl, sp, ea, hb, c0, c1, c2, c3, c4, hv, hM⟩ := (H.out.later B0).one q hlt
      cases ea
      rw [first_drop hlt] at hfs
      have fq := (G.out _ (List.getElem_mem hlt)).vl
      obtain ⟨y, hy⟩ : ∃ y, bs[q] = y := ⟨_, rfl⟩
      rw [hy] at hfs hv hM fq
      have ht := texts_eq hM (rfl : s.data.toList = s.data.toList)
      have Hv := hide hv
      have Fq := hide fq
      clear hv fq hy hM
      by_cases hn : y.1 = s.data.toList
      · rw [if_pos hn] at hfs
        rw [decide_eq_true hn] at ht
        have hcv : canonV y.2 = c := by rw [← Hc.out]; unfold getV; rw [hfs]
        have hrd : r = definedV y.2 := by rw [← Hr.out]; unfold isV; rw [hfs]
        have hk0 : (c.kind == 0) = !r := by
          rw [hrd, ← hcv]
          have := kind_defined y.2
          cases hd : definedV y.2 with
          | true =>
            rw [hd] at this
            simp at this
            simpa using this
          | false => simpa using this.2 hd
        have Hcv := hide hcv
        have Hk0 := hide hk0
        clear hfs hn hcv hrd hk0
        go_wp2_with (go_at_call 25; refine (rcanon_c _ _ c _ Hv.out (by have := Fq.out.l; omega) (by have := Fq.out.p; omega) Hcv.out).mono ?_; rintro e w2 ⟨la2, lc2, pa2, pc2, rfl, R1, R2, bb, N1, N2⟩; have X2 := X0.next bb; have B2 := B0.trans (bb.mono B0.size))
        have CB := Bx.made w2 #[.int .i64 c.kind, .string ⟨c.s.toArray⟩, .slice la2 c.l.length lc2, .slice pa2 c.p.length pc2] 28
        have R3 := R1.later (b_alloc w2 (.cells #[.int .i64 c.kind, .string ⟨c.s.toArray⟩, .slice la2 c.l.length lc2, .slice pa2 c.p.length pc2] 28))
        have R4 := R2.later (b_alloc w2 (.cells #[.int .i64 c.kind, .string ⟨c.s.toArray⟩, .slice la2 c.l.length lc2, .slice pa2 c.p.length pc2] 28))
        have X3 := X2.later (.cells #[.int .i64 c.kind, .string ⟨c.s.toArray⟩, .slice la2 c.l.length lc2, .slice pa2 c.p.length pc2] 28)
        have B3 := B2.alloc B2.size (.cells #[.int .i64 c.kind, .string ⟨c.s.toArray⟩, .slice la2 c.l.length lc2, .slice pa2 c.p.length pc2] 28)
        have hs3 := X0.lt
        have hne : w2.heap.size ≠ w.heap.size := by have := X2.lt; omega
        generalize w2.alloc (.cells #[.int .i64 c.kind, .string ⟨c.s.toArray⟩, .slice la2 c.l.length lc2, .slice pa2 c.p.length pc2] 28) = W3 at CB R3 R4 X3 B3 ⊢
        obtain ⟨y0, y1, y2, y3⟩ := cells4 CB
        obtain ⟨x0, x1, x2, x3⟩ := cells4 X3
        have f0 := X3.free 0
        have f1 := X3.free 1
        have f2 := X3.free 2
        have f3 := X3.free 3
        obtain ⟨r1, r2⟩ := res_put B3.drew X3.drew (.int .i64 c.kind) (.string ⟨c.s.toArray⟩) (.slice la2 c.l.length lc2) (.slice pa2 c.p.length pc2)
        have hkn : (c.kind != 0) = r := by rw [bne, Hk0.out, Bool.not_not]
        have Hkn := hide hkn
        clear hkn
        clear CB
        go_wp2
        go_region
        go_wp2
        refine bodyPost_ret (v := .tuple #[.agg #[.int .i64 c.kind, .string ⟨c.s.toArray⟩, .slice la2 c.l.length lc2, .slice pa2 c.p.length pc2], .bool (c.kind != 0)]) (ret_cell_tmp Try.results12 _ _ rfl r1 Try.underlying28 rfl (by kernel_rfl)) rfl ?_
        rw [Hkn.out]
        have R5 := R3.later (b_drew W3)
        have R6 := R4.later (b_drew W3)
        exact ⟨la2, lc2, pa2, pc2, rfl, (((R5.put N1 hs3 _ _).put N1 hs3 _ _).put N1 hs3 _ _).put N1 hs3 _ _, (((R6.put N2 hs3 _ _).put N2 hs3 _ _).put N2 hs3 _ _).put N2 hs3 _ _, r2, N1.le (by omega), N2.le (by omega)⟩
      · rw [if_neg hn] at hfs
        rw [decide_eq_false hn] at ht
        have Hfs := hide hfs
        clear hfs hn
        go_wp2
        go_roundw
        case rel => exact ⟨q + 1, by omega, by go_num, Hfs.out, by first | rfl | trivial⟩
        case measure => simp [intOf]; omega
    · have hf : firstV bs s.data.toList = none := by rw [hfs, List.drop_eq_nil_of_le (by omega)]; rfl
      have hcz : c = zeroV := by rw [← Hc.out]; unfold getV; rw [hf]
      have hrf : r = false := by rw [← Hr.out]; unfold isV; rw [hf]
      have Hcz := hide hcz
      have Hrf := hide hrf
      obtain ⟨x0, x1, x2, x3⟩ := cells4 X0
      have f0 := X0.free 0
      have f1 := X0.free 1
      have f2 := X0.free 2
      have f3 := X0.free 3
      obtain ⟨r1, r2⟩ := res_put B0 X0 (.int .i64 0) (.string ⟨#[]⟩) (.slice none 0 0) (.slice none 0 0)
      clear hf hcz hrf hfs
      go_wp2
      refine bodyPost_ret (v := .tuple #[.agg #[.int .i64 0, .string ⟨#[]⟩, .slice none 0 0, .slice none 0 0], .bool false]) (ret_cell_tmp Try.results12 _ _ rfl r1 Try.underlying28 rfl (by kernel_rfl)) rfl ?_
      rw [Hcz.out, Hrf.out]
      exact ⟨none, 0, none, 0, rfl, .inl ⟨rfl, _, _, rfl⟩, .inl ⟨rfl, _, _, rfl⟩, r2, Newly.none _ _ _, Newly.none _ _ _⟩
end Go.Proofs.Ytgnccmmbpgnamaa
