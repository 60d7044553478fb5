/-
  WALKS: the law BindAll (layer 9).
-/
import Derived.Test.YtgnccmmbpgnamaaQ1
namespace Go.Proofs.Ytgnccmmbpgnamaa
open Go.RowKit

theorem set_len (bs : List Bd) (n : List UInt8) (v : Vl) : (setB bs n v).length ≤ bs.length + 1 := by
  unfold setB
  rw [canonB_len]
  have := names_len ((n, v) :: bs)
  simpa using this
theorem setAll_snoc (x c : List Bd) (b : Bd) : setAll x (c ++ [b]) = setB (setAll x c) b.1 b.2 := by simp [setAll]
theorem EsAt.two {w : World} {v : Value} {es : List Ev} {n : Nat} (h : EsAt w v es) (hn : es.length = n) : ∃ a c, v = .slice a n c := by
  subst hn; exact h.form
/-- a row that a literal without elements has made -/
theorem Rw.empty (w : World) : Rw w.heap.size (w.alloc (.cells #[] 41)) (.slice (some ⟨w.heap.size, 0, none⟩) 0 0) [] :=
  ⟨⟨rfl, .inr ⟨w.heap.size, 0, #[], rfl, Nat.le_refl _, Bx.made _ _ _, Nat.le_refl _, by unfold maxLen; omega, rfl, rfl⟩⟩, fun _ h => (by cases h), fun _ _ _ h => (by cases h)⟩
theorem off_of_old {W : World} {base : Nat} {W' : World} {v : Value} {es fs : List Ev} (R : Rw base W' v es) (h : ∀ f ∈ fs, EAt W f) (hb : W.heap.size ≤ base) : ∀ b, v.ownBlock = some b → ∀ f ∈ fs, OffE b f := fun b hb' f hf => OffE.old (h f hf) (Nat.le_trans hb (R.row.lt b hb').1)
theorem off_of_new {base n : Nat} {W : World} {v : Value} {es fs : List Ev} (R : Rw base W v es) (h : ∀ f ∈ fs, Newly n f.l ∧ Newly n f.p) (hn : W.heap.size ≤ n) : ∀ b, v.ownBlock = some b → ∀ f ∈ fs, OffE b f := fun b hb f hf => by
  have h2 := (R.row.lt b hb).2
  exact ⟨Off.newly (h f hf).1 (by omega), Off.newly (h f hf).2 (by omega)⟩
set_option maxRecDepth 20000 in
set_option maxHeartbeats 8000000 in
theorem all_walk (va vb : Value) (xs ys : List Bd) (w : World) (HA : BindsAt w va xs) (HB : BindsAt w vb ys) (WA : WideB xs) (WB : WideB ys) : Calls Try.prog 8 #[va, vb] w fun e w' => e = .returned (.bool true) ∧ Below w.heap.size w w' := by
  have B := Below.refl w.heap.size w
  have HA0 := hide HA
  have HB0 := hide HB
  obtain ⟨aa, ac, rfl⟩ := HA.form
  obtain ⟨ba, bc, rfl⟩ := HB.form
  have T1 : Hid True := trivial
  have T2 : Hid True := trivial
  clear HA HB
  cases ha : fewB xs with
  | false =>
    have Ha := hide ha
    clear ha
    go_enter Try.func8, Try.ntmps8
    go_wp2_with (first
      | (go_at_call 9; refine (awake_any _).mono ?_; rintro e w1 ⟨rfl, bb⟩; replace B := bb; clear bb)
      | (go_at_call 10; refine (bfew_is _ xs false _ (HA0.out.later B) WA Ha.out).mono ?_; rintro e w2 ⟨rfl, bb⟩; replace B := b_then B bb; clear bb))
    go_ret
    exact ⟨rfl, B⟩
  | true =>
    have Ha := hide ha
    have FA := fd_of ha
    have hxl := (fewB_of ha).1
    clear ha
    cases hb : fewB ys with
    | false =>
      have Hb := hide hb
      clear hb
      go_enter Try.func8, Try.ntmps8
      go_wp2_with (first
        | (go_at_call 9; refine (awake_any _).mono ?_; rintro e w1 ⟨rfl, bb⟩; replace B := bb; clear bb)
        | (have z := T1; go_at_call 10; refine (bfew_is _ xs true _ (HA0.out.later B) WA Ha.out).mono ?_; rintro e w2 ⟨rfl, bb⟩; replace B := b_then B bb; clear bb T1 z)
        | (have z := T2; go_at_call 10; refine (bfew_is _ ys false _ (HB0.out.later B) WB Hb.out).mono ?_; rintro e w2 ⟨rfl, bb⟩; replace B := b_then B bb; clear bb T2 z))
      go_ret
      exact ⟨rfl, B⟩
    | true =>
      have Hb := hide hb
      have FB := fd_of hb
      have hyl := (fewB_of hb).1
      clear hb
      obtain ⟨xs', hxs⟩ : ∃ cs, canonB xs = cs := ⟨_, rfl⟩
      obtain ⟨cs, hcs⟩ : ∃ cs, canonB ys = cs := ⟨_, rfl⟩
      have Fx : Fd xs' := by rw [← hxs]; exact FA.canon
      have Fc : Fd cs := by rw [← hcs]; exact FB.canon
      have hxl' : xs'.length ≤ 20 := by rw [← hxs, canonB_len]; exact Nat.le_trans (names_len xs) hxl
      have hcl : cs.length ≤ 20 := by rw [← hcs, canonB_len]; exact Nat.le_trans (names_len ys) hyl
      have hall : setAll xs' cs = canonB (cs ++ xs') := by rw [← hxs, ← hcs]; exact setAll_both xs ys
      have hble : (canonB (cs ++ xs')).length ≤ cs.length + xs'.length := by rw [← hxs, ← hcs]; exact both_len xs ys
      have Fb : Fd (cs ++ xs') := ⟨by simp; omega, fun b hb => by
        rcases List.mem_append.1 hb with hb | hb
        · exact Fc.all b hb
        · exact Fx.all b hb⟩
      obtain ⟨m, hm⟩ : ∃ m, cs.length = m := ⟨_, rfl⟩
      obtain ⟨n, hn⟩ : ∃ n, xs'.length = n := ⟨_, rfl⟩
      obtain ⟨p, hp⟩ : ∃ p, (canonB (cs ++ xs')).length = p := ⟨_, rfl⟩
      rw [hm] at hcl
      rw [hn] at hxl'
      rw [hm, hn, hp] at hble
      have Hm := hide hm
      have Hn := hide hn
      have Hp := hide hp
      have Hxs := hide hxs
      have Hcs := hide hcs
      have Hall := hide hall
      have T3 : Hid True := trivial
      have T4 : Hid True := trivial
      have T5 : Hid True := trivial
      have T6 : Hid True := trivial
      have T7 : Hid True := trivial
      clear hm hn hp hxs hcs hall
      go_enter Try.func8, Try.ntmps8
      go_wp2_with (first
        | (go_at_call 9; refine (awake_any _).mono ?_; rintro e w1 ⟨rfl, bb⟩; replace B := bb; clear bb)
        | (have z := T1; go_at_call 10; refine (bfew_is _ xs true _ (HA0.out.later B) WA Ha.out).mono ?_; rintro e w2 ⟨rfl, bb⟩; replace B := b_then B bb; clear bb T1 z)
        | (have z := T2; go_at_call 10; refine (bfew_is _ ys true _ (HB0.out.later B) WB Hb.out).mono ?_; rintro e w2 ⟨rfl, bb⟩; replace B := b_then B bb; clear bb T2 z)
        | (have z := T3; go_at_call 19; refine (rbcanon_is _ ys cs _ (HB0.out.later B) FB Hcs.out).mono ?_; rintro e w3 ⟨k1, j1, rfl, C1, bb⟩; rw [Hm.out] at C1 ⊢; replace B := b_then B bb; clear bb T3 z)
        | (have z := T4; go_at_call 19; refine (rbcanon_is _ xs xs' _ (HA0.out.later B) FA Hxs.out).mono ?_; rintro e w4 ⟨k2, j2, rfl, C2, bb⟩; rw [Hn.out] at C2 ⊢; replace C1 := C1.later bb; replace B := b_then B bb; clear bb T4 z))
      have HC := hide C1
      have HX := hide C2
      have HB4 := hide B
      clear C1 C2 B
      go_loopw [7, 8] (fun o i wr => ∃ (q l : Nat) (zs : List Bd) (za : Option Addr) (zc : Nat), q ≤ m ∧ i = .int .i64 q ∧ setAll xs' (cs.take q) = zs ∧ zs.length = l ∧ l ≤ n + q ∧ o = .slice za l zc ∧ BindsAt wr (.slice za l zc) zs ∧ Hid (Fd zs) ∧ Below w4.heap.size w4 wr) (fun _ i _ => m - (intOf i).toNat)
      case atStart => exact ⟨0, n, xs', k2, j2, Nat.zero_le _, rfl, rfl, Hn.out, by omega, rfl, HX.out, hide Fx, Below.refl _ _⟩
      case round =>
        obtain ⟨q, l, zs, za, zc, hq, rfl, hzs, hzl, hln, rfl, Z, FZ, Bw⟩ := hrel
        have B := b_then HB4.out Bw
        by_cases hlm : q < m
        · have hqc : q < cs.length := by rw [Hm.out]; exact hlm
          obtain ⟨b, off, cap, kd, M, S, sl, sp, ea, hb, c0, c1, c2, c3, c4, hv, hM⟩ := (HC.out.later Bw).one q hqc
          rw [Hm.out] at ea
          cases ea
          have fq := Fc.all _ (List.getElem_mem hqc)
          have hst : setAll xs' (cs.take (q + 1)) = setB zs cs[q].1 cs[q].2 := by rw [List.take_succ_eq_append_getElem hqc, setAll_snoc, hzs]
          have hsl := set_len zs cs[q].1 cs[q].2
          obtain ⟨y, hy⟩ : ∃ y, cs[q] = y := ⟨_, rfl⟩
          rw [hy] at hv hM fq hst hsl
          obtain ⟨zs', hz'⟩ : ∃ zs', setB zs y.1 y.2 = zs' := ⟨_, rfl⟩
          rw [hz'] at hst hsl
          have hMl : M.size ≤ 200 := by rw [size_list, hM]; exact fq.nm
          have Fz' : Hid (Fd zs') := hide (by rw [← hz']; exact (set_fd FZ.out fq.vl fq.nm (by omega)).canon)
          have hset : setB zs M.data.toList y.2 = zs' := by rw [hM]; exact hz'
          have HSet := hide (fun W (BW : Below wr.heap.size wr W) => pbset_any (.slice za l zc) (.agg #[.int .i64 kd, .string S, sl, sp]) zs zs' M y.2 W (Z.later BW) (hv.later BW) FZ.out fq.vl hMl (by omega) hset)
          obtain ⟨l', hl'⟩ : ∃ l', zs'.length = l' := ⟨_, rfl⟩
          rw [hl', hzl] at hsl
          have Hst := hide hst
          have Hl' := hide hl'
          have h0 : (0 : Int) ≤ q := by omega
          have h1 : (q : Int) < m := by omega
          have hcells : wr.cell? ⟨b, off + q * 5, none⟩ = some (.string M) ∧ wr.cell? ⟨b, off + q * 5 + 1, none⟩ = some (.int .i64 kd) ∧ wr.cell? ⟨b, off + q * 5 + 2, none⟩ = some (.string S) ∧ wr.cell? ⟨b, off + q * 5 + 3, none⟩ = some sl ∧ wr.cell? ⟨b, off + q * 5 + 4, none⟩ = some sp := ⟨c0, c1, c2, c3, c4⟩
          have Hcl := hide hcells
          clear hv hM fq hst hy hset hz' hqc hl' hzl hzs hcells
          have Hcd : wr.drew.cell? ⟨b, off + q * 5, none⟩ = some (.string M) ∧ wr.drew.cell? ⟨b, off + q * 5 + 1, none⟩ = some (.int .i64 kd) ∧ wr.drew.cell? ⟨b, off + q * 5 + 2, none⟩ = some (.string S) ∧ wr.drew.cell? ⟨b, off + q * 5 + 3, none⟩ = some sl ∧ wr.drew.cell? ⟨b, off + q * 5 + 4, none⟩ = some sp := Hcl.out
          go_wp2
          obtain ⟨x0, x1, x2, x3, x4⟩ := Hcl.out
          go_region_held3 (fun W => W.cell? ⟨b, off + q * 5, none⟩ = some (.string M) ∧ W.cell? ⟨b, off + q * 5 + 1, none⟩ = some (.int .i64 kd) ∧ W.cell? ⟨b, off + q * 5 + 2, none⟩ = some (.string S) ∧ W.cell? ⟨b, off + q * 5 + 3, none⟩ = some sl ∧ W.cell? ⟨b, off + q * 5 + 4, none⟩ = some sp) (first | with_reducible exact Hc5 | with_reducible exact Hcd | with_reducible exact Hcl.out)
            ((go_at_call 23; refine (HSet.out _ (b_drew wr)).mono ?_; rintro e w5 ⟨k5, j5, rfl, Z5, bb⟩; rw [Hl'.out] at Z5 ⊢; replace bb := b_then (b_drew wr) bb; have Hc5 : w5.cell? ⟨b, off + q * 5, none⟩ = some (.string M) ∧ w5.cell? ⟨b, off + q * 5 + 1, none⟩ = some (.int .i64 kd) ∧ w5.cell? ⟨b, off + q * 5 + 2, none⟩ = some (.string S) ∧ w5.cell? ⟨b, off + q * 5 + 3, none⟩ = some sl ∧ w5.cell? ⟨b, off + q * 5 + 4, none⟩ = some sp := ⟨(bb.cell (p := ⟨b, _, none⟩) hb).trans x0, (bb.cell (p := ⟨b, _, none⟩) hb).trans x1, (bb.cell (p := ⟨b, _, none⟩) hb).trans x2, (bb.cell (p := ⟨b, _, none⟩) hb).trans x3, (bb.cell (p := ⟨b, _, none⟩) hb).trans x4⟩))
          go_wp2
          go_roundw
          case rel => exact ⟨q + 1, l', zs', k5, j5, by omega, by go_num, Hst.out, Hl'.out, by omega, rfl, Z5, Fz', b_then Bw bb⟩
          case measure => simp [intOf]; omega
        · have hze : zs = canonB (cs ++ xs') := by rw [← hzs, List.take_of_length_le (by rw [Hm.out]; omega)]; exact Hall.out
          have hpl : l = p := by rw [← hzl, hze]; exact Hp.out
          have hqm : q = m := by omega
          obtain ⟨ec, hpc, hEc⟩ := HC.out.later Bw
          have hecl : ec.length = m := by rw [← Hm.out, ← hpc]; simp [plainE]
          have bA := b_alloc wr (.cells #[] 41)
          have R0 := hide (Rw.empty wr)
          have hE0 := hide (hEc.later bA)
          have hO0 := hide (off_of_old R0.out hEc.2 (Nat.le_refl _))
          have B0 := b_then B bA
          have hszA := bA.size
          have Hpc := hide hpc
          have Hecl := hide hecl
          have Hze := hide hze
          have hle : (l : Int) ≤ (m : Int) + n := by omega
          have hln2 : l ≤ m + n := by omega
          subst hpl
          clear hpc hEc hzs hze hzl bA hqm hln hecl
          go_wp2_with (first
            | (have z := T5; at_builtin; refine wpList_moreM rfl _ _ rfl wr.heap.size _ _ [] ec m (by rw [Hecl.out]; simp) rfl rfl R0.out hE0.out hO0.out (by omega) hszA ?_; intro d1 c1 w5 R1 hg1; have B1 := R0.out.below (n := w.heap.size) B.size B0.size hg1 B0; have bz1 := R0.out.below (n := wr.heap.size) (Nat.le_refl _) hszA hg1 (b_alloc wr (.cells #[] 41)); rw [List.nil_append] at R1; have HR1 := hide R1; clear R1 hg1 T5 z)
            | (have z := T6; go_at_call 19; refine (rbcanon_new _ xs _ (HA0.out.later B1) FA).mono ?_; rw [Hxs.out]; rintro e w6 ⟨k6, j6, e6, rfl, hp6, hE6, hN6, bb⟩; rw [Hn.out] at hE6 ⊢; have R6 := hide (HR1.out.next bb); have B6 := b_then B1 bb; have bz6 := b_then bz1 bb; have hO6 := hide (off_of_new HR1.out hN6 (Nat.le_refl _)); have HE6 := hide hE6; have Hp6 := hide hp6; have hl6 : Hid (e6.length = n) := hide (by rw [← Hn.out, ← hp6]; simp [plainE]); clear hN6 hE6 hp6 bb T6 z)
            | (at_builtin; refine wpList_moreM rfl _ _ rfl wr.heap.size _ _ ec e6 (m + n) (by rw [Hecl.out, hl6.out]) rfl rfl R6.out HE6.out hO6.out (by omega) bz6.size ?_; intro d2 c2 w7 R7 hg7; have B7 := R6.out.below (n := w.heap.size) B.size B6.size hg7 B6; have bz7 := R6.out.below (n := wr.heap.size) (Nat.le_refl _) bz6.size hg7 bz6; have hb7 := R7.binds; rw [show plainE (ec ++ e6) = cs ++ xs' by (rw [← Hpc.out, ← Hp6.out]; simp [plainE])] at hb7; clear R7 hg7)
            | (go_at_call 18; refine (pbcanon_is _ (cs ++ xs') zs _ hb7 Fb Hze.out.symm).mono ?_; rintro e w8 ⟨k8, j8, rfl, C8, bb⟩; replace B7 := b_then B7 bb; replace bz7 := b_then bz7 bb; clear bb)
            | (go_at_call 17; refine (bvery_any _ _ zs zs true _ (Z.later bz7) C8 FZ.out FZ.out (veryB_self _)).mono ?_; rintro e w9 ⟨rfl, bb⟩; replace B7 := b_then B7 bb; clear bb)
            | (have z := T7; go_at_call 19; refine (rbcanon_is _ xs xs' _ (HA0.out.later B7) FA Hxs.out).mono ?_; rintro e w10 ⟨k10, j10, rfl, _, bb⟩; rw [Hn.out]; replace B7 := b_then B7 bb; clear bb T7 z))
          go_ret
          exact ⟨rfl, B7⟩
end Go.Proofs.Ytgnccmmbpgnamaa
