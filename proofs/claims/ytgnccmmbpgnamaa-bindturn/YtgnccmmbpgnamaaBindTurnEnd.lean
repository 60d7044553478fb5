/-
  Proved: for all variables and every further one the law BindTurn returns true: of unlike names the turn plays no part; of like names the first counts.
  Conditions: none: every input that can be read.
-/
import Derived.Test.YtgnccmmbpgnamaaQ1
import Derived.Test.YtgnccmmbpgnamaaL1
import Derived.Deep.Slices
import Derived.Deep.Strs
import Derived.Lib.SmallJoins
import Derived.OpenShut
import Derived.SizedLaws
import Derived.Test.YtgnccmmbpgnamaaD3
import Derived.Test.YtgnccmmbpgnamaaRows
import Derived.WalkKit
import Derived.ProofKit
import Derived.ShutString
import Derived.ChangeOld
import Derived.Below
/-
  WALKS: the law BindAll (layer 9).
-/
namespace Go.Proofs.Ytgnccmmbpgnamaa
open Go.RowKit

theorem set_len (bs : List Bd) (n : List UInt8) (v : Vl) : (setB bs n v).length ≤ bs.length + 1 := by
  unfold setB
  rw [canonB_len]
  have := names_len ((n, v) :: bs)
  simpa using this
theorem setAll_snoc (x c : List Bd) (b : Bd) : setAll x (c ++ [b]) = setB (setAll x c) b.1 b.2 := by simp [setAll]
theorem EsAt.two {w : World} {v : Value} {es : List Ev} {n : Nat} (h : EsAt w v es) (hn : es.length = n) : ∃ a c, v = .slice a n c := by
  subst hn; exact h.form
/-- a row that a literal without elements has made -/
theorem Rw.empty (w : World) : Rw w.heap.size (w.alloc (.cells #[] 41)) (.slice (some ⟨w.heap.size, 0, none⟩) 0 0) [] :=
  ⟨⟨rfl, .inr ⟨w.heap.size, 0, #[], rfl, Nat.le_refl _, Bx.made _ _ _, Nat.le_refl _, by unfold maxLen; omega, rfl, rfl⟩⟩, fun _ h => (by cases h), fun _ _ _ h => (by cases h)⟩
theorem off_of_old {W : World} {base : Nat} {W' : World} {v : Value} {es fs : List Ev} (R : Rw base W' v es) (h : ∀ f ∈ fs, EAt W f) (hb : W.heap.size ≤ base) : ∀ b, v.ownBlock = some b → ∀ f ∈ fs, OffE b f := fun b hb' f hf => OffE.old (h f hf) (Nat.le_trans hb (R.row.lt b hb').1)
theorem off_of_new {base n : Nat} {W : World} {v : Value} {es fs : List Ev} (R : Rw base W v es) (h : ∀ f ∈ fs, Newly n f.l ∧ Newly n f.p) (hn : W.heap.size ≤ n) : ∀ b, v.ownBlock = some b → ∀ f ∈ fs, OffE b f := fun b hb f hf => by
  have h2 := (R.row.lt b hb).2
  exact ⟨Off.newly (h f hf).1 (by omega), Off.newly (h f hf).2 (by omega)⟩
set_option maxRecDepth 20000 in
set_option maxHeartbeats 8000000 in
theorem all_walk (va vb : Value) (xs ys : List Bd) (w : World) (HA : BindsAt w va xs) (HB : BindsAt w vb ys) (WA : WideB xs) (WB : WideB ys) : Calls Try.prog 8 #[va, vb] w fun e w' => e = .returned (.bool true) ∧ Below w.heap.size w w' := by
  have B := Below.refl w.heap.size w
  have HA0 := hide HA
  have HB0 := hide HB
  obtain ⟨aa, ac, rfl⟩ := HA.form
  obtain ⟨ba, bc, rfl⟩ := HB.form
  have T1 : Hid True := trivial
  have T2 : Hid True := trivial
  clear HA HB
  cases ha : fewB xs with
  | false =>
    have Ha := hide ha
    clear ha
    go_enter Try.func8, Try.ntmps8
    go_wp2_with (first
      | (go_at_call 9; refine (awake_any _).mono ?_; rintro e w1 ⟨rfl, bb⟩; replace B := bb; clear bb)
      | (go_at_call 10; refine (bfew_is _ xs false _ (HA0.out.later B) WA Ha.out).mono ?_; rintro e w2 ⟨rfl, bb⟩; replace B := b_then B bb; clear bb))
    go_ret
    exact ⟨rfl, B⟩
  | true =>
    have Ha := hide ha
    have FA := fd_of ha
    have hxl := (fewB_of ha).1
    clear ha
    cases hb : fewB ys with
    | false =>
      have Hb := hide hb
      clear hb
      go_enter Try.func8, Try.ntmps8
      go_wp2_with (first
        | (go_at_call 9; refine (awake_any _).mono ?_; rintro e w1 ⟨rfl, bb⟩; replace B := bb; clear bb)
        | (have z := T1; go_at_call 10; refine (bfew_is _ xs true _ (HA0.out.later B) WA Ha.out).mono ?_; rintro e w2 ⟨rfl, bb⟩; replace B := b_then B bb; clear bb T1 z)
        | (have z := T2; go_at_call 10; refine (bfew_is _ ys false _ (HB0.out.later B) WB Hb.out).mono ?_; rintro e w2 ⟨rfl, bb⟩; replace B := b_then B bb; clear bb T2 z))
      go_ret
      exact ⟨rfl, B⟩
    | true =>
      have Hb := hide hb
      have FB := fd_of hb
      have hyl := (fewB_of hb).1
      clear hb
      obtain ⟨xs', hxs⟩ : ∃ cs, canonB xs = cs := ⟨_, rfl⟩
      obtain ⟨cs, hcs⟩ : ∃ cs, canonB ys = cs := ⟨_, rfl⟩
      have Fx : Fd xs' := by rw [← hxs]; exact FA.canon
      have Fc : Fd cs := by rw [← hcs]; exact FB.canon
      have hxl' : xs'.length ≤ 20 := by rw [← hxs, canonB_len]; exact Nat.le_trans (names_len xs) hxl
      have hcl : cs.length ≤ 20 := by rw [← hcs, canonB_len]; exact Nat.le_trans (names_len ys) hyl
      have hall : setAll xs' cs = canonB (cs ++ xs') := by rw [← hxs, ← hcs]; exact setAll_both xs ys
      have hble : (canonB (cs ++ xs')).length ≤ cs.length + xs'.length := by rw [← hxs, ← hcs]; exact both_len xs ys
      have Fb : Fd (cs ++ xs') := ⟨by simp; omega, fun b hb => by
        rcases List.mem_append.1 hb with hb | hb
        · exact Fc.all b hb
        · exact Fx.all b hb⟩
      obtain ⟨m, hm⟩ : ∃ m, cs.length = m := ⟨_, rfl⟩
      obtain ⟨n, hn⟩ : ∃ n, xs'.length = n := ⟨_, rfl⟩
      obtain ⟨p, hp⟩ : ∃ p, (canonB (cs ++ xs')).length = p := ⟨_, rfl⟩
      rw [hm] at hcl
      rw [hn] at hxl'
      rw [hm, hn, hp] at hble
      have Hm := hide hm
      have Hn := hide hn
      have Hp := hide hp
      have Hxs := hide hxs
      have Hcs := hide hcs
      have Hall := hide hall
      have T3 : Hid True := trivial
      have T4 : Hid True := trivial
      have T5 : Hid True := trivial
      have T6 : Hid True := trivial
      have T7 : Hid True := trivial
      clear hm hn hp hxs hcs hall
      go_enter Try.func8, Try.ntmps8
      go_wp2_with (first
        | (go_at_call 9; refine (awake_any _).mono ?_; rintro e w1 ⟨rfl, bb⟩; replace B := bb; clear bb)
        | (have z := T1; go_at_call 10; refine (bfew_is _ xs true _ (HA0.out.later B) WA Ha.out).mono ?_; rintro e w2 ⟨rfl, bb⟩; replace B := b_then B bb; clear bb T1 z)
        | (have z := T2; go_at_call 10; refine (bfew_is _ ys true _ (HB0.out.later B) WB Hb.out).mono ?_; rintro e w2 ⟨rfl, bb⟩; replace B := b_then B bb; clear bb T2 z)
        | (have z := T3; go_at_call 19; refine (rbcanon_is _ ys cs _ (HB0.out.later B) FB Hcs.out).mono ?_; rintro e w3 ⟨k1, j1, rfl, C1, bb⟩; rw [Hm.out] at C1 ⊢; replace B := b_then B bb; clear bb T3 z)
        | (have z := T4; go_at_call 19; refine (rbcanon_is _ xs xs' _ (HA0.out.later B) FA Hxs.out).mono ?_; rintro e w4 ⟨k2, j2, rfl, C2, bb⟩; rw [Hn.out] at C2 ⊢; replace C1 := C1.later bb; replace B := b_then B bb; clear bb T4 z))
      have HC := hide C1
      have HX := hide C2
      have HB4 := hide B
      clear C1 C2 B
      go_loopw [7, 8] (fun o i wr => ∃ (q l : Nat) (zs : List Bd) (za : Option Addr) (zc : Nat), q ≤ m ∧ i = .int .i64 q ∧ setAll xs' (cs.take q) = zs ∧ zs.length = l ∧ l ≤ n + q ∧ o = .slice za l zc ∧ BindsAt wr (.slice za l zc) zs ∧ Hid (Fd zs) ∧ Below w4.heap.size w4 wr) (fun _ i _ => m - (intOf i).toNat)
      case atStart => exact ⟨0, n, xs', k2, j2, Nat.zero_le _, rfl, rfl, Hn.out, by omega, rfl, HX.out, hide Fx, Below.refl _ _⟩
      case round =>
        obtain ⟨q, l, zs, za, zc, hq, rfl, hzs, hzl, hln, rfl, Z, FZ, Bw⟩ := hrel
        have B := b_then HB4.out Bw
        by_cases hlm : q < m
        · have hqc : q < cs.length := by rw [Hm.out]; exact hlm
          obtain ⟨b, off, cap, kd, M, S, sl, sp, ea, hb, c0, c1, c2, c3, c4, hv, hM⟩ := (HC.out.later Bw).one q hqc
          rw [Hm.out] at ea
          cases ea
          have fq := Fc.all _ (List.getElem_mem hqc)
          have hst : setAll xs' (cs.take (q + 1)) = setB zs cs[q].1 cs[q].2 := by rw [List.take_succ_eq_append_getElem hqc, setAll_snoc, hzs]
          have hsl := set_len zs cs[q].1 cs[q].2
          obtain ⟨y, hy⟩ : ∃ y, cs[q] = y := ⟨_, rfl⟩
          rw [hy] at hv hM fq hst hsl
          obtain ⟨zs', hz'⟩ : ∃ zs', setB zs y.1 y.2 = zs' := ⟨_, rfl⟩
          rw [hz'] at hst hsl
          have hMl : M.size ≤ 200 := by rw [size_list, hM]; exact fq.nm
          have Fz' : Hid (Fd zs') := hide (by rw [← hz']; exact (set_fd FZ.out fq.vl fq.nm (by omega)).canon)
          have hset : setB zs M.data.toList y.2 = zs' := by rw [hM]; exact hz'
          have HSet := hide (fun W (BW : Below wr.heap.size wr W) => pbset_any (.slice za l zc) (.agg #[.int .i64 kd, .string S, sl, sp]) zs zs' M y.2 W (Z.later BW) (hv.later BW) FZ.out fq.vl hMl (by omega) hset)
          obtain ⟨l', hl'⟩ : ∃ l', zs'.length = l' := ⟨_, rfl⟩
          rw [hl', hzl] at hsl
          have Hst := hide hst
          have Hl' := hide hl'
          have h0 : (0 : Int) ≤ q := by omega
          have h1 : (q : Int) < m := by omega
          have hcells : wr.cell? ⟨b, off + q * 5, none⟩ = some (.string M) ∧ wr.cell? ⟨b, off + q * 5 + 1, none⟩ = some (.int .i64 kd) ∧ wr.cell? ⟨b, off + q * 5 + 2, none⟩ = some (.string S) ∧ wr.cell? ⟨b, off + q * 5 + 3, none⟩ = some sl ∧ wr.cell? ⟨b, off + q * 5 + 4, none⟩ = some sp := ⟨c0, c1, c2, c3, c4⟩
          have Hcl := hide hcells
          clear hv hM fq hst hy hset hz' hqc hl' hzl hzs hcells
          have Hcd : wr.drew.cell? ⟨b, off + q * 5, none⟩ = some (.string M) ∧ wr.drew.cell? ⟨b, off + q * 5 + 1, none⟩ = some (.int .i64 kd) ∧ wr.drew.cell? ⟨b, off + q * 5 + 2, none⟩ = some (.string S) ∧ wr.drew.cell? ⟨b, off + q * 5 + 3, none⟩ = some sl ∧ wr.drew.cell? ⟨b, off + q * 5 + 4, none⟩ = some sp := Hcl.out
          go_wp2
          obtain ⟨x0, x1, x2, x3, x4⟩ := Hcl.out
          go_region_held3 (fun W => W.cell? ⟨b, off + q * 5, none⟩ = some (.string M) ∧ W.cell? ⟨b, off + q * 5 + 1, none⟩ = some (.int .i64 kd) ∧ W.cell? ⟨b, off + q * 5 + 2, none⟩ = some (.string S) ∧ W.cell? ⟨b, off + q * 5 + 3, none⟩ = some sl ∧ W.cell? ⟨b, off + q * 5 + 4, none⟩ = some sp) (first | with_reducible exact Hc5 | with_reducible exact Hcd | with_reducible exact Hcl.out)
            ((go_at_call 23; refine (HSet.out _ (b_drew wr)).mono ?_; rintro e w5 ⟨k5, j5, rfl, Z5, bb⟩; rw [Hl'.out] at Z5 ⊢; replace bb := b_then (b_drew wr) bb; have Hc5 : w5.cell? ⟨b, off + q * 5, none⟩ = some (.string M) ∧ w5.cell? ⟨b, off + q * 5 + 1, none⟩ = some (.int .i64 kd) ∧ w5.cell? ⟨b, off + q * 5 + 2, none⟩ = some (.string S) ∧ w5.cell? ⟨b, off + q * 5 + 3, none⟩ = some sl ∧ w5.cell? ⟨b, off + q * 5 + 4, none⟩ = some sp := ⟨(bb.cell (p := ⟨b, _, none⟩) hb).trans x0, (bb.cell (p := ⟨b, _, none⟩) hb).trans x1, (bb.cell (p := ⟨b, _, none⟩) hb).trans x2, (bb.cell (p := ⟨b, _, none⟩) hb).trans x3, (bb.cell (p := ⟨b, _, none⟩) hb).trans x4⟩))
          go_wp2
          go_roundw
          case rel => exact ⟨q + 1, l', zs', k5, j5, by omega, by go_num, Hst.out, Hl'.out, by omega, rfl, Z5, Fz', b_then Bw bb⟩
          case measure => simp [intOf]; omega
        · have hze : zs = canonB (cs ++ xs') := by rw [← hzs, List.take_of_length_le (by rw [Hm.out]; omega)]; exact Hall.out
          have hpl : l = p := by rw [← hzl, hze]; exact Hp.out
          have hqm : q = m := by omega
          obtain ⟨ec, hpc, hEc⟩ := HC.out.later Bw
          have hecl : ec.length = m := by rw [← Hm.out, ← hpc]; simp [plainE]
          have bA := b_alloc wr (.cells #[] 41)
          have R0 := hide (Rw.empty wr)
          have hE0 := hide (hEc.later bA)
          have hO0 := hide (off_of_old R0.out hEc.2 (Nat.le_refl _))
          have B0 := b_then B bA
          have hszA := bA.size
          have Hpc := hide hpc
          have Hecl := hide hecl
          have Hze := hide hze
          have hle : (l : Int) ≤ (m : Int) + n := by omega
          have hln2 : l ≤ m + n := by omega
          subst hpl
          clear hpc hEc hzs hze hzl bA hqm hln hecl
          go_wp2_with (first
            | (have z := T5; at_builtin; refine wpList_moreM rfl _ _ rfl wr.heap.size _ _ [] ec m (by rw [Hecl.out]; simp) rfl rfl R0.out hE0.out hO0.out (by omega) hszA ?_; intro d1 c1 w5 R1 hg1; have B1 := R0.out.below (n := w.heap.size) B.size B0.size hg1 B0; have bz1 := R0.out.below (n := wr.heap.size) (Nat.le_refl _) hszA hg1 (b_alloc wr (.cells #[] 41)); rw [List.nil_append] at R1; have HR1 := hide R1; clear R1 hg1 T5 z)
            | (have z := T6; go_at_call 19; refine (rbcanon_new _ xs _ (HA0.out.later B1) FA).mono ?_; rw [Hxs.out]; rintro e w6 ⟨k6, j6, e6, rfl, hp6, hE6, hN6, bb⟩; rw [Hn.out] at hE6 ⊢; have R6 := hide (HR1.out.next bb); have B6 := b_then B1 bb; have bz6 := b_then bz1 bb; have hO6 := hide (off_of_new HR1.out hN6 (Nat.le_refl _)); have HE6 := hide hE6; have Hp6 := hide hp6; have hl6 : Hid (e6.length = n) := hide (by rw [← Hn.out, ← hp6]; simp [plainE]); clear hN6 hE6 hp6 bb T6 z)
            | (at_builtin; refine wpList_moreM rfl _ _ rfl wr.heap.size _ _ ec e6 (m + n) (by rw [Hecl.out, hl6.out]) rfl rfl R6.out HE6.out hO6.out (by omega) bz6.size ?_; intro d2 c2 w7 R7 hg7; have B7 := R6.out.below (n := w.heap.size) B.size B6.size hg7 B6; have bz7 := R6.out.below (n := wr.heap.size) (Nat.le_refl _) bz6.size hg7 bz6; have hb7 := R7.binds; rw [show plainE (ec ++ e6) = cs ++ xs' by (rw [← Hpc.out, ← Hp6.out]; simp [plainE])] at hb7; clear R7 hg7)
            | (go_at_call 18; refine (pbcanon_is _ (cs ++ xs') zs _ hb7 Fb Hze.out.symm).mono ?_; rintro e w8 ⟨k8, j8, rfl, C8, bb⟩; replace B7 := b_then B7 bb; replace bz7 := b_then bz7 bb; clear bb)
            | (go_at_call 17; refine (bvery_any _ _ zs zs true _ (Z.later bz7) C8 FZ.out FZ.out (veryB_self _)).mono ?_; rintro e w9 ⟨rfl, bb⟩; replace B7 := b_then B7 bb; clear bb)
            | (have z := T7; go_at_call 19; refine (rbcanon_is _ xs xs' _ (HA0.out.later B7) FA Hxs.out).mono ?_; rintro e w10 ⟨k10, j10, rfl, _, bb⟩; rw [Hn.out]; replace B7 := b_then B7 bb; clear bb T7 z))
          go_ret
          exact ⟨rfl, B7⟩
end Go.Proofs.Ytgnccmmbpgnamaa

/-
  WALKS: the law BindTurn (layer 9).
-/
namespace Go.Proofs.Ytgnccmmbpgnamaa
open Go.RowKit

theorem nodup_more {l : List (List UInt8)} {n : List UInt8} : (l ++ [n]).Nodup ↔ l.Nodup ∧ n ∉ l := by
  rw [List.nodup_append]
  simp
  intro _
  exact ⟨fun h hn => h n hn rfl, fun h a ha e => h (by rw [← e]; exact ha)⟩
theorem Rw.weak {base n : Nat} {W : World} {v : Value} {es : List Ev} (h : Rw base W v es) (hn : n ≤ base) : Rw n W v es := by
  refine ⟨⟨h.row.1, ?_⟩, h.val, h.off⟩
  rcases h.row.2 with h2 | ⟨g, cap, cur, h1, h2, h3⟩
  · exact .inl h2
  · exact .inr ⟨g, cap, cur, h1, Nat.le_trans hn h2, h3⟩
theorem keep_bx {W W' : World} {k : Nat} {cs : Array Value} {t : TypeId} {row : Option Nat} (X : Bx W k cs t) (hg : W.grownBy W' row) (hne : some k ≠ row) : Bx W' k cs t := (hg.block k X.lt hne).trans X
theorem ev_of {M S : ByteArray} {kd : Int} {l p : Value} {b : Bd} {w : World} (hM : M.data.toList = b.1) (hv : VlAt w (.agg #[.int .i64 kd, .string S, l, p]) b.2) : EAt w ⟨b, l, p⟩ ∧ cellsE ⟨b, l, p⟩ = [.string M, .int .i64 kd, .string S, l, p] := by
  have eM : M = ⟨b.1.toArray⟩ := by rw [← hM]
  obtain ⟨sl, sp, e, h1, h2⟩ := hv
  cases e
  rw [eM]
  exact ⟨⟨h1, h2⟩, rfl⟩
theorem one_binds {W : World} {k : Nat} {e : Ev} {M S : ByteArray} {kd : Int} {l p : Value} (X : Bx W k #[.string M, .int .i64 kd, .string S, l, p] 41) (he : EAt W e) (hc : cellsE e = [.string M, .int .i64 kd, .string S, l, p]) : BindsE W (.slice (some ⟨k, 0, none⟩) 1 1) [e] := by
  refine ⟨.inr ⟨by simp, k, 0, 1, rfl, fun q hq j u hj => ?_⟩, fun f hf => by rw [List.mem_singleton] at hf; subst hf; exact he⟩
  have hq0 : q = 0 := by simp at hq; omega
  subst hq0
  simp only [List.getElem_cons_zero] at hj
  rw [hc] at hj
  have := X.cell j u (by simpa using hj)
  simpa using this
theorem step_moreM {ops : Array Oper} {o : Oper} {a : Act} {w : World} {K : Act → World → Prop} {Q : Exit → Act → World → Prop} {E : Prop} (hgd : o.guard = none) (s x : Operand)
    (ho : o.op = .call { callee := .builtin .append, args := #[s, x], argTypes := #[22, 22] }) (base : Nat) (v u : Value) (es fs : List Ev) (m : Nat) (hm : es.length + fs.length = m) (hs : a.eval s = v) (hx : a.eval x = u)
    (hr : Rw base w v es) (hu : BindsE w u fs) (hof : ∀ b, v.ownBlock = some b → ∀ f ∈ fs, OffE b f) (hn : m ≤ 1000000) (hbase : base ≤ w.heap.size)
    (h : ∀ d c w', Rw base w' (.slice d m c) (es ++ fs) → w.grownBy w' v.ownBlock → K (a.put o.dst (.slice d m c)) w') :
    if Region.wanted o (yielded ops a.tmps) = true then Oper.wp Try.prog o a w K Q else E := by
  have hw : Region.wanted o (yielded ops a.tmps) = true := by simp [Region.wanted, hgd]
  rw [if_pos hw]
  subst hm
  obtain ⟨d, c, w', hrun, h2, h3⟩ := run_moreB w o.type base v u es fs hr hu hof hn hbase
  unfold Oper.wp execOp
  simp only [ho, resolve, invoke, builtin, Sem.run_bind, Sem.run_pure, Result.andThen_ok, List.map_toArray, List.map_cons, List.map_nil, hs, hx, hrun]
  exact h d c w' h2 h3
set_option maxRecDepth 20000 in
set_option maxHeartbeats 16000000 in
theorem turn_walk (va : Value) (xs : List Bd) (M S : ByteArray) (kd : Int) (a1 a2 : Option Addr) (n1 n2 c1 c2 : Nat) (b : Bd) (w : World) (HA : BindsAt w va xs) (hM : M.data.toList = b.1) (hv : VlAt w (.agg #[.int .i64 kd, .string S, .slice a1 n1 c1, .slice a2 n2 c2]) b.2) (WA : WideB xs) (WB : WideB [b]) :
    Calls Try.prog 7 #[va, .agg #[.string M, .int .i64 kd, .string S, .slice a1 n1 c1, .slice a2 n2 c2]] w fun e w' => e = .returned (.bool true) ∧ Below w.heap.size w w' := by
  obtain ⟨i0, hi, hz0, hz1, hz2⟩ := info_parts info9
  obtain ⟨heb, hC⟩ := ev_of hM hv
  obtain ⟨eb, hev⟩ : ∃ eb : Ev, (⟨b, .slice a1 n1 c1, .slice a2 n2 c2⟩ : Ev) = eb := ⟨_, rfl⟩
  have hebb : eb.b = b := by rw [← hev]
  rw [hev] at heb hC
  have Heb := hide heb
  have HC := hide hC
  have Hebb := hide hebb
  have HMd := hide hM
  have HA0 := hide HA
  obtain ⟨aa, ac, rfl⟩ := HA.form
  have X := Bx.made w #[.string M, .int .i64 kd, .string S, .slice a1 n1 c1, .slice a2 n2 c2] 41
  have B := b_alloc w (.cells #[.string M, .int .i64 kd, .string S, .slice a1 n1 c1, .slice a2 n2 c2] 41)
  have T1 : Hid True := trivial
  have T2 : Hid True := trivial
  clear HA heb hC hev hv hebb hM
  cases ha : fewB xs with
  | false =>
    have Ha := hide ha
    clear ha
    go_enter Try.func7, Try.ntmps7
    go_wp2_with (first
      | (go_at_call 9; refine (awake_any _).mono ?_; rintro e w1 ⟨rfl, bb⟩; replace B := b_then B bb; clear bb)
      | (go_at_call 10; refine (bfew_is _ xs false _ (HA0.out.later B) WA Ha.out).mono ?_; rintro e w2 ⟨rfl, bb⟩; replace B := b_then B bb; clear bb))
    go_ret
    exact ⟨rfl, B⟩
  | true =>
    have Ha := hide ha
    have FA := fd_of ha
    have hxl := (fewB_of ha).1
    clear ha
    cases hb : fewB [b] with
    | false =>
      have Hb := hide hb
      clear hb
      go_enter Try.func7, Try.ntmps7
      go_wp2_with (first
        | (go_at_call 9; refine (awake_any _).mono ?_; rintro e w1 ⟨rfl, bb⟩; replace B := b_then B bb; replace X := X.next bb; clear bb)
        | (have z := T1; go_at_call 10; refine (bfew_is _ xs true _ (HA0.out.later B) WA Ha.out).mono ?_; rintro e w2 ⟨rfl, bb⟩; replace B := b_then B bb; replace X := X.next bb; obtain ⟨x0, x1, x2, x3, x4⟩ := cells5 X; have HB : BindsAt (w2.alloc (.cells #[.string M, .int .i64 kd, .string S, .slice a1 n1 c1, .slice a2 n2 c2] 41)) (.slice (some ⟨w2.heap.size, 0, none⟩) 1 1) [b] := ⟨[eb], by (rw [← Hebb.out]; rfl), one_binds (Bx.made w2 _ 41) (Heb.out.later (B.alloc B.size _)) HC.out⟩; replace B := B.alloc B.size (.cells #[.string M, .int .i64 kd, .string S, .slice a1 n1 c1, .slice a2 n2 c2] 41); clear bb T1 z)
        | (have z := T2; go_at_call 10; refine (bfew_is _ [b] false _ HB WB Hb.out).mono ?_; rintro e w3 ⟨rfl, bb⟩; replace B := b_then B bb; clear bb T2 z))
      go_ret
      exact ⟨rfl, B⟩
    | true =>
      have Hb := hide hb
      have FB := (fewB_of hb).2 b (List.mem_cons_self ..)
      clear hb
      have T8 : Hid True := trivial
      have T9 : Hid True := trivial
      go_enter Try.func7, Try.ntmps7
      go_wp2_with (first
        | (go_at_call 9; refine (awake_any _).mono ?_; rintro e w1 ⟨rfl, bb⟩; replace B := b_then B bb; replace X := X.next bb; clear bb)
        | (have z := T1; go_at_call 10; refine (bfew_is _ xs true _ (HA0.out.later B) WA Ha.out).mono ?_; rintro e w2 ⟨rfl, bb⟩; replace B := b_then B bb; replace X := X.next bb; obtain ⟨x0, x1, x2, x3, x4⟩ := cells5 X; have HB : BindsAt (w2.alloc (.cells #[.string M, .int .i64 kd, .string S, .slice a1 n1 c1, .slice a2 n2 c2] 41)) (.slice (some ⟨w2.heap.size, 0, none⟩) 1 1) [b] := ⟨[eb], by (rw [← Hebb.out]; rfl), one_binds (Bx.made w2 _ 41) (Heb.out.later (B.alloc B.size _)) HC.out⟩; replace B := B.alloc B.size (.cells #[.string M, .int .i64 kd, .string S, .slice a1 n1 c1, .slice a2 n2 c2] 41); replace X := X.later (.cells #[.string M, .int .i64 kd, .string S, .slice a1 n1 c1, .slice a2 n2 c2] 41); clear bb T1 z)
        | (have z := T2; go_at_call 10; refine (bfew_is _ [b] true _ HB WB Hb.out).mono ?_; rintro e w3 ⟨rfl, bb⟩; replace B := b_then B bb; replace X := X.next bb; clear bb T2 z))
      have B3 := hide B
      have X3 := hide X
      obtain ⟨m, hm⟩ : ∃ m, xs.length = m := ⟨_, rfl⟩
      have Hm := hide hm
      rw [hm] at HA0 hxl ⊢
      clear B X HB x0 x1 x2 x3 x4 hm
      go_loopw [6, 7, 8] (fun u o i wr => ∃ (q : Nat) (ms : List (List UInt8)) (t : Bool) (na : Option Addr) (nc : Nat), q ≤ m ∧ i = .int .i64 q ∧ (xs.take q).map (·.1) = ms ∧ ms.length ≤ q ∧ Hid (t = true ↔ ms.Nodup) ∧ o = .bool t ∧ u = .slice na ms.length nc ∧ Sr w3 wr (.slice na ms.length nc) ms) (fun _ _ i _ => m - (intOf i).toNat)
      case atStart => exact ⟨0, [], true, none, 0, Nat.zero_le _, rfl, rfl, Nat.le_refl _, hide (iff_of_true rfl List.nodup_nil), rfl, rfl, Sr.nil _⟩
      case round =>
        obtain ⟨q, ms, t, na, nc, hq, rfl, hms, hml, Ho, rfl, rfl, R0⟩ := hrel
        by_cases hlm : q < m
        · have hqx : q < xs.length := by rw [Hm.out]; exact hlm
          obtain ⟨b1, off, cap0, kd0, N, S0, sl0, sp0, ea, hb1, d0, _, _, _, _, hv0, hN⟩ := (HA0.out.later (b_then B3.out R0.bel)).one q hqx
          rw [Hm.out] at ea
          cases ea
          have hnx : (xs.take (q + 1)).map (·.1) = ms ++ [xs[q].1] := by rw [List.take_succ_eq_append_getElem hqx, List.map_append, hms]; rfl
          obtain ⟨n, hn⟩ : ∃ n, xs[q].1 = n := ⟨_, rfl⟩
          rw [hn] at hnx hN
          have HNd := hide hN
          have Hnx := hide hnx
          have R := hide R0
          have h0 : (0 : Int) ≤ q := by omega
          have h1 : (q : Int) < m := by omega
          clear hv0
          clear hnx hN hn hms R0 hqx
          cases t with
          | false =>
            go_wp2_with (first
              | fail
              | (at_builtin; refine wpList_append_lies _ rfl _ _ 25 rfl w3.heap.size 9 i0 (.string ⟨#[]⟩) 1 16 Try.underlying25 hi hz0 hz1 hz2 rfl (by decide) _ ms.length (strsV ms) rfl (R.out.alloc (.cells #[.string N] 9)).row ⟨wr.heap.size, 0, none⟩ 1 1 [.string N] rfl rfl news1 ?c2 (by decide) ?c3 ?c4 ?c5 _ rfl ?_))
            case c2 => intro u hu; simp at hu; subst hu; rfl
            case c3 => unfold maxLen; omega
            case c4 => omega
            case c5 => have := R.out.bel.size; simp; omega
            intro g cap w8 hown hgrow hat hlt4
            have R8 := R.out.snoc HNd.out hgrow hown
            have hl8 : (ms ++ [n]).length = ms.length + 1 := by simp
            have HR8 := hide R8
            clear hown hgrow hat hlt4 R8
            go_wp2
            go_roundw
            case rel => exact ⟨q + 1, ms ++ [n], false, some ⟨g, 0, none⟩, cap, by omega, by go_num, Hnx.out, by omega, hide (iff_of_false (by simp) (fun h => by have := Ho.out.2 (nodup_more.1 h).1; cases this)), rfl, by rw [hl8], HR8.out⟩
            case measure => simp [intOf]; omega
          | true =>
            obtain ⟨hc, hhc⟩ : ∃ hc, ms.contains N.data.toList = hc := ⟨_, rfl⟩
            have Hhc := hide hhc
            rw [HNd.out] at hhc
            cases hc with
            | true =>
              have hnc : n ∈ ms := List.contains_iff_mem.1 hhc
              clear hhc
              go_wp2_with (first
                | (go_at_call 26; refine (has_is ms _ N true _ (by omega) (StrsAt.of_owns R.out.row) Hhc.out).mono ?_; rintro e w7 ⟨rfl, b7⟩; have g7 := ((b7.cell (p := ⟨b1, off + q * 5, none⟩) (lt_of_cell d0)).trans d0); have R7 := hide (R.out.next b7))
                | (at_builtin; refine wpList_append_lies _ rfl _ _ 25 rfl w3.heap.size 9 i0 (.string ⟨#[]⟩) 1 16 Try.underlying25 hi hz0 hz1 hz2 rfl (by decide) _ ms.length (strsV ms) rfl (R7.out.alloc (.cells #[.string N] 9)).row ⟨w7.heap.size, 0, none⟩ 1 1 [.string N] rfl rfl news1 ?c2 (by decide) ?c3 ?c4 ?c5 _ rfl ?_))
              case c2 => intro u hu; simp at hu; subst hu; rfl
              case c3 => unfold maxLen; omega
              case c4 => omega
              case c5 => have := R7.out.bel.size; simp; omega
              intro g cap w8 hown hgrow hat hlt4
              have R8 := R7.out.snoc HNd.out hgrow hown
              have hl8 : (ms ++ [n]).length = ms.length + 1 := by simp
              have HR8 := hide R8
              clear hown hgrow hat hlt4 R8
              go_wp2
              go_roundw
              case rel => exact ⟨q + 1, ms ++ [n], false, some ⟨g, 0, none⟩, cap, by omega, by go_num, Hnx.out, by omega, hide (iff_of_false (by simp) (fun h => (nodup_more.1 h).2 hnc)), rfl, by rw [hl8], HR8.out⟩
              case measure => simp [intOf]; omega
            | false =>
              have hnc : n ∉ ms := fun h => by rw [List.contains_iff_mem.2 h] at hhc; cases hhc
              clear hhc
              go_wp2_with (first
                | (go_at_call 26; refine (has_is ms _ N false _ (by omega) (StrsAt.of_owns R.out.row) Hhc.out).mono ?_; rintro e w7 ⟨rfl, b7⟩; have g7 := ((b7.cell (p := ⟨b1, off + q * 5, none⟩) (lt_of_cell d0)).trans d0); have R7 := hide (R.out.next b7))
                | (at_builtin; refine wpList_append_lies _ rfl _ _ 25 rfl w3.heap.size 9 i0 (.string ⟨#[]⟩) 1 16 Try.underlying25 hi hz0 hz1 hz2 rfl (by decide) _ ms.length (strsV ms) rfl (R7.out.alloc (.cells #[.string N] 9)).row ⟨w7.heap.size, 0, none⟩ 1 1 [.string N] rfl rfl news1 ?c2 (by decide) ?c3 ?c4 ?c5 _ rfl ?_))
              case c2 => intro u hu; simp at hu; subst hu; rfl
              case c3 => unfold maxLen; omega
              case c4 => omega
              case c5 => have := R7.out.bel.size; simp; omega
              intro g cap w8 hown hgrow hat hlt4
              have R8 := R7.out.snoc HNd.out hgrow hown
              have hl8 : (ms ++ [n]).length = ms.length + 1 := by simp
              have HR8 := hide R8
              clear hown hgrow hat hlt4 R8
              go_wp2
              go_roundw
              case rel => exact ⟨q + 1, ms ++ [n], true, some ⟨g, 0, none⟩, cap, by omega, by go_num, Hnx.out, by omega, hide (iff_of_true rfl (nodup_more.2 ⟨Ho.out.1 (by first | rfl | trivial), hnc⟩)), rfl, by rw [hl8], HR8.out⟩
              case measure => simp [intOf]; omega
        · obtain ⟨w4, hw4⟩ : ∃ w4, w4 = wr := ⟨_, rfl⟩
          subst hw4
          have hqm : q = m := by omega
          have hnms : xs.map (·.1) = ms := by rw [← hms, List.take_of_length_le (by rw [Hm.out]; omega)]
          obtain ⟨nl, hnl⟩ : ∃ nl, ms.length = nl := ⟨_, rfl⟩
          have HT := hide (StrsAt.of_owns R0.row)
          rw [hnl] at HT hml ⊢
          have B4 := hide (b_then B3.out R0.bel)
          have X4 := hide (X3.out.next R0.bel)
          obtain ⟨es, hpe, hE4⟩ := HA0.out.later B4.out
          have HE4 := hide hE4
          have Hpe := hide hpe
          have Hnms := hide hnms
          have Hnl := hide hnl
          have hel : es.length = m := by rw [← Hm.out, ← hpe]; simp [plainE]
          have Hel := hide hel
          clear hms hnms hpe hE4 R0 hnl hqm hel
          go_wp2
          go_loopw [9, 10] (fun o i wq => ∃ (k : Nat) (fs : List Ev) (va : Option Addr) (vc : Nat), k ≤ m ∧ i = .int .i64 (((m - k : Nat) : Int) - 1) ∧ es.reverse.take k = fs ∧ fs.length ≤ k ∧ o = .slice va fs.length vc ∧ Rw w4.heap.size wq (.slice va fs.length vc) fs ∧ Below w4.heap.size w4 wq) (fun _ i _ => (intOf i + 1).toNat)
          case atStart => exact ⟨0, [], none, 0, Nat.zero_le _, by go_num, rfl, Nat.le_refl _, rfl, Rw.nil _ _, Below.refl _ _⟩
          case round =>
            obtain ⟨k, fs, va, vc, hk, rfl, hfs, hfl, rfl, R, Bq⟩ := hrel
            by_cases hkm : k < m
            · obtain ⟨p, hp⟩ : ∃ p, m - k = p + 1 := ⟨m - k - 1, by omega⟩
              have e : ((m - k : Nat) : Int) - 1 = (p : Int) := by rw [hp]; omega
              rw [e]
              have hpl : p < es.length := by rw [Hel.out]; omega
              obtain ⟨bq, oq, cq, ea, hbq, g0, g1, g2, g3, g4⟩ := (HE4.out.1.later Bq).at p hpl
              rw [Hel.out] at ea
              cases ea
              have hep := HE4.out.2 _ (List.getElem_mem hpl)
              have hkr : k < es.reverse.length := by simp; rw [Hel.out]; exact hkm
              have hnx : es.reverse.take (k + 1) = fs ++ [es[p]] := by
                rw [List.take_succ_eq_append_getElem hkr, hfs, List.getElem_reverse]
                have : es.length - 1 - k = p := by rw [Hel.out]; omega
                simp only [this]
              obtain ⟨ep, hee⟩ : ∃ ep, es[p] = ep := ⟨_, rfl⟩
              rw [hee] at g0 g1 g2 g3 g4 hep hnx
              obtain ⟨l1, d1, hl1⟩ := hep.1.form
              obtain ⟨l2, d2, hl2⟩ := hep.2.form
              rw [hl1] at g3
              rw [hl2] at g4
              obtain ⟨N, hN⟩ : ∃ N : ByteArray, (⟨ep.b.1.toArray⟩ : ByteArray) = N := ⟨_, rfl⟩
              obtain ⟨S1, hS1⟩ : ∃ N : ByteArray, (⟨ep.b.2.s.toArray⟩ : ByteArray) = N := ⟨_, rfl⟩
              obtain ⟨k1, hk1⟩ : ∃ k, ep.b.2.kind = k := ⟨_, rfl⟩
              obtain ⟨y1, hy1⟩ : ∃ y, ep.b.2.l.length = y := ⟨_, rfl⟩
              obtain ⟨y2, hy2⟩ : ∃ y, ep.b.2.p.length = y := ⟨_, rfl⟩
              rw [hy1] at hl1 g3
              rw [hy2] at hl2 g4
              have hCp : cellsE ep = [.string N, .int .i64 k1, .string S1, .slice l1 y1 d1, .slice l2 y2 d2] := by unfold cellsE; rw [hN, hS1, hk1, hl1, hl2]
              rw [hN] at g0
              rw [hk1] at g1
              rw [hS1] at g2
              have HCp := hide hCp
              have Hep := hide hep
              have Hnx := hide hnx
              have HR := hide R
              have h0 : (0 : Int) ≤ p := by omega
              have h1 : (p : Int) < m := by omega
              have hfl2 : fs.length ≤ 20 := by omega
              clear hCp hep hnx hfs R hN hS1 hk1 hl1 hl2 hy1 hy2 hee e hkr hpl
              go_wp2_with (at_builtin; refine wpList_moreM rfl _ _ rfl w4.heap.size _ _ fs [ep] (fs.length + 1) rfl rfl rfl (HR.out.alloc _) (one_binds (Bx.made _ _ 41) (Hep.out.later (Bq.alloc Bq.size _)) HCp.out) (off_of_old HR.out (fun f hf => by rw [List.mem_singleton] at hf; subst hf; exact Hep.out) (Nat.le_refl _)) (by omega) (by have := Bq.size; simp; omega) ?_; intro p2 q2 w9 R9 hg9)
              have B9 := (HR.out.alloc (.cells #[.string N, .int .i64 k1, .string S1, .slice l1 y1 d1, .slice l2 y2 d2] 41)).below (n := w4.heap.size) (Nat.le_refl _) (Bq.alloc Bq.size _).size hg9 (Bq.alloc Bq.size _)
              have HR9 := hide R9
              have hl9 : (fs ++ [ep]).length = fs.length + 1 := by simp
              clear R9 hg9
              go_wp2
              go_roundw
              case rel => exact ⟨k + 1, fs ++ [ep], p2, q2, by omega, by go_num, Hnx.out, by omega, by rw [hl9], by rw [hl9]; exact HR9.out, B9⟩
              case measure => simp [intOf]
            · obtain ⟨w6, hw6⟩ : ∃ w6, w6 = wr := ⟨_, rfl⟩
              subst hw6
              have hkm2 : k = m := by omega
              have hbk : es.reverse = fs := by rw [← hfs, List.take_of_length_le (by simp; rw [Hel.out]; omega)]
              have hpb : plainE fs = xs.reverse := by rw [← hbk, ← Hpe.out]; simp [plainE]
              have hfl2 : fs.length = m := by rw [← hbk]; simp; exact Hel.out
              have B6 := hide (b_then B4.out Bq)
              have HX6 := hide (X4.out.next Bq)
              have HE6 := hide (HE4.out.later Bq)
              have HT6 := hide (HT.out.later Bq)
              have Hbk := hide R.binds
              have hxl3 : xs.length ≤ 20 := by rw [Hm.out]; exact hxl
              have Fbk : Fd (plainE fs) := ⟨by rw [hpb]; simp; omega, fun x hx => by rw [hpb, List.mem_reverse] at hx; exact FA.all x hx⟩
              have Fm : Fd (xs ++ [b]) := ⟨by simp; omega, fun x hx => by
                rcases List.mem_append.1 hx with hx | hx
                · exact FA.all x hx
                · rw [List.mem_singleton] at hx; subst hx; exact FB⟩
              have Hpm := hide (show plainE (es ++ [eb]) = xs ++ [b] by rw [← Hpe.out, ← Hebb.out]; simp [plainE])
              have Hrev := hide (show t = true → sameB xs (plainE fs) = true from fun ht => by rw [hpb]; exact sameB_of (canon_reverse (by rw [Hnms.out]; exact Ho.out.1 ht)))
              obtain ⟨hb, hhb⟩ : ∃ hb, ms.contains M.data.toList = hb := ⟨_, rfl⟩
              have Hhb := hide hhb
              have Hmore := hide (show hb = true → sameB xs (xs ++ [b]) = true from fun h => by
                rw [h, HMd.out] at hhb
                exact sameB_of (canon_more (by rw [Hnms.out]; exact List.contains_iff_mem.1 hhb)))
              rw [hfl2] at Hbk ⊢
              have BB0 : Hid (Below w6.heap.size w6 w6) := hide (Below.refl _ _)
              have hml2 : nl ≤ 20 := by omega
              have e2 : ((m - k : Nat) : Int) - 1 = -1 := by omega
              rw [e2]
              clear hfs hfl hbk hpb hhb R Bq hkm2 hkm hfl2 hml hk e2 hxl3
              cases t
              all_goals cases hb
              all_goals
                go_wp2
                refine wp_region_any (by kernel_rfl) ?_
                change wpAny _ _ _ _ _ _ _ (World.drew _)
                refine wpAny_take (i := 1) (v := ?_) rfl (by kernel_rfl) (by kernel_rfl) (by kernel_rfl) (fun _ _ _ h => h) (Or.inl ⟨by rfl, ?_⟩) ?_
                rotate_left
                · intro w; go_simp; try with_reducible rfl
                refine wpAny_ready (rs := [0, 3]) (by kernel_rfl) (by simp) ?_
                refine AllReady.cons rfl (fun K hK => ?_) ?_
                · have BB1 := hide ((BB0.out).alloc (BB0.out).size (.cells #[] 41))
                  have RR2 : Hid (Rw w6.heap.size (w6.alloc (.cells #[] 41)) (.slice (some ⟨w6.heap.size, 0, none⟩) 0 0) []) := hide (by have := (Rw.empty w6).weak (BB0.out).size; simpa using this)
                  go_simp
                  refine hK _ _ ?_; clear hK K
                  refine wpAny_ready (rs := [2, 3]) (by kernel_rfl) (by simp) ?_
                  refine AllReady.cons rfl (fun K hK => ?_) ?_
                  · refine step_moreM (by rfl) _ _ (by rfl) w6.heap.size (.slice (some ⟨w6.heap.size, 0, none⟩) 0 0) (.slice aa m ac) [] es m (by rw [Hel.out]; simp) (by rfl) (by rfl) RR2.out.drew (HE6.out.later BB1.out.drew) (off_of_old RR2.out HE6.out.2 (Nat.le_refl _)) (by omega) (BB1.out.drew).size ?_
                    intro d7 k7 w7 R7 hg7
                    have BB3 := hide ((RR2.out.drew).below (n := w6.heap.size) (Nat.le_refl _) (BB1.out.drew).size hg7 BB1.out.drew)
                    rw [List.nil_append] at R7
                    have RR4 := hide R7
                    clear R7 hg7
                    refine hK _ _ ?_; clear hK K
                    refine wpAny_ready (rs := [3]) (by kernel_rfl) (by simp) ?_
                    refine AllReady.cons rfl (fun K hK => ?_) AllReady.nil
                    obtain ⟨x0, x1, x2, x3, x4⟩ := cells5 (HX6.out.next BB3.out)
                    go_simp
                    refine hK _ _ ?_; clear hK K
                    clear x0 x1 x2 x3 x4
                    refine wpAny_ready (rs := [4]) (by kernel_rfl) (by simp) ?_
                    refine AllReady.cons rfl (fun K hK => ?_) AllReady.nil
                    have BB5 := hide ((BB3.out).alloc (BB3.out).size (.cells #[.string M, .int .i64 kd, .string S, .slice a1 n1 c1, .slice a2 n2 c2] 41))
                    have XX6 : Hid (Bx (w7.alloc (.cells #[.string M, .int .i64 kd, .string S, .slice a1 n1 c1, .slice a2 n2 c2] 41)) (w7.heap.size) #[.string M, .int .i64 kd, .string S, .slice a1 n1 c1, .slice a2 n2 c2] 41) := hide (by have := Bx.made w7 #[.string M, .int .i64 kd, .string S, .slice a1 n1 c1, .slice a2 n2 c2] 41; simpa using this)
                    have RR7 := hide ((RR4.out).alloc (.cells #[.string M, .int .i64 kd, .string S, .slice a1 n1 c1, .slice a2 n2 c2] 41))
                    go_simp
                    refine hK _ _ ?_; clear hK K
                    refine wpAny_ready (rs := [5]) (by kernel_rfl) (by simp) ?_
                    refine AllReady.cons rfl (fun K hK => ?_) AllReady.nil
                    refine step_moreM (by rfl) _ _ (by rfl) w6.heap.size (.slice d7 m k7) (.slice (some ⟨w7.heap.size, 0, none⟩) 1 1) es [eb] (m + 1) (by rw [Hel.out]; rfl) (by rfl) (by rfl) RR7.out (one_binds XX6.out (Heb.out.later (b_then B6.out BB5.out)) HC.out) (off_of_old RR7.out (fun f hf => by rw [List.mem_singleton] at hf; subst hf; exact Heb.out) B6.out.size) (by omega) BB5.out.size ?_
                    intro d9 k9 w9 R9 hg9
                    have bz9 := hide ((RR7.out).below (n := w6.heap.size) (Nat.le_refl _) BB5.out.size hg9 BB5.out)
                    have B9 := hide (b_then B6.out bz9.out)
                    have X9 := HX6.out.next bz9.out
                    obtain ⟨x0, x1, x2, x3, x4⟩ := cells5 X9
                    have hb9 := R9.binds
                    rw [Hpm.out] at hb9
                    have Hb9 := hide hb9
                    clear R9 hg9 hb9
                    refine hK _ _ ?_; clear hK K
                    refine wpAny_ready (rs := [6]) (by kernel_rfl) (by simp) ?_
                    refine AllReady.cons rfl (fun K hK => ?_) AllReady.nil
                    go_simp
                    refine hK _ _ ?_; clear hK K
                    refine wpAny_done (by kernel_rfl) ?_ _
                    go_wp2_with (first
                      | (have z := T8; go_at_call 20; refine (psame_any _ _ xs (plainE fs) true _ (HA0.out.later B9.out) (Hbk.out.later bz9.out) FA Fbk (Hrev.out (by first | rfl | trivial))).mono ?_; rintro e u1 ⟨rfl, bb⟩; replace X9 := X9.next bb; obtain ⟨y0, y1, y2, y3, y4⟩ := cells5 X9; replace B9 := hide (b_then B9.out bb); replace bz9 := hide (b_then bz9.out bb); replace Hb9 := hide (Hb9.out.later bb); clear bb T8 z)
                      | (go_at_call 26; refine (has_is ms _ M _ _ (by rw [Hnl.out]; omega) (HT6.out.later bz9.out) Hhb.out).mono ?_; rintro e u2 ⟨rfl, bb⟩; replace B9 := hide (b_then B9.out bb); replace bz9 := hide (b_then bz9.out bb); replace Hb9 := hide (Hb9.out.later bb); clear bb)
                      | (have z := T9; go_at_call 20; refine (psame_any _ _ xs (xs ++ [b]) true _ (HA0.out.later B9.out) Hb9.out FA Fm (Hmore.out (by first | rfl | trivial))).mono ?_; rintro e u3 ⟨rfl, bb⟩; replace B9 := hide (b_then B9.out bb); clear bb T9 z))
                    go_ret
                    exact ⟨rfl, B9.out⟩
                  refine AllReady.cons rfl (fun K hK => ?_) AllReady.nil
                  obtain ⟨x0, x1, x2, x3, x4⟩ := cells5 (HX6.out.next BB1.out.drew)
                  go_simp
                  refine hK _ _ ?_; clear hK K
                  clear x0 x1 x2 x3 x4
                  refine wpAny_ready (rs := [2, 4]) (by kernel_rfl) (by simp) ?_
                  refine AllReady.cons rfl (fun K hK => ?_) ?_
                  · refine step_moreM (by rfl) _ _ (by rfl) w6.heap.size (.slice (some ⟨w6.heap.size, 0, none⟩) 0 0) (.slice aa m ac) [] es m (by rw [Hel.out]; simp) (by rfl) (by rfl) RR2.out.drew (HE6.out.later BB1.out.drew) (off_of_old RR2.out HE6.out.2 (Nat.le_refl _)) (by omega) (BB1.out.drew).size ?_
                    intro d7 k7 w7 R7 hg7
                    have BB3 := hide ((RR2.out.drew).below (n := w6.heap.size) (Nat.le_refl _) (BB1.out.drew).size hg7 BB1.out.drew)
                    rw [List.nil_append] at R7
                    have RR4 := hide R7
                    clear R7 hg7
                    refine hK _ _ ?_; clear hK K
                    refine wpAny_ready (rs := [4]) (by kernel_rfl) (by simp) ?_
                    refine AllReady.cons rfl (fun K hK => ?_) AllReady.nil
                    have BB5 := hide ((BB3.out).alloc (BB3.out).size (.cells #[.string M, .int .i64 kd, .string S, .slice a1 n1 c1, .slice a2 n2 c2] 41))
                    have XX6 : Hid (Bx (w7.alloc (.cells #[.string M, .int .i64 kd, .string S, .slice a1 n1 c1, .slice a2 n2 c2] 41)) (w7.heap.size) #[.string M, .int .i64 kd, .string S, .slice a1 n1 c1, .slice a2 n2 c2] 41) := hide (by have := Bx.made w7 #[.string M, .int .i64 kd, .string S, .slice a1 n1 c1, .slice a2 n2 c2] 41; simpa using this)
                    have RR7 := hide ((RR4.out).alloc (.cells #[.string M, .int .i64 kd, .string S, .slice a1 n1 c1, .slice a2 n2 c2] 41))
                    go_simp
                    refine hK _ _ ?_; clear hK K
                    refine wpAny_ready (rs := [5]) (by kernel_rfl) (by simp) ?_
                    refine AllReady.cons rfl (fun K hK => ?_) AllReady.nil
                    refine step_moreM (by rfl) _ _ (by rfl) w6.heap.size (.slice d7 m k7) (.slice (some ⟨w7.heap.size, 0, none⟩) 1 1) es [eb] (m + 1) (by rw [Hel.out]; rfl) (by rfl) (by rfl) RR7.out (one_binds XX6.out (Heb.out.later (b_then B6.out BB5.out)) HC.out) (off_of_old RR7.out (fun f hf => by rw [List.mem_singleton] at hf; subst hf; exact Heb.out) B6.out.size) (by omega) BB5.out.size ?_
                    intro d9 k9 w9 R9 hg9
                    have bz9 := hide ((RR7.out).below (n := w6.heap.size) (Nat.le_refl _) BB5.out.size hg9 BB5.out)
                    have B9 := hide (b_then B6.out bz9.out)
                    have X9 := HX6.out.next bz9.out
                    obtain ⟨x0, x1, x2, x3, x4⟩ := cells5 X9
                    have hb9 := R9.binds
                    rw [Hpm.out] at hb9
                    have Hb9 := hide hb9
                    clear R9 hg9 hb9
                    refine hK _ _ ?_; clear hK K
                    refine wpAny_ready (rs := [6]) (by kernel_rfl) (by simp) ?_
                    refine AllReady.cons rfl (fun K hK => ?_) AllReady.nil
                    go_simp
                    refine hK _ _ ?_; clear hK K
                    refine wpAny_done (by kernel_rfl) ?_ _
                    go_wp2_with (first
                      | (have z := T8; go_at_call 20; refine (psame_any _ _ xs (plainE fs) true _ (HA0.out.later B9.out) (Hbk.out.later bz9.out) FA Fbk (Hrev.out (by first | rfl | trivial))).mono ?_; rintro e u1 ⟨rfl, bb⟩; replace X9 := X9.next bb; obtain ⟨y0, y1, y2, y3, y4⟩ := cells5 X9; replace B9 := hide (b_then B9.out bb); replace bz9 := hide (b_then bz9.out bb); replace Hb9 := hide (Hb9.out.later bb); clear bb T8 z)
                      | (go_at_call 26; refine (has_is ms _ M _ _ (by rw [Hnl.out]; omega) (HT6.out.later bz9.out) Hhb.out).mono ?_; rintro e u2 ⟨rfl, bb⟩; replace B9 := hide (b_then B9.out bb); replace bz9 := hide (b_then bz9.out bb); replace Hb9 := hide (Hb9.out.later bb); clear bb)
                      | (have z := T9; go_at_call 20; refine (psame_any _ _ xs (xs ++ [b]) true _ (HA0.out.later B9.out) Hb9.out FA Fm (Hmore.out (by first | rfl | trivial))).mono ?_; rintro e u3 ⟨rfl, bb⟩; replace B9 := hide (b_then B9.out bb); clear bb T9 z))
                    go_ret
                    exact ⟨rfl, B9.out⟩
                  refine AllReady.cons rfl (fun K hK => ?_) AllReady.nil
                  have BB3 := hide ((BB1.out).alloc (BB1.out).size (.cells #[.string M, .int .i64 kd, .string S, .slice a1 n1 c1, .slice a2 n2 c2] 41))
                  have XX4 : Hid (Bx ((w6.alloc (.cells #[] 41)).alloc (.cells #[.string M, .int .i64 kd, .string S, .slice a1 n1 c1, .slice a2 n2 c2] 41)) (w6.heap.size + 1) #[.string M, .int .i64 kd, .string S, .slice a1 n1 c1, .slice a2 n2 c2] 41) := hide (by have := Bx.made (w6.alloc (.cells #[] 41)) #[.string M, .int .i64 kd, .string S, .slice a1 n1 c1, .slice a2 n2 c2] 41; simpa using this)
                  have RR5 := hide ((RR2.out).alloc (.cells #[.string M, .int .i64 kd, .string S, .slice a1 n1 c1, .slice a2 n2 c2] 41))
                  go_simp
                  refine hK _ _ ?_; clear hK K
                  refine wpAny_ready (rs := [2]) (by kernel_rfl) (by simp) ?_
                  refine AllReady.cons rfl (fun K hK => ?_) AllReady.nil
                  refine step_moreM (by rfl) _ _ (by rfl) w6.heap.size (.slice (some ⟨w6.heap.size, 0, none⟩) 0 0) (.slice aa m ac) [] es m (by rw [Hel.out]; simp) (by rfl) (by rfl) RR5.out.drew (HE6.out.later BB3.out.drew) (off_of_old RR5.out HE6.out.2 (Nat.le_refl _)) (by omega) (BB3.out.drew).size ?_
                  intro d7 k7 w7 R7 hg7
                  have BB6 := hide ((RR5.out.drew).below (n := w6.heap.size) (Nat.le_refl _) (BB3.out.drew).size hg7 BB3.out.drew)
                  have XX8 := hide (keep_bx (XX4.out.drew) hg7 (fun e => by have e2 : (w6.heap.size + 1) = (w6.heap.size) := Option.some.inj e; omega))
                  rw [List.nil_append] at R7
                  have RR7 := hide R7
                  clear R7 hg7
                  refine hK _ _ ?_; clear hK K
                  refine wpAny_ready (rs := [5]) (by kernel_rfl) (by simp) ?_
                  refine AllReady.cons rfl (fun K hK => ?_) AllReady.nil
                  refine step_moreM (by rfl) _ _ (by rfl) w6.heap.size (.slice d7 m k7) (.slice (some ⟨w6.heap.size + 1, 0, none⟩) 1 1) es [eb] (m + 1) (by rw [Hel.out]; rfl) (by rfl) (by rfl) RR7.out (one_binds XX8.out (Heb.out.later (b_then B6.out BB6.out)) HC.out) (off_of_old RR7.out (fun f hf => by rw [List.mem_singleton] at hf; subst hf; exact Heb.out) B6.out.size) (by omega) BB6.out.size ?_
                  intro d9 k9 w9 R9 hg9
                  have bz9 := hide ((RR7.out).below (n := w6.heap.size) (Nat.le_refl _) BB6.out.size hg9 BB6.out)
                  have B9 := hide (b_then B6.out bz9.out)
                  have X9 := HX6.out.next bz9.out
                  obtain ⟨x0, x1, x2, x3, x4⟩ := cells5 X9
                  have hb9 := R9.binds
                  rw [Hpm.out] at hb9
                  have Hb9 := hide hb9
                  clear R9 hg9 hb9
                  refine hK _ _ ?_; clear hK K
                  refine wpAny_ready (rs := [6]) (by kernel_rfl) (by simp) ?_
                  refine AllReady.cons rfl (fun K hK => ?_) AllReady.nil
                  go_simp
                  refine hK _ _ ?_; clear hK K
                  refine wpAny_done (by kernel_rfl) ?_ _
                  go_wp2_with (first
                    | (have z := T8; go_at_call 20; refine (psame_any _ _ xs (plainE fs) true _ (HA0.out.later B9.out) (Hbk.out.later bz9.out) FA Fbk (Hrev.out (by first | rfl | trivial))).mono ?_; rintro e u1 ⟨rfl, bb⟩; replace X9 := X9.next bb; obtain ⟨y0, y1, y2, y3, y4⟩ := cells5 X9; replace B9 := hide (b_then B9.out bb); replace bz9 := hide (b_then bz9.out bb); replace Hb9 := hide (Hb9.out.later bb); clear bb T8 z)
                    | (go_at_call 26; refine (has_is ms _ M _ _ (by rw [Hnl.out]; omega) (HT6.out.later bz9.out) Hhb.out).mono ?_; rintro e u2 ⟨rfl, bb⟩; replace B9 := hide (b_then B9.out bb); replace bz9 := hide (b_then bz9.out bb); replace Hb9 := hide (Hb9.out.later bb); clear bb)
                    | (have z := T9; go_at_call 20; refine (psame_any _ _ xs (xs ++ [b]) true _ (HA0.out.later B9.out) Hb9.out FA Fm (Hmore.out (by first | rfl | trivial))).mono ?_; rintro e u3 ⟨rfl, bb⟩; replace B9 := hide (b_then B9.out bb); clear bb T9 z))
                  go_ret
                  exact ⟨rfl, B9.out⟩
                refine AllReady.cons rfl (fun K hK => ?_) AllReady.nil
                obtain ⟨x0, x1, x2, x3, x4⟩ := cells5 (HX6.out.next BB0.out.drew)
                go_simp
                refine hK _ _ ?_; clear hK K
                clear x0 x1 x2 x3 x4
                refine wpAny_ready (rs := [0, 4]) (by kernel_rfl) (by simp) ?_
                refine AllReady.cons rfl (fun K hK => ?_) ?_
                · have BB1 := hide ((BB0.out).alloc (BB0.out).size (.cells #[] 41))
                  have RR2 : Hid (Rw w6.heap.size (w6.alloc (.cells #[] 41)) (.slice (some ⟨w6.heap.size, 0, none⟩) 0 0) []) := hide (by have := (Rw.empty w6).weak (BB0.out).size; simpa using this)
                  go_simp
                  refine hK _ _ ?_; clear hK K
                  refine wpAny_ready (rs := [2, 4]) (by kernel_rfl) (by simp) ?_
                  refine AllReady.cons rfl (fun K hK => ?_) ?_
                  · refine step_moreM (by rfl) _ _ (by rfl) w6.heap.size (.slice (some ⟨w6.heap.size, 0, none⟩) 0 0) (.slice aa m ac) [] es m (by rw [Hel.out]; simp) (by rfl) (by rfl) RR2.out.drew (HE6.out.later BB1.out.drew) (off_of_old RR2.out HE6.out.2 (Nat.le_refl _)) (by omega) (BB1.out.drew).size ?_
                    intro d7 k7 w7 R7 hg7
                    have BB3 := hide ((RR2.out.drew).below (n := w6.heap.size) (Nat.le_refl _) (BB1.out.drew).size hg7 BB1.out.drew)
                    rw [List.nil_append] at R7
                    have RR4 := hide R7
                    clear R7 hg7
                    refine hK _ _ ?_; clear hK K
                    refine wpAny_ready (rs := [4]) (by kernel_rfl) (by simp) ?_
                    refine AllReady.cons rfl (fun K hK => ?_) AllReady.nil
                    have BB5 := hide ((BB3.out).alloc (BB3.out).size (.cells #[.string M, .int .i64 kd, .string S, .slice a1 n1 c1, .slice a2 n2 c2] 41))
                    have XX6 : Hid (Bx (w7.alloc (.cells #[.string M, .int .i64 kd, .string S, .slice a1 n1 c1, .slice a2 n2 c2] 41)) (w7.heap.size) #[.string M, .int .i64 kd, .string S, .slice a1 n1 c1, .slice a2 n2 c2] 41) := hide (by have := Bx.made w7 #[.string M, .int .i64 kd, .string S, .slice a1 n1 c1, .slice a2 n2 c2] 41; simpa using this)
                    have RR7 := hide ((RR4.out).alloc (.cells #[.string M, .int .i64 kd, .string S, .slice a1 n1 c1, .slice a2 n2 c2] 41))
                    go_simp
                    refine hK _ _ ?_; clear hK K
                    refine wpAny_ready (rs := [5]) (by kernel_rfl) (by simp) ?_
                    refine AllReady.cons rfl (fun K hK => ?_) AllReady.nil
                    refine step_moreM (by rfl) _ _ (by rfl) w6.heap.size (.slice d7 m k7) (.slice (some ⟨w7.heap.size, 0, none⟩) 1 1) es [eb] (m + 1) (by rw [Hel.out]; rfl) (by rfl) (by rfl) RR7.out (one_binds XX6.out (Heb.out.later (b_then B6.out BB5.out)) HC.out) (off_of_old RR7.out (fun f hf => by rw [List.mem_singleton] at hf; subst hf; exact Heb.out) B6.out.size) (by omega) BB5.out.size ?_
                    intro d9 k9 w9 R9 hg9
                    have bz9 := hide ((RR7.out).below (n := w6.heap.size) (Nat.le_refl _) BB5.out.size hg9 BB5.out)
                    have B9 := hide (b_then B6.out bz9.out)
                    have X9 := HX6.out.next bz9.out
                    obtain ⟨x0, x1, x2, x3, x4⟩ := cells5 X9
                    have hb9 := R9.binds
                    rw [Hpm.out] at hb9
                    have Hb9 := hide hb9
                    clear R9 hg9 hb9
                    refine hK _ _ ?_; clear hK K
                    refine wpAny_ready (rs := [6]) (by kernel_rfl) (by simp) ?_
                    refine AllReady.cons rfl (fun K hK => ?_) AllReady.nil
                    go_simp
                    refine hK _ _ ?_; clear hK K
                    refine wpAny_done (by kernel_rfl) ?_ _
                    go_wp2_with (first
                      | (have z := T8; go_at_call 20; refine (psame_any _ _ xs (plainE fs) true _ (HA0.out.later B9.out) (Hbk.out.later bz9.out) FA Fbk (Hrev.out (by first | rfl | trivial))).mono ?_; rintro e u1 ⟨rfl, bb⟩; replace X9 := X9.next bb; obtain ⟨y0, y1, y2, y3, y4⟩ := cells5 X9; replace B9 := hide (b_then B9.out bb); replace bz9 := hide (b_then bz9.out bb); replace Hb9 := hide (Hb9.out.later bb); clear bb T8 z)
                      | (go_at_call 26; refine (has_is ms _ M _ _ (by rw [Hnl.out]; omega) (HT6.out.later bz9.out) Hhb.out).mono ?_; rintro e u2 ⟨rfl, bb⟩; replace B9 := hide (b_then B9.out bb); replace bz9 := hide (b_then bz9.out bb); replace Hb9 := hide (Hb9.out.later bb); clear bb)
                      | (have z := T9; go_at_call 20; refine (psame_any _ _ xs (xs ++ [b]) true _ (HA0.out.later B9.out) Hb9.out FA Fm (Hmore.out (by first | rfl | trivial))).mono ?_; rintro e u3 ⟨rfl, bb⟩; replace B9 := hide (b_then B9.out bb); clear bb T9 z))
                    go_ret
                    exact ⟨rfl, B9.out⟩
                  refine AllReady.cons rfl (fun K hK => ?_) AllReady.nil
                  have BB3 := hide ((BB1.out).alloc (BB1.out).size (.cells #[.string M, .int .i64 kd, .string S, .slice a1 n1 c1, .slice a2 n2 c2] 41))
                  have XX4 : Hid (Bx ((w6.alloc (.cells #[] 41)).alloc (.cells #[.string M, .int .i64 kd, .string S, .slice a1 n1 c1, .slice a2 n2 c2] 41)) (w6.heap.size + 1) #[.string M, .int .i64 kd, .string S, .slice a1 n1 c1, .slice a2 n2 c2] 41) := hide (by have := Bx.made (w6.alloc (.cells #[] 41)) #[.string M, .int .i64 kd, .string S, .slice a1 n1 c1, .slice a2 n2 c2] 41; simpa using this)
                  have RR5 := hide ((RR2.out).alloc (.cells #[.string M, .int .i64 kd, .string S, .slice a1 n1 c1, .slice a2 n2 c2] 41))
                  go_simp
                  refine hK _ _ ?_; clear hK K
                  refine wpAny_ready (rs := [2]) (by kernel_rfl) (by simp) ?_
                  refine AllReady.cons rfl (fun K hK => ?_) AllReady.nil
                  refine step_moreM (by rfl) _ _ (by rfl) w6.heap.size (.slice (some ⟨w6.heap.size, 0, none⟩) 0 0) (.slice aa m ac) [] es m (by rw [Hel.out]; simp) (by rfl) (by rfl) RR5.out.drew (HE6.out.later BB3.out.drew) (off_of_old RR5.out HE6.out.2 (Nat.le_refl _)) (by omega) (BB3.out.drew).size ?_
                  intro d7 k7 w7 R7 hg7
                  have BB6 := hide ((RR5.out.drew).below (n := w6.heap.size) (Nat.le_refl _) (BB3.out.drew).size hg7 BB3.out.drew)
                  have XX8 := hide (keep_bx (XX4.out.drew) hg7 (fun e => by have e2 : (w6.heap.size + 1) = (w6.heap.size) := Option.some.inj e; omega))
                  rw [List.nil_append] at R7
                  have RR7 := hide R7
                  clear R7 hg7
                  refine hK _ _ ?_; clear hK K
                  refine wpAny_ready (rs := [5]) (by kernel_rfl) (by simp) ?_
                  refine AllReady.cons rfl (fun K hK => ?_) AllReady.nil
                  refine step_moreM (by rfl) _ _ (by rfl) w6.heap.size (.slice d7 m k7) (.slice (some ⟨w6.heap.size + 1, 0, none⟩) 1 1) es [eb] (m + 1) (by rw [Hel.out]; rfl) (by rfl) (by rfl) RR7.out (one_binds XX8.out (Heb.out.later (b_then B6.out BB6.out)) HC.out) (off_of_old RR7.out (fun f hf => by rw [List.mem_singleton] at hf; subst hf; exact Heb.out) B6.out.size) (by omega) BB6.out.size ?_
                  intro d9 k9 w9 R9 hg9
                  have bz9 := hide ((RR7.out).below (n := w6.heap.size) (Nat.le_refl _) BB6.out.size hg9 BB6.out)
                  have B9 := hide (b_then B6.out bz9.out)
                  have X9 := HX6.out.next bz9.out
                  obtain ⟨x0, x1, x2, x3, x4⟩ := cells5 X9
                  have hb9 := R9.binds
                  rw [Hpm.out] at hb9
                  have Hb9 := hide hb9
                  clear R9 hg9 hb9
                  refine hK _ _ ?_; clear hK K
                  refine wpAny_ready (rs := [6]) (by kernel_rfl) (by simp) ?_
                  refine AllReady.cons rfl (fun K hK => ?_) AllReady.nil
                  go_simp
                  refine hK _ _ ?_; clear hK K
                  refine wpAny_done (by kernel_rfl) ?_ _
                  go_wp2_with (first
                    | (have z := T8; go_at_call 20; refine (psame_any _ _ xs (plainE fs) true _ (HA0.out.later B9.out) (Hbk.out.later bz9.out) FA Fbk (Hrev.out (by first | rfl | trivial))).mono ?_; rintro e u1 ⟨rfl, bb⟩; replace X9 := X9.next bb; obtain ⟨y0, y1, y2, y3, y4⟩ := cells5 X9; replace B9 := hide (b_then B9.out bb); replace bz9 := hide (b_then bz9.out bb); replace Hb9 := hide (Hb9.out.later bb); clear bb T8 z)
                    | (go_at_call 26; refine (has_is ms _ M _ _ (by rw [Hnl.out]; omega) (HT6.out.later bz9.out) Hhb.out).mono ?_; rintro e u2 ⟨rfl, bb⟩; replace B9 := hide (b_then B9.out bb); replace bz9 := hide (b_then bz9.out bb); replace Hb9 := hide (Hb9.out.later bb); clear bb)
                    | (have z := T9; go_at_call 20; refine (psame_any _ _ xs (xs ++ [b]) true _ (HA0.out.later B9.out) Hb9.out FA Fm (Hmore.out (by first | rfl | trivial))).mono ?_; rintro e u3 ⟨rfl, bb⟩; replace B9 := hide (b_then B9.out bb); clear bb T9 z))
                  go_ret
                  exact ⟨rfl, B9.out⟩
                refine AllReady.cons rfl (fun K hK => ?_) AllReady.nil
                have BB1 := hide ((BB0.out).alloc (BB0.out).size (.cells #[.string M, .int .i64 kd, .string S, .slice a1 n1 c1, .slice a2 n2 c2] 41))
                have XX2 : Hid (Bx (w6.alloc (.cells #[.string M, .int .i64 kd, .string S, .slice a1 n1 c1, .slice a2 n2 c2] 41)) (w6.heap.size) #[.string M, .int .i64 kd, .string S, .slice a1 n1 c1, .slice a2 n2 c2] 41) := hide (by have := Bx.made w6 #[.string M, .int .i64 kd, .string S, .slice a1 n1 c1, .slice a2 n2 c2] 41; simpa using this)
                go_simp
                refine hK _ _ ?_; clear hK K
                refine wpAny_ready (rs := [0]) (by kernel_rfl) (by simp) ?_
                refine AllReady.cons rfl (fun K hK => ?_) AllReady.nil
                have BB3 := hide ((BB1.out).alloc (BB1.out).size (.cells #[] 41))
                have RR4 : Hid (Rw w6.heap.size ((w6.alloc (.cells #[.string M, .int .i64 kd, .string S, .slice a1 n1 c1, .slice a2 n2 c2] 41)).alloc (.cells #[] 41)) (.slice (some ⟨w6.heap.size + 1, 0, none⟩) 0 0) []) := hide (by have := (Rw.empty (w6.alloc (.cells #[.string M, .int .i64 kd, .string S, .slice a1 n1 c1, .slice a2 n2 c2] 41))).weak (BB1.out).size; simpa using this)
                have XX5 := hide ((XX2.out).later (.cells #[] 41))
                go_simp
                refine hK _ _ ?_; clear hK K
                refine wpAny_ready (rs := [2]) (by kernel_rfl) (by simp) ?_
                refine AllReady.cons rfl (fun K hK => ?_) AllReady.nil
                refine step_moreM (by rfl) _ _ (by rfl) w6.heap.size (.slice (some ⟨w6.heap.size + 1, 0, none⟩) 0 0) (.slice aa m ac) [] es m (by rw [Hel.out]; simp) (by rfl) (by rfl) RR4.out.drew (HE6.out.later BB3.out.drew) (off_of_old RR4.out HE6.out.2 (Nat.le_refl _)) (by omega) (BB3.out.drew).size ?_
                intro d7 k7 w7 R7 hg7
                have BB6 := hide ((RR4.out.drew).below (n := w6.heap.size) (Nat.le_refl _) (BB3.out.drew).size hg7 BB3.out.drew)
                have XX8 := hide (keep_bx (XX5.out.drew) hg7 (fun e => by have e2 : (w6.heap.size) = (w6.heap.size + 1) := Option.some.inj e; omega))
                rw [List.nil_append] at R7
                have RR7 := hide R7
                clear R7 hg7
                refine hK _ _ ?_; clear hK K
                refine wpAny_ready (rs := [5]) (by kernel_rfl) (by simp) ?_
                refine AllReady.cons rfl (fun K hK => ?_) AllReady.nil
                refine step_moreM (by rfl) _ _ (by rfl) w6.heap.size (.slice d7 m k7) (.slice (some ⟨w6.heap.size, 0, none⟩) 1 1) es [eb] (m + 1) (by rw [Hel.out]; rfl) (by rfl) (by rfl) RR7.out (one_binds XX8.out (Heb.out.later (b_then B6.out BB6.out)) HC.out) (off_of_old RR7.out (fun f hf => by rw [List.mem_singleton] at hf; subst hf; exact Heb.out) B6.out.size) (by omega) BB6.out.size ?_
                intro d9 k9 w9 R9 hg9
                have bz9 := hide ((RR7.out).below (n := w6.heap.size) (Nat.le_refl _) BB6.out.size hg9 BB6.out)
                have B9 := hide (b_then B6.out bz9.out)
                have X9 := HX6.out.next bz9.out
                obtain ⟨x0, x1, x2, x3, x4⟩ := cells5 X9
                have hb9 := R9.binds
                rw [Hpm.out] at hb9
                have Hb9 := hide hb9
                clear R9 hg9 hb9
                refine hK _ _ ?_; clear hK K
                refine wpAny_ready (rs := [6]) (by kernel_rfl) (by simp) ?_
                refine AllReady.cons rfl (fun K hK => ?_) AllReady.nil
                go_simp
                refine hK _ _ ?_; clear hK K
                refine wpAny_done (by kernel_rfl) ?_ _
                go_wp2_with (first
                  | (have z := T8; go_at_call 20; refine (psame_any _ _ xs (plainE fs) true _ (HA0.out.later B9.out) (Hbk.out.later bz9.out) FA Fbk (Hrev.out (by first | rfl | trivial))).mono ?_; rintro e u1 ⟨rfl, bb⟩; replace X9 := X9.next bb; obtain ⟨y0, y1, y2, y3, y4⟩ := cells5 X9; replace B9 := hide (b_then B9.out bb); replace bz9 := hide (b_then bz9.out bb); replace Hb9 := hide (Hb9.out.later bb); clear bb T8 z)
                  | (go_at_call 26; refine (has_is ms _ M _ _ (by rw [Hnl.out]; omega) (HT6.out.later bz9.out) Hhb.out).mono ?_; rintro e u2 ⟨rfl, bb⟩; replace B9 := hide (b_then B9.out bb); replace bz9 := hide (b_then bz9.out bb); replace Hb9 := hide (Hb9.out.later bb); clear bb)
                  | (have z := T9; go_at_call 20; refine (psame_any _ _ xs (xs ++ [b]) true _ (HA0.out.later B9.out) Hb9.out FA Fm (Hmore.out (by first | rfl | trivial))).mono ?_; rintro e u3 ⟨rfl, bb⟩; replace B9 := hide (b_then B9.out bb); clear bb T9 z))
                go_ret
                exact ⟨rfl, B9.out⟩
end Go.Proofs.Ytgnccmmbpgnamaa

/-
  OPENING of arguments: lists of texts, values (layer 8).
-/
namespace Go.Proofs.Ytgnccmmbpgnamaa
open Go Go.RowKit Go.Deep Go.Joins Go.Lib

theorem spot_none {w : World} {a : Addr} {v : Value} (h : w.cell? a = some v) : a = ⟨a.block, a.off, none⟩ := by
  cases a with
  | mk b o s =>
    cases s with
    | none => rfl
    | some s =>
      unfold World.cell? at h
      split at h
      · simp at h
      · cases h
theorem add_none (b o j : Nat) : (⟨b, o, none⟩ : Addr).add j = ⟨b, o + j, none⟩ := by
  unfold Addr.add
  split
  · rename_i h; rw [h]; rfl
  · rfl
theorem cellsO9 : Try.prog.cellsOf 9 = 1 := by kernel_rfl
theorem cellsO39 : Try.prog.cellsOf 48 = 2 := by kernel_rfl
theorem cellsO25 : Try.prog.cellsOf 28 = 4 := by kernel_rfl
section
variable {H : Type} {enc : TypeId × Value → H} {w : World} {base : Nat} {sp : Nat → Bool} {held : Bool}
set_option maxRecDepth 20000 in
theorem open_strs {fuel : Nat} {v : Value} {x : DataW H × List MemPlace} (h : DataW.trod enc Try.prog w base sp held fuel 25 [v] = some x) : ∃ xs : List (List UInt8), StrsAt w v xs ∧ xs.length ≤ maxLen ∧ (∀ y ∈ xs, y.length ≤ maxLen) ∧ (xs = [] ∨ ∃ el spare, x.1 = .slice el spare ∧ ∀ y ∈ xs, (.lit (.string y)) ∈ el) := by
  rcases open_slice1 Try.underlying25 cellsO9 h with ⟨hcs, _⟩ | ⟨a, len, cap, m, n, V, D, Pl, hcs, _, hl, hm, hmm, hx, hel⟩
  · have : v = .slice none 0 0 := by simpa using hcs
    subst this
    exact ⟨[], .inl ⟨rfl, none, 0, rfl⟩, by simp, (fun y hy => by cases hy), .inl rfl⟩
  · have hv : v = .slice (some a) len cap := by simpa using hcs
    subst hv
    have hlm : len ≤ m := by rw [hmm]; split <;> omega
    by_cases hp : ¬ 0 < len
    · have : len = 0 := by omega
      subst this
      exact ⟨[], .inl ⟨rfl, some a, cap, rfl⟩, by simp, (fun y hy => by cases hy), .inl rfl⟩
    have hp : 0 < len := by omega
    have ha : a = ⟨a.block, a.off, none⟩ := by
      have := (hel 0 (by omega)).1
      rw [show a.add 0 = a by simp [Addr.add]] at this
      exact spot_none this
    have each : ∀ i, ∃ y : List UInt8, i < len → w.cell? ⟨a.block, a.off + i, none⟩ = some (.string ⟨y.toArray⟩) ∧ y.length ≤ maxLen ∧ D i = .lit (.string y) := by
      intro i
      by_cases hi : i < len
      · obtain ⟨h1, h2⟩ := hel i (by omega)
        rw [ha, add_none] at h1
        obtain ⟨s0, e0, e1, hs0⟩ := DataW.trod_string Try.underlying9 h2
        simp only [List.cons.injEq, and_true] at e0
        rw [e0] at h1
        simp only [Prod.mk.injEq] at e1
        exact ⟨s0.data.toList, fun _ => ⟨h1, by rw [← size_list]; exact hs0, e1.1⟩⟩
      · exact ⟨[], fun h => absurd h hi⟩
    obtain ⟨f, hf⟩ := Classical.axiomOfChoice each
    refine ⟨(List.range len).map f, ?_, by simp; omega, ?_, .inr ⟨_, _, by rw [hx], ?_⟩⟩
    · refine .inr ⟨by simpa using hp, a.block, a.off, cap, by rw [List.length_map, List.length_range, ← ha], fun k hk => ?_⟩
      have hk' : k < len := by simpa using hk
      have e : ((List.range len).map f).getD k [] = f k := by simp [hk']
      rw [e]
      exact (hf k hk').1
    · intro y hy
      obtain ⟨k, hk, rfl⟩ := List.mem_map.1 hy
      exact (hf k (List.mem_range.1 hk)).2.1
    · intro y hy
      obtain ⟨k, hk, rfl⟩ := List.mem_map.1 hy
      exact List.mem_map.2 ⟨k, hk, (hf k (List.mem_range.1 hk)).2.2⟩
theorem first_spot {a : Addr} {cs : List Value} (h : w.cells? base (a.add (0 * 2)) 2 = some cs) : a = ⟨a.block, a.off, none⟩ := by
  obtain ⟨_, hlen, hc⟩ := World.cells?_some h
  have e0 := hc 0 (by omega)
  have e : (a.add (0 * 2)).add 0 = a := by simp [Addr.add]
  rw [e] at e0
  match cs, hlen with
  | v0 :: _, _ => exact spot_none e0
theorem two_cells {b o i : Nat} {cs : List Value} (h : w.cells? base ((⟨b, o, none⟩ : Addr).add (i * 2)) 2 = some cs) : ∃ v0 v1, cs = [v0, v1] ∧ w.cell? ⟨b, o + i * 2, none⟩ = some v0 ∧ w.cell? ⟨b, o + i * 2 + 1, none⟩ = some v1 := by
  obtain ⟨_, hlen, hc⟩ := World.cells?_some h
  match cs, hlen with
  | [v0, v1], _ =>
    have e0 := hc 0 (by omega)
    have e1 := hc 1 (by omega)
    rw [add_none, add_none] at e0 e1
    exact ⟨v0, v1, rfl, e0, e1⟩
set_option maxRecDepth 20000 in
theorem open_pairs {fuel : Nat} {v : Value} {x : DataW H × List MemPlace} (h : DataW.trod enc Try.prog w base sp held fuel 26 [v] = some x) : ∃ xs : List (List UInt8 × List UInt8), PairsAt w v xs ∧ xs.length ≤ maxLen ∧ ∀ y ∈ xs, y.1.length ≤ maxLen ∧ y.2.length ≤ maxLen := by
  rcases open_slice Try.underlying26 h with ⟨hcs, _⟩ | ⟨a, len, cap, m, n, D, Pl, hcs, _, hl, hm, hmm, _, hel⟩
  · have : v = .slice none 0 0 := by simpa using hcs
    subst this
    exact ⟨[], .inl ⟨rfl, none, 0, rfl⟩, by simp, fun y hy => by cases hy⟩
  · have hv : v = .slice (some a) len cap := by simpa using hcs
    subst hv
    have hlm : len ≤ m := by rw [hmm]; split <;> omega
    by_cases hp : ¬ 0 < len
    · have : len = 0 := by omega
      subst this
      exact ⟨[], .inl ⟨rfl, some a, cap, rfl⟩, by simp, fun y hy => by cases hy⟩
    have hp : 0 < len := by omega
    have ha : a = ⟨a.block, a.off, none⟩ := by
      obtain ⟨cs', h1, _⟩ := hel 0 (by omega)
      rw [cellsO39] at h1
      exact first_spot h1
    have each : ∀ i, ∃ y : List UInt8 × List UInt8, i < len → w.cell? ⟨a.block, a.off + i * 2, none⟩ = some (.string ⟨y.1.toArray⟩) ∧ w.cell? ⟨a.block, a.off + i * 2 + 1, none⟩ = some (.string ⟨y.2.toArray⟩) ∧ y.1.length ≤ maxLen ∧ y.2.length ≤ maxLen := by
      intro i
      by_cases hi : i < len
      · obtain ⟨cs', h1, h2⟩ := hel i (by omega)
        rw [cellsO39] at h1
        rw [ha] at h1
        obtain ⟨v0, v1, rfl, c0, c1⟩ := two_cells h1
        obtain ⟨y0, y1, k, _, _, t0, t1⟩ := Go.ChangeShapes.trod_struct2 Try.underlying48 h2
        simp only [cellsO9, List.drop_zero, List.drop_succ_cons, List.take_succ_cons, List.take_zero] at t0 t1
        obtain ⟨s0, e0, _, hs0⟩ := DataW.trod_string Try.underlying9 t0
        obtain ⟨s1, e1, _, hs1⟩ := DataW.trod_string Try.underlying9 t1
        simp only [List.cons.injEq, and_true] at e0 e1
        subst e0 e1
        exact ⟨(s0.data.toList, s1.data.toList), fun _ => ⟨c0, c1, by rw [← size_list]; exact hs0, by rw [← size_list]; exact hs1⟩⟩
      · exact ⟨([], []), fun h => absurd h hi⟩
    obtain ⟨f, hf⟩ := Classical.axiomOfChoice each
    refine ⟨(List.range len).map f, ?_, by simp; omega, ?_⟩
    · refine .inr ⟨by simpa using hp, a.block, a.off, cap, by rw [List.length_map, List.length_range, ← ha], fun k hk => ?_⟩
      have hk' : k < len := by simpa using hk
      have e : ((List.range len).map f)[k] = f k := by simp
      rw [e]
      exact ⟨(hf k hk').1, (hf k hk').2.1⟩
    · intro y hy
      obtain ⟨k, hk, rfl⟩ := List.mem_map.1 hy
      exact (hf k (List.mem_range.1 hk)).2.2
set_option maxRecDepth 20000 in
theorem open_value {r : Reach} {b0 : Nat} {v : Value} {d : DataW H} {ps : List MemPlace} (hv : Value.okWide Try.prog w r b0 28 v) (hd : DataW.Trod enc Try.prog w base sp held 28 v d ps) :
    ∃ a : Vl, VlAt w v a ∧ WideV a := by
  have hbig : maxLen ≤ 9223372036854775807 := by unfold maxLen; omega
  obtain ⟨c0, c1, c2, c3, y0, y1, y2, y3, n, rfl, rfl, rfl, h0, h1, h2, h3⟩ := open_agg4 Try.underlying28 (by kernel_rfl) cellsO25 hv hd
  obtain ⟨k, e0, rfl, _⟩ := DataW.trod_int Try.underlying3 h0
  obtain ⟨s, e1, rfl, k1⟩ := DataW.trod_string Try.underlying9 h1
  simp only [List.cons.injEq, and_true] at e0 e1
  subst e0 e1
  obtain ⟨xs, x1, x2, x3, _⟩ := open_strs h2
  obtain ⟨qs, q1, q2, q3⟩ := open_pairs h3
  refine ⟨⟨k, s.data.toList, xs, qs⟩, ⟨c2, c3, rfl, x1, q1⟩, ⟨Nat.le_trans x2 hbig, Nat.le_trans q2 hbig, ?_, fun y hy => Nat.le_trans (x3 y hy) hbig, fun y hy => ⟨Nat.le_trans (q3 y hy).1 hbig, Nat.le_trans (q3 y hy).2 hbig⟩⟩⟩
  show s.data.toList.length ≤ _
  rw [← size_list]
  exact Nat.le_trans k1 hbig
end
theorem weights_mem {H : Type} {P : Program} {e : TypeId} : ∀ {el : List (DataW H)} {d : DataW H}, d ∈ el → ∀ n ∈ d.weights P e, n ∈ DataW.weightsAll P e el
  | c :: r, d, hd, n, hn => by
    simp only [DataW.weightsAll, List.mem_append]
    rcases List.mem_cons.1 hd with rfl | hd
    · exact .inl hn
    · exact .inr (weights_mem hd n hn)
theorem strs_reach {H : Type} {ts : List TypeId} {ds : List (DataW H)} (h : (DataW.weightsEach Try.prog ts ds).all (· ≤ reachBytes) = true) {j : Nat} (ht : ts[j]? = some 25) {el spare : List (DataW H)} (hd : ds[j]? = some (.slice el spare)) {y : List UInt8} (hy : (.lit (.string y)) ∈ el) : y.length ≤ 140737488355328 := by
  have := List.all_eq_true.1 h _ (DataW.weights_mem_each ht hd y.length (by
    simp only [DataW.weights, Try.underlying25, List.mem_cons, List.mem_append]
    exact .inr (.inl (weights_mem hy _ (by simp [DataW.weights])))))
  have h2 : y.length ≤ reachBytes := by simpa using this
  have h3 := reachBytes_lt
  omega
end Go.Proofs.Ytgnccmmbpgnamaa

/-
  OPENING of arguments: variables (layer 9).
-/
namespace Go.Proofs.Ytgnccmmbpgnamaa
open Go Go.RowKit Go.Deep Go.Joins Go.Lib

theorem cellsO41 : Try.prog.cellsOf 41 = 5 := by kernel_rfl
theorem cellsO3 : Try.prog.cellsOf 3 = 1 := by kernel_rfl
theorem cellsO25' : Try.prog.cellsOf 25 = 1 := by kernel_rfl
theorem cellsO26 : Try.prog.cellsOf 26 = 1 := by kernel_rfl
theorem cellsO28 : Try.prog.cellsOf 28 = 4 := by kernel_rfl
section
variable {H : Type} {enc : TypeId × Value → H} {w : World} {base : Nat} {sp : Nat → Bool} {held : Bool}
set_option maxRecDepth 20000 in
theorem trod_vl {fuel : Nat} {v1 v2 v3 v4 : Value} {x : DataW H × List MemPlace} (h : DataW.trod enc Try.prog w base sp held fuel 28 [v1, v2, v3, v4] = some x) :
    ∃ (kd : Int) (S : ByteArray) (u : Vl), v1 = .int .i64 kd ∧ v2 = .string S ∧ VlAt w (.agg #[.int .i64 kd, .string S, v3, v4]) u ∧ WideV u := by
  have hbig : maxLen ≤ 9223372036854775807 := by unfold maxLen; omega
  obtain ⟨y0, y1, y2, y3, n, _, _, t0, t1, t2, t3⟩ := trod_struct4 Try.underlying28 h
  simp only [cellsO3, cellsO9, cellsO25', cellsO26, List.drop_zero, List.drop_succ_cons, List.take_succ_cons, List.take_zero] at t0 t1 t2 t3
  obtain ⟨k, e0, _, _⟩ := DataW.trod_int Try.underlying3 t0
  obtain ⟨s, e1, _, k1⟩ := DataW.trod_string Try.underlying9 t1
  simp only [List.cons.injEq, and_true] at e0 e1
  subst e0 e1
  obtain ⟨xs, x1, x2, x3, _⟩ := open_strs t2
  obtain ⟨qs, q1, q2, q3⟩ := open_pairs t3
  refine ⟨k, s, ⟨k, s.data.toList, xs, qs⟩, rfl, rfl, ⟨v3, v4, rfl, x1, q1⟩, ⟨Nat.le_trans x2 hbig, Nat.le_trans q2 hbig, ?_, fun y hy => Nat.le_trans (x3 y hy) hbig, fun y hy => ⟨Nat.le_trans (q3 y hy).1 hbig, Nat.le_trans (q3 y hy).2 hbig⟩⟩⟩
  show s.data.toList.length ≤ _
  rw [← size_list]
  exact Nat.le_trans k1 hbig
set_option maxRecDepth 20000 in
theorem trod_bind {fuel : Nat} {cs : List Value} {x : DataW H × List MemPlace} (h : DataW.trod enc Try.prog w base sp held fuel 41 cs = some x) :
    ∃ (M S : ByteArray) (kd : Int) (l p : Value) (b : Bd), cs = [.string M, .int .i64 kd, .string S, l, p] ∧ M.data.toList = b.1 ∧ VlAt w (.agg #[.int .i64 kd, .string S, l, p]) b.2 ∧ M.size ≤ maxLen ∧ WideV b.2 := by
  obtain ⟨y0, y1, n, _, hl, t0, t1⟩ := Go.ChangeShapes.trod_struct2 Try.underlying41 h
  rw [cellsO41] at hl
  match cs, hl with
  | [v0, v1, v2, v3, v4], _ =>
    simp only [cellsO9, cellsO28, List.drop_zero, List.drop_succ_cons, List.take_succ_cons, List.take_zero] at t0 t1
    obtain ⟨s, e0, _, k0⟩ := DataW.trod_string Try.underlying9 t0
    simp only [List.cons.injEq, and_true] at e0
    subst e0
    obtain ⟨kd, S, u, rfl, rfl, hv, hw⟩ := trod_vl t1
    exact ⟨s, S, kd, v3, v4, (s.data.toList, u), rfl, rfl, hv, k0, hw⟩
theorem first_spot5 {a : Addr} {cs : List Value} (h : w.cells? base (a.add (0 * 5)) 5 = some cs) : a = ⟨a.block, a.off, none⟩ := by
  obtain ⟨_, hlen, hc⟩ := World.cells?_some h
  have e0 := hc 0 (by omega)
  have e : (a.add (0 * 5)).add 0 = a := by simp [Addr.add]
  rw [e] at e0
  match cs, hlen with
  | v0 :: _, _ => exact spot_none e0
theorem five_cells {b o i : Nat} {cs : List Value} (h : w.cells? base ((⟨b, o, none⟩ : Addr).add (i * 5)) 5 = some cs) : ∀ j u, cs[j]? = some u → w.cell? ⟨b, o + i * 5 + j, none⟩ = some u := by
  obtain ⟨_, hlen, hc⟩ := World.cells?_some h
  intro j u hj
  have hj5 : j < 5 := by
    apply Classical.byContradiction
    intro hge
    rw [List.getElem?_eq_none (by rw [hlen]; omega)] at hj
    cases hj
  have e := hc j (by omega)
  rw [add_none, add_none] at e
  rw [e]
  simpa using hj
set_option maxRecDepth 20000 in
theorem open_binds {fuel : Nat} {v : Value} {x : DataW H × List MemPlace} (h : DataW.trod enc Try.prog w base sp held fuel 22 [v] = some x) : ∃ bs : List Bd, BindsAt w v bs ∧ WideB bs := by
  have hbig : maxLen ≤ 9223372036854775807 := by unfold maxLen; omega
  rcases open_slice Try.underlying22 h with ⟨hcs, _⟩ | ⟨a, len, cap, m, n, D, Pl, hcs, _, hl, hm, hmm, _, hel⟩
  · have : v = .slice none 0 0 := by simpa using hcs
    subst this
    exact ⟨[], BindsAt.nil _ _ _, by simp, (fun b hb => by cases hb), fun b hb => by cases hb⟩
  · have hv : v = .slice (some a) len cap := by simpa using hcs
    subst hv
    have hlm : len ≤ m := by rw [hmm]; split <;> omega
    by_cases hp : ¬ 0 < len
    · have : len = 0 := by omega
      subst this
      exact ⟨[], BindsAt.nil _ _ _, by simp, (fun b hb => by cases hb), fun b hb => by cases hb⟩
    have hp : 0 < len := by omega
    have ha : a = ⟨a.block, a.off, none⟩ := by
      obtain ⟨cs', h1, _⟩ := hel 0 (by omega)
      rw [cellsO41] at h1
      exact first_spot5 h1
    have each : ∀ i, ∃ e : Ev, i < len → (∀ j u, (cellsE e)[j]? = some u → w.cell? ⟨a.block, a.off + i * 5 + j, none⟩ = some u) ∧ EAt w e ∧ e.b.1.length ≤ maxLen ∧ WideV e.b.2 := by
      intro i
      by_cases hi : i < len
      · obtain ⟨cs', h1, h2⟩ := hel i (by omega)
        rw [cellsO41, ha] at h1
        obtain ⟨M, S, kd, l, p, b, rfl, hM, hv, hs, hw⟩ := trod_bind h2
        have eM : M = ⟨b.1.toArray⟩ := by rw [← hM]
        obtain ⟨sl, sq, e, g1, g2⟩ := hv
        cases e
        refine ⟨⟨b, l, p⟩, fun _ => ⟨fun j u hj => five_cells h1 j u ?_, ⟨g1, g2⟩, by rw [← hM, ← size_list]; exact hs, hw⟩⟩
        rw [eM]
        exact hj
      · exact ⟨⟨([], zeroV), .slice none 0 0, .slice none 0 0⟩, fun h => absurd h hi⟩
    obtain ⟨f, hf⟩ := Classical.axiomOfChoice each
    have hlen : ((List.range len).map f).length = len := by simp
    refine ⟨plainE ((List.range len).map f), ⟨(List.range len).map f, rfl, .inr ⟨by simpa using hp, a.block, a.off, cap, by rw [hlen, ← ha], fun k hk j u hj => ?_⟩, fun e he => ?_⟩, ?_, fun b hb => ?_, fun b hb => ?_⟩
    · have hk' : k < len := by simpa using hk
      have e : ((List.range len).map f)[k] = f k := by simp
      rw [e] at hj
      exact (hf k hk').1 j u hj
    · obtain ⟨k, hk, rfl⟩ := List.mem_map.1 he
      exact (hf k (List.mem_range.1 hk)).2.1
    · simp [plainE]
      omega
    · obtain ⟨e, he, rfl⟩ := List.mem_map.1 hb
      obtain ⟨k, hk, rfl⟩ := List.mem_map.1 he
      exact Nat.le_trans (hf k (List.mem_range.1 hk)).2.2.1 hbig
    · obtain ⟨e, he, rfl⟩ := List.mem_map.1 hb
      obtain ⟨k, hk, rfl⟩ := List.mem_map.1 he
      exact (hf k (List.mem_range.1 hk)).2.2.2
set_option maxRecDepth 20000 in
theorem open_bind {r : Reach} {b0 : Nat} {v : Value} {d : DataW H} {ps : List MemPlace} (hv : Value.okWide Try.prog w r b0 41 v) (hd : DataW.Trod enc Try.prog w base sp held 41 v d ps) :
    ∃ (M S : ByteArray) (kd : Int) (a1 : Option Addr) (n1 c1 : Nat) (a2 : Option Addr) (n2 c2 : Nat) (b : Bd), v = .agg #[.string M, .int .i64 kd, .string S, .slice a1 n1 c1, .slice a2 n2 c2] ∧ M.data.toList = b.1 ∧ VlAt w (.agg #[.int .i64 kd, .string S, .slice a1 n1 c1, .slice a2 n2 c2]) b.2 ∧ WideB [b] := by
  have hbig : maxLen ≤ 9223372036854775807 := by unfold maxLen; omega
  obtain ⟨cs, rfl, hsz⟩ := Go.WideShapes.okWide_struct Try.underlying41 hv
  obtain ⟨fuel, hf⟩ := hd
  obtain ⟨M, S, kd, l, p, b, e, hM, hvl, hs, hw⟩ := trod_bind hf
  have e2 : cs = #[.string M, .int .i64 kd, .string S, l, p] := by
    have : cs.toList = [.string M, .int .i64 kd, .string S, l, p] := by simpa [Value.cells] using e
    rw [← Array.toArray_toList (xs := cs), this]
  subst e2
  obtain ⟨sl, sq, ee, g1, g2⟩ := hvl
  cases ee
  obtain ⟨a1, c1, rfl⟩ := g1.form
  obtain ⟨a2, c2, rfl⟩ := g2.form
  refine ⟨M, _, _, a1, _, c1, a2, _, c2, b, rfl, hM, ⟨_, _, rfl, g1, g2⟩, by simp, fun x hx => ?_, fun x hx => ?_⟩
  · rw [List.mem_singleton] at hx; subst hx
    rw [← hM, ← size_list]
    exact Nat.le_trans hs hbig
  · rw [List.mem_singleton] at hx; subst hx
    exact hw
end
end Go.Proofs.Ytgnccmmbpgnamaa

namespace Go.Proofs.Ytgnccmmbpgnamaa.bindTurn
open Go.ChangeShapes Go.WideShapes Go.ChangeAt Go.RowKit
open Go.ChangeMaps (open_string shut_string)
set_option linter.unusedVariables false

theorem own : ownKnob Try.prog.godebug = none := by kernel_rfl
theorem laidOut : laidOutB Try.prog = true := by kernel_rfl

set_option maxRecDepth 100000 in
theorem lifted (os : Os) (started : os.Started) (H : Type) (enc : TypeId × Value → H) :
    ReturnsInHanded {} Try.checked os 7 .any (Rows.bindTurnSpec.pre6 enc Try.prog Try.f7 Rows.bindTurnRow.domain false) (Rows.bindTurnSpec.post enc Try.prog Try.f7 false true false false) := by
  refine returnsInHanded_of_change (C := Try.checked) own started (by kernel_rfl) Try.func7
    (ChangeSpec.witness6 (enc := enc) (C := Try.checked) false ⟨#[], #[.slice none 0 0, .agg #[.string ByteArray.empty, .int .i64 0, .string ByteArray.empty, .slice none 0 0, .slice none 0 0]], []⟩ 8 (by kernel_rfl) (by kernel_rfl) (by kernel_rfl) (by kernel_rfl)) ?_
  intro W base args ds gs before hval0 hW hcnd _
  have hval : ∀ (j : Nat) t v, Try.f7.params[j]? = some t → args[j]? = some v → Value.okWide Try.prog W .any base t v := hval0
  have hW' := hW
  obtain ⟨p, q, hA0, hV, rfl, hfz, hnd⟩ := hW
  have hA : DataW.TrodAll enc Try.prog W 0 (fun _ => true) true Try.f7.params.toList args.toList ds p := hA0
  rw [Try.params7] at hA hval
  obtain ⟨v0, vs0, d0, ds0, p0, q0, hargs, rfl, rfl, h0, r0⟩ := trodAll_cons hA
  obtain ⟨v1, vs1, d1, ds1, p1, q1, rfl, rfl, rfl, h1, r1⟩ := trodAll_cons r0
  obtain ⟨rfl, rfl, rfl⟩ := trodAll_nil r1
  obtain rfl : args = #[v0, v1] := by cases args; simp_all
  obtain ⟨rfl, rfl⟩ := trodVars_none hV
  obtain ⟨a0, len0, cap0, rfl⟩ := okWide_slice Try.underlying22 (hval 0 22 v0 rfl rfl)
  have k0 := h0
  have lt0 : ∀ x ∈ p0, x.block < W.heap.size := by obtain ⟨m, hm⟩ := k0; exact DataW.trod_lt m _ _ _ hm
  obtain ⟨bs0, B0, w0⟩ : ∃ bs, BindsAt W (.slice a0 len0 cap0) bs ∧ WideB bs := by
    obtain ⟨fuel, hf⟩ := h0
    exact open_binds (show DataW.trod _ _ _ _ _ _ fuel 22 [.slice a0 len0 cap0] = some _ from hf)
  have k1 := h1
  have lt1 : ∀ x ∈ p1, x.block < W.heap.size := by obtain ⟨m, hm⟩ := k1; exact DataW.trod_lt m _ _ _ hm
  obtain ⟨M1, S1, kd1, a1, n1, c1, e1, m1, z1, x1, rfl, hM1, V1, w1⟩ := open_bind (hval 1 41 v1 rfl rfl) h1
  clear hA0 hval0
  simp only [List.append_nil] at hW'
  refine (turn_walk _ bs0 M1 S1 kd1 a1 e1 n1 m1 c1 z1 x1 W B0 hM1 V1 w0 w1).mono fun e W' ⟨he, bel⟩ => ?_
  subst he
  exact ⟨_, rfl, _, _, _, [], _, [], hW', trodAll_mk1 (shut_bool Try.underlying4 _), (trodAll_cons_mk (Below.trod laidOut (by kernel_rfl) (of_decide_eq_true (by kernel_rfl)) k0 bel lt0) (trodAll_cons_mk (Below.trod laidOut (by kernel_rfl) (of_decide_eq_true (by kernel_rfl)) k1 bel lt1) trodAll_mk0)), rfl, bel.frame _, fun h => by cases h⟩

theorem over : Rows.bindTurnRow.holds Try.pinned (OpenSpec.ofChange Rows.bindTurnSpec) :=
  OpenClaim.holds_of_wide 7 Try.f7 rfl rfl rfl rfl rfl rfl rfl ⟨rfl, rfl, rfl, rfl, rfl⟩ rfl rfl rfl rfl rfl (by kernel_rfl) Try.func7 (by kernel_rfl)
    (of_decide_eq_true (by kernel_rfl)) (by unfold Func.isWrapper; first | (rw [if_pos (by decide +kernel)]; kernel_rfl) | (rw [if_neg (by decide +kernel)]; exact ⟨rfl, rfl⟩))
    (fun os started H enc _ => lifted os started H enc)

theorem proved : Rows.BindTurnSaid := over
end Go.Proofs.Ytgnccmmbpgnamaa.bindTurn
