/-
  WALKS: the law ValueOnly (layer 8).
-/
import Derived.Test.YtikhggdigndhoaaL2
namespace Go.Proofs.Ytikhggdigndhoaa
open Go.RowKit

/-- a value's box, and another one's -/
structure Dx (w W : World) (bx : Nat) (c d : Array Value) (a x : Vl) : Prop where
  bel : Below w.heap.size w W
  fst : Bx W w.heap.size c 25
  snd : Bx W bx d 25
  va : VlAt W (.agg c) a
  vx : VlAt W (.agg d) x
section
variable {w W W' : World} {bx : Nat} {c d : Array Value} {a x : Vl}
theorem Dx.next (h : Dx w W bx c d a x) (bb : Below W.heap.size W W') : Dx w W' bx c d a x := ⟨h.bel.trans (bb.mono h.bel.size), h.fst.next bb, h.snd.next bb, h.va.later bb, h.vx.later bb⟩
theorem Dx.drew (h : Dx w W bx c d a x) : Dx w W.drew bx c d a x := ⟨h.bel.drew, h.fst, h.snd, h.va.later (b_drew _), h.vx.later (b_drew _)⟩
theorem Dx.all {x0 x1 x2 x3 y0 y1 y2 y3 : Value} (h : Dx w W bx #[x0, x1, x2, x3] #[y0, y1, y2, y3] a x) : W.cell? ⟨w.heap.size, 0, none⟩ = some x0 ∧ W.cell? ⟨w.heap.size, 1, none⟩ = some x1 ∧ W.cell? ⟨w.heap.size, 2, none⟩ = some x2 ∧ W.cell? ⟨w.heap.size, 3, none⟩ = some x3 ∧ W.cell? ⟨bx, 0, none⟩ = some y0 ∧ W.cell? ⟨bx, 1, none⟩ = some y1 ∧ W.cell? ⟨bx, 2, none⟩ = some y2 ∧ W.cell? ⟨bx, 3, none⟩ = some y3 := by
  obtain ⟨a0, a1, a2, a3⟩ := cells4 h.fst
  obtain ⟨b0, b1, b2, b3⟩ := cells4 h.snd
  exact ⟨a0, a1, a2, a3, b0, b1, b2, b3⟩
end
set_option maxRecDepth 20000 in
set_option maxHeartbeats 16000000 in
theorem only_walk (xa xb : Value) (a b : Vl) (w : World) (HA : VlAt w xa a) (HB : VlAt w xb b) (WA : WideV a) (WB : WideV b) :
    Calls Try.prog 8 #[xa, xb] w fun e w' => e = .returned (.bool true) ∧ Below w.heap.size w w' := by
  have GA := hide HA
  have GB := hide HB
  obtain ⟨_, _, rfl, g1, g2⟩ := HA
  obtain ⟨_, _, rfl, g3, g4⟩ := HB
  obtain ⟨ala, alc, rfl⟩ := g1.form
  obtain ⟨apa, apc, rfl⟩ := g2.form
  obtain ⟨bla, blc, rfl⟩ := g3.form
  obtain ⟨bpa, bpc, rfl⟩ := g4.form
  clear g1 g2 g3 g4
  obtain ⟨SA, hSA⟩ : ∃ S : ByteArray, (⟨a.s.toArray⟩ : ByteArray) = S := ⟨_, rfl⟩
  obtain ⟨SB, hSB⟩ : ∃ S : ByteArray, (⟨b.s.toArray⟩ : ByteArray) = S := ⟨_, rfl⟩
  obtain ⟨ka, hka⟩ : ∃ k, a.kind = k := ⟨_, rfl⟩
  obtain ⟨kb, hkb⟩ : ∃ k, b.kind = k := ⟨_, rfl⟩
  rw [hSA, hka] at GA ⊢
  rw [hSB, hkb] at GB ⊢
  have Hka := hide hka
  have T := Jx.made w #[.int .i64 ka, .string SA, .slice ala a.l.length alc, .slice apa a.p.length apc] #[.int .i64 kb, .string SB, .slice bla b.l.length blc, .slice bpa b.p.length bpc]
  clear hSA hSB hka hkb
  obtain ⟨W0, hW0⟩ : ∃ W0, (w.alloc (.cells #[.int .i64 ka, .string SA, .slice ala a.l.length alc, .slice apa a.p.length apc] 25)).alloc (.cells #[.int .i64 kb, .string SB, .slice bla b.l.length blc, .slice bpa b.p.length bpc] 25) = W0 := ⟨_, rfl⟩
  rw [hW0] at T
  have Q1 : Hid True := hide trivial
  have Q2 : Hid True := hide trivial
  have Q3 : Hid True := hide trivial
  have Q4 : Hid True := hide trivial
  have Q5 : Hid True := hide trivial
  cases fa : fewV a with
  | false =>
    have Fa := hide fa
    clear fa
    go_enter Try.func8, Try.ntmps8
    go_wp2_with (first | (go_at_call 9; refine (awake_any _).mono ?_; rintro e w1 ⟨rfl, bb⟩; replace T := T.next bb; clear bb; obtain ⟨x0, x1, x2, x3, y0, y1, y2, y3⟩ := T.all; have l1 := T.fst.lt; have l2 := T.snd.lt) | (go_at_call 10; have zz := Q1; clear zz Q1; refine (few_w _ a false _ (GA.out.later T.bel) WA Fa.out).mono ?_; rintro e w2 ⟨rfl, bb⟩; replace T := T.next bb; clear bb; obtain ⟨x0, x1, x2, x3, y0, y1, y2, y3⟩ := T.all; have l1 := T.fst.lt; have l2 := T.snd.lt))
    all_goals
      go_ret
      exact ⟨rfl, T.bel⟩
  | true =>
    have Fa := hide fa
    have FA := few_of fa
    clear fa
    cases fb : fewV b with
    | false =>
      have Fb := hide fb
      clear fb
      go_enter Try.func8, Try.ntmps8
      go_wp2_with (first | (go_at_call 9; refine (awake_any _).mono ?_; rintro e w1 ⟨rfl, bb⟩; replace T := T.next bb; clear bb; obtain ⟨x0, x1, x2, x3, y0, y1, y2, y3⟩ := T.all; have l1 := T.fst.lt; have l2 := T.snd.lt) | (go_at_call 10; have zz := Q1; clear zz Q1; refine (few_w _ a true _ (GA.out.later T.bel) WA Fa.out).mono ?_; rintro e w2 ⟨rfl, bb⟩; replace T := T.next bb; clear bb; obtain ⟨x0, x1, x2, x3, y0, y1, y2, y3⟩ := T.all; have l1 := T.fst.lt; have l2 := T.snd.lt) | (go_at_call 10; have zz := Q2; clear zz Q2; refine (few_w _ b false _ (GB.out.later T.bel) WB Fb.out).mono ?_; rintro e w2 ⟨rfl, bb⟩; replace T := T.next bb; clear bb; obtain ⟨x0, x1, x2, x3, y0, y1, y2, y3⟩ := T.all; have l1 := T.fst.lt; have l2 := T.snd.lt))
      all_goals
        go_ret
        exact ⟨rfl, T.bel⟩
    | true =>
      have Fb := hide fb
      have FB := few_of fb
      clear fb
      have hpa : a.p.length ≤ 1000000 := by have := FA.p; omega
      have hla5 : a.l.length ≤ 100000 := by have := FA.l; omega
      have hpa5 : a.p.length ≤ 100000 := by have := FA.p; omega
      by_cases k1 : ka = 1
      · subst k1
        obtain ⟨xv, hxv⟩ : ∃ xv, xv = (⟨1, a.s, b.l, b.p⟩ : Vl) := ⟨_, rfl⟩
        have hkx : a.kind = xv.kind := by rw [hxv]; exact Hka.out
        have htx : textsV a = textsV xv := by rw [hxv]; unfold textsV; rw [Hka.out]; simp
        have FX : FewV xv := ⟨by rw [hxv]; first | exact FA.l | exact FB.l, by rw [hxv]; first | exact FA.p | exact FB.p, by rw [← htx]; exact FA.ts⟩
        obtain ⟨hs, hdd⟩ := same_of hkx htx
        have Hs := hide hs
        have Hd := hide (show definedV a = definedV xv from hdd)
        have Hdx : Hid (definedV xv = definedV xv) := hide rfl
        obtain ⟨d, hd⟩ : ∃ d, definedV xv = d := ⟨_, rfl⟩
        rw [hd] at Hd Hdx
        replace Hdx := hide hd
        obtain ⟨vb, hvb⟩ : ∃ b, validV a = b := ⟨_, rfl⟩
        have Hv := hide hvb
        have Hvx : Hid (validV xv = vb) := by rw [← hvb]; unfold validV; rw [htx]; exact hide rfl
        obtain ⟨ts, hts⟩ : ∃ ts, textsV a = ts := ⟨_, rfl⟩
        have Ht := hide hts
        have Htx : Hid (textsV xv = ts) := by rw [← htx]; exact hide hts
        have hnt : ts.length ≤ 1000000000000 := by rw [← hts]; exact Nat.le_trans (texts_len a (by have := FA.l; omega) (by have := FA.p; omega)) (by omega)
        have hpx : xv.p.length ≤ 1000000 := by have := FX.p; omega
        have hlx5 : xv.l.length ≤ 100000 := by have := FX.l; omega
        have hpx5 : xv.p.length ≤ 100000 := by have := FX.p; omega
        have VX : ∀ W, Below w.heap.size w W → VlAt W (.agg #[.int .i64 1, .string SA, .slice bla b.l.length blc, .slice bpa b.p.length bpc]) xv := fun W bw => by
          rw [hxv]
          obtain ⟨_, _, ea, A1, A2⟩ := GA.out.later bw
          obtain ⟨_, _, eb, B1, B2⟩ := GB.out.later bw
          simp only [Value.agg.injEq, Array.mk.injEq, List.cons.injEq, Value.string.injEq, and_true] at ea eb
          obtain ⟨ea0, ea1, ea2, ea3⟩ := ea
          obtain ⟨eb0, eb1, eb2, eb3⟩ := eb
          subst ea1 ea2 ea3 eb1 eb2 eb3
          exact ⟨_, _, rfl, by assumption, by assumption⟩
        clear hxv hkx htx hs hdd hd hvb hts
        go_enter Try.func8, Try.ntmps8
        go_wp2_with (first | (go_at_call 9; refine (awake_any _).mono ?_; rintro e w1 ⟨rfl, bb⟩; replace T := T.next bb; clear bb; obtain ⟨x0, x1, x2, x3, y0, y1, y2, y3⟩ := T.all; have l1 := T.fst.lt; have l2 := T.snd.lt) | (go_at_call 10; have zz := Q1; clear zz Q1; refine (few_w _ a true _ (GA.out.later T.bel) WA Fa.out).mono ?_; rintro e w2 ⟨rfl, bb⟩; replace T := T.next bb; clear bb; obtain ⟨x0, x1, x2, x3, y0, y1, y2, y3⟩ := T.all; have l1 := T.fst.lt; have l2 := T.snd.lt) | (go_at_call 10; have zz := Q2; clear zz Q2; refine (few_w _ b true _ (GB.out.later T.bel) WB Fb.out).mono ?_; rintro e w2 ⟨rfl, bb⟩; replace T := T.next bb; clear bb; obtain ⟨x0, x1, x2, x3, y0, y1, y2, y3⟩ := T.all; have l1 := T.fst.lt; have l2 := T.snd.lt))
        have U : Dx w (w2.alloc (.cells #[.int .i64 1, .string SA, .slice bla b.l.length blc, .slice bpa b.p.length bpc] 25)) w2.heap.size #[.int .i64 1, .string SA, .slice ala a.l.length alc, .slice apa a.p.length apc] #[.int .i64 1, .string SA, .slice bla b.l.length blc, .slice bpa b.p.length bpc] a xv :=
          ⟨T.bel.alloc T.bel.size _, T.fst.later _, Bx.made _ _ _, GA.out.later (T.bel.alloc T.bel.size _), VX _ (T.bel.alloc T.bel.size _)⟩
        clear x0 x1 x2 x3 y0 y1 y2 y3
        go_region_held3 (fun W => W.cell? ⟨w.heap.size, 0, none⟩ = some (.int .i64 1) ∧ W.cell? ⟨w.heap.size, 1, none⟩ = some (.string SA) ∧ W.cell? ⟨w.heap.size, 2, none⟩ = some (.slice ala a.l.length alc) ∧ W.cell? ⟨w.heap.size, 3, none⟩ = some (.slice apa a.p.length apc) ∧ W.cell? ⟨w2.heap.size, 0, none⟩ = some (.int .i64 1) ∧ W.cell? ⟨w2.heap.size, 1, none⟩ = some (.string SA) ∧ W.cell? ⟨w2.heap.size, 2, none⟩ = some (.slice bla b.l.length blc) ∧ W.cell? ⟨w2.heap.size, 3, none⟩ = some (.slice bpa b.p.length bpc)) (first | with_reducible exact U.all | with_reducible exact U.drew.all) (first | (go_at_call 22; refine (same_few _ _ a xv true _ (by first | with_reducible exact U.va | with_reducible exact U.drew.va) (by first | with_reducible exact U.vx | with_reducible exact U.drew.vx) FA FX Hs.out).mono ?_; rintro e w4 ⟨rfl, bb⟩; (first | with_reducible (replace U := U.next bb) | with_reducible (replace U := U.drew.next bb)); clear bb) | (go_at_call 12; have zz := Q3; clear zz Q3; refine (defined_any _ a d _ (by first | with_reducible exact U.va | with_reducible exact U.drew.va) hpa Hd.out).mono ?_; rintro e w4 ⟨rfl, bb⟩; (first | with_reducible (replace U := U.next bb) | with_reducible (replace U := U.drew.next bb)); clear bb) | (go_at_call 12; refine (defined_any _ xv d _ (by first | with_reducible exact U.vx | with_reducible exact U.drew.vx) hpx Hdx.out).mono ?_; rintro e w4 ⟨rfl, bb⟩; (first | with_reducible (replace U := U.next bb) | with_reducible (replace U := U.drew.next bb)); clear bb) | (go_at_call 18; have zz := Q4; clear zz Q4; refine (pvalid_any _ a vb _ (by first | with_reducible exact U.va | with_reducible exact U.drew.va) hla5 hpa5 FA.t4 Hv.out).mono ?_; rintro e w4 ⟨rfl, bb⟩; (first | with_reducible (replace U := U.next bb) | with_reducible (replace U := U.drew.next bb)); clear bb) | (go_at_call 18; refine (pvalid_any _ xv vb _ (by first | with_reducible exact U.vx | with_reducible exact U.drew.vx) hlx5 hpx5 FX.t4 Hvx.out).mono ?_; rintro e w4 ⟨rfl, bb⟩; (first | with_reducible (replace U := U.next bb) | with_reducible (replace U := U.drew.next bb)); clear bb) | (go_at_call 14; have zz := Q5; clear zz Q5; refine (texts_any' _ a ts _ (by first | with_reducible exact U.va | with_reducible exact U.drew.va) hla5 hpa5 FA.t4 Ht.out).mono ?_; rintro e w4 ⟨ta, tc, rfl, TA, _, bb⟩; (first | with_reducible (replace U := U.next bb) | with_reducible (replace U := U.drew.next bb)); clear bb) | (go_at_call 14; refine (texts_any' _ xv ts _ (by first | with_reducible exact U.vx | with_reducible exact U.drew.vx) hlx5 hpx5 FX.t4 Htx.out).mono ?_; rintro e w4 ⟨tb, td, rfl, TB, _, bb⟩; with_reducible (replace TA := TA.later bb); (first | with_reducible (replace U := U.next bb) | with_reducible (replace U := U.drew.next bb)); clear bb) | (go_at_call 13; refine (texts_same ts _ _ _ hnt (by with_reducible exact TA) (by with_reducible exact TB)).mono ?_; rintro e w4 ⟨rfl, bb⟩; (first | with_reducible (replace U := U.next bb) | with_reducible (replace U := U.drew.next bb)); clear bb))
        all_goals go_wp2
        all_goals
          go_ret
          exact ⟨ret_bool (by first | rfl | simp), U.bel⟩
      · have k1f : (ka == 1) = false := by simp [k1]
        by_cases k2 : ka = 2
        · subst k2
          obtain ⟨xv, hxv⟩ : ∃ xv, xv = (⟨2, b.s, a.l, b.p⟩ : Vl) := ⟨_, rfl⟩
          have hkx : a.kind = xv.kind := by rw [hxv]; exact Hka.out
          have htx : textsV a = textsV xv := by rw [hxv]; unfold textsV; rw [Hka.out]; simp
          have FX : FewV xv := ⟨by rw [hxv]; first | exact FA.l | exact FB.l, by rw [hxv]; first | exact FA.p | exact FB.p, by rw [← htx]; exact FA.ts⟩
          obtain ⟨hs, hdd⟩ := same_of hkx htx
          have Hs := hide hs
          have Hd := hide (show definedV a = definedV xv from hdd)
          have Hdx : Hid (definedV xv = definedV xv) := hide rfl
          obtain ⟨d, hd⟩ : ∃ d, definedV xv = d := ⟨_, rfl⟩
          rw [hd] at Hd Hdx
          replace Hdx := hide hd
          obtain ⟨vb, hvb⟩ : ∃ b, validV a = b := ⟨_, rfl⟩
          have Hv := hide hvb
          have Hvx : Hid (validV xv = vb) := by rw [← hvb]; unfold validV; rw [htx]; exact hide rfl
          obtain ⟨ts, hts⟩ : ∃ ts, textsV a = ts := ⟨_, rfl⟩
          have Ht := hide hts
          have Htx : Hid (textsV xv = ts) := by rw [← htx]; exact hide hts
          have hnt : ts.length ≤ 1000000000000 := by rw [← hts]; exact Nat.le_trans (texts_len a (by have := FA.l; omega) (by have := FA.p; omega)) (by omega)
          have hpx : xv.p.length ≤ 1000000 := by have := FX.p; omega
          have hlx5 : xv.l.length ≤ 100000 := by have := FX.l; omega
          have hpx5 : xv.p.length ≤ 100000 := by have := FX.p; omega
          have VX : ∀ W, Below w.heap.size w W → VlAt W (.agg #[.int .i64 2, .string SB, .slice ala a.l.length alc, .slice bpa b.p.length bpc]) xv := fun W bw => by
            rw [hxv]
            obtain ⟨_, _, ea, A1, A2⟩ := GA.out.later bw
            obtain ⟨_, _, eb, B1, B2⟩ := GB.out.later bw
            simp only [Value.agg.injEq, Array.mk.injEq, List.cons.injEq, Value.string.injEq, and_true] at ea eb
            obtain ⟨ea0, ea1, ea2, ea3⟩ := ea
            obtain ⟨eb0, eb1, eb2, eb3⟩ := eb
            subst ea1 ea2 ea3 eb1 eb2 eb3
            exact ⟨_, _, rfl, by assumption, by assumption⟩
          clear hxv hkx htx hs hdd hd hvb hts
          go_enter Try.func8, Try.ntmps8
          go_wp2_with (first | (go_at_call 9; refine (awake_any _).mono ?_; rintro e w1 ⟨rfl, bb⟩; replace T := T.next bb; clear bb; obtain ⟨x0, x1, x2, x3, y0, y1, y2, y3⟩ := T.all; have l1 := T.fst.lt; have l2 := T.snd.lt) | (go_at_call 10; have zz := Q1; clear zz Q1; refine (few_w _ a true _ (GA.out.later T.bel) WA Fa.out).mono ?_; rintro e w2 ⟨rfl, bb⟩; replace T := T.next bb; clear bb; obtain ⟨x0, x1, x2, x3, y0, y1, y2, y3⟩ := T.all; have l1 := T.fst.lt; have l2 := T.snd.lt) | (go_at_call 10; have zz := Q2; clear zz Q2; refine (few_w _ b true _ (GB.out.later T.bel) WB Fb.out).mono ?_; rintro e w2 ⟨rfl, bb⟩; replace T := T.next bb; clear bb; obtain ⟨x0, x1, x2, x3, y0, y1, y2, y3⟩ := T.all; have l1 := T.fst.lt; have l2 := T.snd.lt))
          have U : Dx w (w2.alloc (.cells #[.int .i64 2, .string SB, .slice ala a.l.length alc, .slice bpa b.p.length bpc] 25)) w2.heap.size #[.int .i64 2, .string SA, .slice ala a.l.length alc, .slice apa a.p.length apc] #[.int .i64 2, .string SB, .slice ala a.l.length alc, .slice bpa b.p.length bpc] a xv :=
            ⟨T.bel.alloc T.bel.size _, T.fst.later _, Bx.made _ _ _, GA.out.later (T.bel.alloc T.bel.size _), VX _ (T.bel.alloc T.bel.size _)⟩
          clear x0 x1 x2 x3 y0 y1 y2 y3
          go_region_held3 (fun W => W.cell? ⟨w.heap.size, 0, none⟩ = some (.int .i64 2) ∧ W.cell? ⟨w.heap.size, 1, none⟩ = some (.string SA) ∧ W.cell? ⟨w.heap.size, 2, none⟩ = some (.slice ala a.l.length alc) ∧ W.cell? ⟨w.heap.size, 3, none⟩ = some (.slice apa a.p.length apc) ∧ W.cell? ⟨w2.heap.size, 0, none⟩ = some (.int .i64 2) ∧ W.cell? ⟨w2.heap.size, 1, none⟩ = some (.string SB) ∧ W.cell? ⟨w2.heap.size, 2, none⟩ = some (.slice ala a.l.length alc) ∧ W.cell? ⟨w2.heap.size, 3, none⟩ = some (.slice bpa b.p.length bpc)) (first | with_reducible exact U.all | with_reducible exact U.drew.all) (first | (go_at_call 22; refine (same_few _ _ a xv true _ (by first | with_reducible exact U.va | with_reducible exact U.drew.va) (by first | with_reducible exact U.vx | with_reducible exact U.drew.vx) FA FX Hs.out).mono ?_; rintro e w4 ⟨rfl, bb⟩; (first | with_reducible (replace U := U.next bb) | with_reducible (replace U := U.drew.next bb)); clear bb) | (go_at_call 12; have zz := Q3; clear zz Q3; refine (defined_any _ a d _ (by first | with_reducible exact U.va | with_reducible exact U.drew.va) hpa Hd.out).mono ?_; rintro e w4 ⟨rfl, bb⟩; (first | with_reducible (replace U := U.next bb) | with_reducible (replace U := U.drew.next bb)); clear bb) | (go_at_call 12; refine (defined_any _ xv d _ (by first | with_reducible exact U.vx | with_reducible exact U.drew.vx) hpx Hdx.out).mono ?_; rintro e w4 ⟨rfl, bb⟩; (first | with_reducible (replace U := U.next bb) | with_reducible (replace U := U.drew.next bb)); clear bb) | (go_at_call 18; have zz := Q4; clear zz Q4; refine (pvalid_any _ a vb _ (by first | with_reducible exact U.va | with_reducible exact U.drew.va) hla5 hpa5 FA.t4 Hv.out).mono ?_; rintro e w4 ⟨rfl, bb⟩; (first | with_reducible (replace U := U.next bb) | with_reducible (replace U := U.drew.next bb)); clear bb) | (go_at_call 18; refine (pvalid_any _ xv vb _ (by first | with_reducible exact U.vx | with_reducible exact U.drew.vx) hlx5 hpx5 FX.t4 Hvx.out).mono ?_; rintro e w4 ⟨rfl, bb⟩; (first | with_reducible (replace U := U.next bb) | with_reducible (replace U := U.drew.next bb)); clear bb) | (go_at_call 14; have zz := Q5; clear zz Q5; refine (texts_any' _ a ts _ (by first | with_reducible exact U.va | with_reducible exact U.drew.va) hla5 hpa5 FA.t4 Ht.out).mono ?_; rintro e w4 ⟨ta, tc, rfl, TA, _, bb⟩; (first | with_reducible (replace U := U.next bb) | with_reducible (replace U := U.drew.next bb)); clear bb) | (go_at_call 14; refine (texts_any' _ xv ts _ (by first | with_reducible exact U.vx | with_reducible exact U.drew.vx) hlx5 hpx5 FX.t4 Htx.out).mono ?_; rintro e w4 ⟨tb, td, rfl, TB, _, bb⟩; with_reducible (replace TA := TA.later bb); (first | with_reducible (replace U := U.next bb) | with_reducible (replace U := U.drew.next bb)); clear bb) | (go_at_call 13; refine (texts_same ts _ _ _ hnt (by with_reducible exact TA) (by with_reducible exact TB)).mono ?_; rintro e w4 ⟨rfl, bb⟩; (first | with_reducible (replace U := U.next bb) | with_reducible (replace U := U.drew.next bb)); clear bb))
          all_goals go_wp2
          all_goals
            go_ret
            exact ⟨ret_bool (by first | rfl | simp), U.bel⟩
        · have k2f : (ka == 2) = false := by simp [k2]
          by_cases k3 : ka = 3
          · subst k3
            obtain ⟨xv, hxv⟩ : ∃ xv, xv = (⟨3, b.s, b.l, a.p⟩ : Vl) := ⟨_, rfl⟩
            have hkx : a.kind = xv.kind := by rw [hxv]; exact Hka.out
            have htx : textsV a = textsV xv := by rw [hxv]; unfold textsV; rw [Hka.out]; simp
            have FX : FewV xv := ⟨by rw [hxv]; first | exact FA.l | exact FB.l, by rw [hxv]; first | exact FA.p | exact FB.p, by rw [← htx]; exact FA.ts⟩
            obtain ⟨hs, hdd⟩ := same_of hkx htx
            have Hs := hide hs
            have Hd := hide (show definedV a = definedV xv from hdd)
            have Hdx : Hid (definedV xv = definedV xv) := hide rfl
            obtain ⟨d, hd⟩ : ∃ d, definedV xv = d := ⟨_, rfl⟩
            rw [hd] at Hd Hdx
            replace Hdx := hide hd
            obtain ⟨vb, hvb⟩ : ∃ b, validV a = b := ⟨_, rfl⟩
            have Hv := hide hvb
            have Hvx : Hid (validV xv = vb) := by rw [← hvb]; unfold validV; rw [htx]; exact hide rfl
            obtain ⟨ts, hts⟩ : ∃ ts, textsV a = ts := ⟨_, rfl⟩
            have Ht := hide hts
            have Htx : Hid (textsV xv = ts) := by rw [← htx]; exact hide hts
            have hnt : ts.length ≤ 1000000000000 := by rw [← hts]; exact Nat.le_trans (texts_len a (by have := FA.l; omega) (by have := FA.p; omega)) (by omega)
            have hpx : xv.p.length ≤ 1000000 := by have := FX.p; omega
            have hlx5 : xv.l.length ≤ 100000 := by have := FX.l; omega
            have hpx5 : xv.p.length ≤ 100000 := by have := FX.p; omega
            have VX : ∀ W, Below w.heap.size w W → VlAt W (.agg #[.int .i64 3, .string SB, .slice bla b.l.length blc, .slice apa a.p.length apc]) xv := fun W bw => by
              rw [hxv]
              obtain ⟨_, _, ea, A1, A2⟩ := GA.out.later bw
              obtain ⟨_, _, eb, B1, B2⟩ := GB.out.later bw
              simp only [Value.agg.injEq, Array.mk.injEq, List.cons.injEq, Value.string.injEq, and_true] at ea eb
              obtain ⟨ea0, ea1, ea2, ea3⟩ := ea
              obtain ⟨eb0, eb1, eb2, eb3⟩ := eb
              subst ea1 ea2 ea3 eb1 eb2 eb3
              exact ⟨_, _, rfl, by assumption, by assumption⟩
            clear hxv hkx htx hs hdd hd hvb hts
            go_enter Try.func8, Try.ntmps8
            go_wp2_with (first | (go_at_call 9; refine (awake_any _).mono ?_; rintro e w1 ⟨rfl, bb⟩; replace T := T.next bb; clear bb; obtain ⟨x0, x1, x2, x3, y0, y1, y2, y3⟩ := T.all; have l1 := T.fst.lt; have l2 := T.snd.lt) | (go_at_call 10; have zz := Q1; clear zz Q1; refine (few_w _ a true _ (GA.out.later T.bel) WA Fa.out).mono ?_; rintro e w2 ⟨rfl, bb⟩; replace T := T.next bb; clear bb; obtain ⟨x0, x1, x2, x3, y0, y1, y2, y3⟩ := T.all; have l1 := T.fst.lt; have l2 := T.snd.lt) | (go_at_call 10; have zz := Q2; clear zz Q2; refine (few_w _ b true _ (GB.out.later T.bel) WB Fb.out).mono ?_; rintro e w2 ⟨rfl, bb⟩; replace T := T.next bb; clear bb; obtain ⟨x0, x1, x2, x3, y0, y1, y2, y3⟩ := T.all; have l1 := T.fst.lt; have l2 := T.snd.lt))
            have U : Dx w (w2.alloc (.cells #[.int .i64 3, .string SB, .slice bla b.l.length blc, .slice apa a.p.length apc] 25)) w2.heap.size #[.int .i64 3, .string SA, .slice ala a.l.length alc, .slice apa a.p.length apc] #[.int .i64 3, .string SB, .slice bla b.l.length blc, .slice apa a.p.length apc] a xv :=
              ⟨T.bel.alloc T.bel.size _, T.fst.later _, Bx.made _ _ _, GA.out.later (T.bel.alloc T.bel.size _), VX _ (T.bel.alloc T.bel.size _)⟩
            clear x0 x1 x2 x3 y0 y1 y2 y3
            go_region_held3 (fun W => W.cell? ⟨w.heap.size, 0, none⟩ = some (.int .i64 3) ∧ W.cell? ⟨w.heap.size, 1, none⟩ = some (.string SA) ∧ W.cell? ⟨w.heap.size, 2, none⟩ = some (.slice ala a.l.length alc) ∧ W.cell? ⟨w.heap.size, 3, none⟩ = some (.slice apa a.p.length apc) ∧ W.cell? ⟨w2.heap.size, 0, none⟩ = some (.int .i64 3) ∧ W.cell? ⟨w2.heap.size, 1, none⟩ = some (.string SB) ∧ W.cell? ⟨w2.heap.size, 2, none⟩ = some (.slice bla b.l.length blc) ∧ W.cell? ⟨w2.heap.size, 3, none⟩ = some (.slice apa a.p.length apc)) (first | with_reducible exact U.all | with_reducible exact U.drew.all) (first | (go_at_call 22; refine (same_few _ _ a xv true _ (by first | with_reducible exact U.va | with_reducible exact U.drew.va) (by first | with_reducible exact U.vx | with_reducible exact U.drew.vx) FA FX Hs.out).mono ?_; rintro e w4 ⟨rfl, bb⟩; (first | with_reducible (replace U := U.next bb) | with_reducible (replace U := U.drew.next bb)); clear bb) | (go_at_call 12; have zz := Q3; clear zz Q3; refine (defined_any _ a d _ (by first | with_reducible exact U.va | with_reducible exact U.drew.va) hpa Hd.out).mono ?_; rintro e w4 ⟨rfl, bb⟩; (first | with_reducible (replace U := U.next bb) | with_reducible (replace U := U.drew.next bb)); clear bb) | (go_at_call 12; refine (defined_any _ xv d _ (by first | with_reducible exact U.vx | with_reducible exact U.drew.vx) hpx Hdx.out).mono ?_; rintro e w4 ⟨rfl, bb⟩; (first | with_reducible (replace U := U.next bb) | with_reducible (replace U := U.drew.next bb)); clear bb) | (go_at_call 18; have zz := Q4; clear zz Q4; refine (pvalid_any _ a vb _ (by first | with_reducible exact U.va | with_reducible exact U.drew.va) hla5 hpa5 FA.t4 Hv.out).mono ?_; rintro e w4 ⟨rfl, bb⟩; (first | with_reducible (replace U := U.next bb) | with_reducible (replace U := U.drew.next bb)); clear bb) | (go_at_call 18; refine (pvalid_any _ xv vb _ (by first | with_reducible exact U.vx | with_reducible exact U.drew.vx) hlx5 hpx5 FX.t4 Hvx.out).mono ?_; rintro e w4 ⟨rfl, bb⟩; (first | with_reducible (replace U := U.next bb) | with_reducible (replace U := U.drew.next bb)); clear bb) | (go_at_call 14; have zz := Q5; clear zz Q5; refine (texts_any' _ a ts _ (by first | with_reducible exact U.va | with_reducible exact U.drew.va) hla5 hpa5 FA.t4 Ht.out).mono ?_; rintro e w4 ⟨ta, tc, rfl, TA, _, bb⟩; (first | with_reducible (replace U := U.next bb) | with_reducible (replace U := U.drew.next bb)); clear bb) | (go_at_call 14; refine (texts_any' _ xv ts _ (by first | with_reducible exact U.vx | with_reducible exact U.drew.vx) hlx5 hpx5 FX.t4 Htx.out).mono ?_; rintro e w4 ⟨tb, td, rfl, TB, _, bb⟩; with_reducible (replace TA := TA.later bb); (first | with_reducible (replace U := U.next bb) | with_reducible (replace U := U.drew.next bb)); clear bb) | (go_at_call 13; refine (texts_same ts _ _ _ hnt (by with_reducible exact TA) (by with_reducible exact TB)).mono ?_; rintro e w4 ⟨rfl, bb⟩; (first | with_reducible (replace U := U.next bb) | with_reducible (replace U := U.drew.next bb)); clear bb))
            all_goals go_wp2
            all_goals
              go_ret
              exact ⟨ret_bool (by first | rfl | simp), U.bel⟩
          · have k3f : (ka == 3) = false := by simp [k3]
            obtain ⟨xv, hxv⟩ : ∃ xv, xv = (⟨ka, b.s, b.l, b.p⟩ : Vl) := ⟨_, rfl⟩
            have hkx : a.kind = xv.kind := by rw [hxv]; exact Hka.out
            have htx : textsV a = textsV xv := by rw [hxv]; unfold textsV; rw [Hka.out]; simp [k1, k2, k3]
            have FX : FewV xv := ⟨by rw [hxv]; first | exact FA.l | exact FB.l, by rw [hxv]; first | exact FA.p | exact FB.p, by rw [← htx]; exact FA.ts⟩
            obtain ⟨hs, hdd⟩ := same_of hkx htx
            have Hs := hide hs
            have Hd := hide (show definedV a = definedV xv from hdd)
            have Hdx : Hid (definedV xv = definedV xv) := hide rfl
            obtain ⟨d, hd⟩ : ∃ d, definedV xv = d := ⟨_, rfl⟩
            rw [hd] at Hd Hdx
            replace Hdx := hide hd
            obtain ⟨vb, hvb⟩ : ∃ b, validV a = b := ⟨_, rfl⟩
            have Hv := hide hvb
            have Hvx : Hid (validV xv = vb) := by rw [← hvb]; unfold validV; rw [htx]; exact hide rfl
            obtain ⟨ts, hts⟩ : ∃ ts, textsV a = ts := ⟨_, rfl⟩
            have Ht := hide hts
            have Htx : Hid (textsV xv = ts) := by rw [← htx]; exact hide hts
            have hnt : ts.length ≤ 1000000000000 := by rw [← hts]; exact Nat.le_trans (texts_len a (by have := FA.l; omega) (by have := FA.p; omega)) (by omega)
            have hpx : xv.p.length ≤ 1000000 := by have := FX.p; omega
            have hlx5 : xv.l.length ≤ 100000 := by have := FX.l; omega
            have hpx5 : xv.p.length ≤ 100000 := by have := FX.p; omega
            have VX : ∀ W, Below w.heap.size w W → VlAt W (.agg #[.int .i64 ka, .string SB, .slice bla b.l.length blc, .slice bpa b.p.length bpc]) xv := fun W bw => by
              rw [hxv]
              obtain ⟨_, _, ea, A1, A2⟩ := GA.out.later bw
              obtain ⟨_, _, eb, B1, B2⟩ := GB.out.later bw
              simp only [Value.agg.injEq, Array.mk.injEq, List.cons.injEq, Value.string.injEq, and_true] at ea eb
              obtain ⟨ea0, ea1, ea2, ea3⟩ := ea
              obtain ⟨eb0, eb1, eb2, eb3⟩ := eb
              subst ea1 ea2 ea3 eb1 eb2 eb3
              exact ⟨_, _, rfl, by assumption, by assumption⟩
            clear hxv hkx htx hs hdd hd hvb hts
            go_enter Try.func8, Try.ntmps8
            go_wp2_with (first | (go_at_call 9; refine (awake_any _).mono ?_; rintro e w1 ⟨rfl, bb⟩; replace T := T.next bb; clear bb; obtain ⟨x0, x1, x2, x3, y0, y1, y2, y3⟩ := T.all; have l1 := T.fst.lt; have l2 := T.snd.lt) | (go_at_call 10; have zz := Q1; clear zz Q1; refine (few_w _ a true _ (GA.out.later T.bel) WA Fa.out).mono ?_; rintro e w2 ⟨rfl, bb⟩; replace T := T.next bb; clear bb; obtain ⟨x0, x1, x2, x3, y0, y1, y2, y3⟩ := T.all; have l1 := T.fst.lt; have l2 := T.snd.lt) | (go_at_call 10; have zz := Q2; clear zz Q2; refine (few_w _ b true _ (GB.out.later T.bel) WB Fb.out).mono ?_; rintro e w2 ⟨rfl, bb⟩; replace T := T.next bb; clear bb; obtain ⟨x0, x1, x2, x3, y0, y1, y2, y3⟩ := T.all; have l1 := T.fst.lt; have l2 := T.snd.lt))
            have U : Dx w (w2.alloc (.cells #[.int .i64 ka, .string SB, .slice bla b.l.length blc, .slice bpa b.p.length bpc] 25)) w2.heap.size #[.int .i64 ka, .string SA, .slice ala a.l.length alc, .slice apa a.p.length apc] #[.int .i64 ka, .string SB, .slice bla b.l.length blc, .slice bpa b.p.length bpc] a xv :=
              ⟨T.bel.alloc T.bel.size _, T.fst.later _, Bx.made _ _ _, GA.out.later (T.bel.alloc T.bel.size _), VX _ (T.bel.alloc T.bel.size _)⟩
            clear x0 x1 x2 x3 y0 y1 y2 y3
            go_region_held3 (fun W => W.cell? ⟨w.heap.size, 0, none⟩ = some (.int .i64 ka) ∧ W.cell? ⟨w.heap.size, 1, none⟩ = some (.string SA) ∧ W.cell? ⟨w.heap.size, 2, none⟩ = some (.slice ala a.l.length alc) ∧ W.cell? ⟨w.heap.size, 3, none⟩ = some (.slice apa a.p.length apc) ∧ W.cell? ⟨w2.heap.size, 0, none⟩ = some (.int .i64 ka) ∧ W.cell? ⟨w2.heap.size, 1, none⟩ = some (.string SB) ∧ W.cell? ⟨w2.heap.size, 2, none⟩ = some (.slice bla b.l.length blc) ∧ W.cell? ⟨w2.heap.size, 3, none⟩ = some (.slice bpa b.p.length bpc)) (first | with_reducible exact U.all | with_reducible exact U.drew.all) (first | (go_at_call 22; refine (same_few _ _ a xv true _ (by first | with_reducible exact U.va | with_reducible exact U.drew.va) (by first | with_reducible exact U.vx | with_reducible exact U.drew.vx) FA FX Hs.out).mono ?_; rintro e w4 ⟨rfl, bb⟩; (first | with_reducible (replace U := U.next bb) | with_reducible (replace U := U.drew.next bb)); clear bb) | (go_at_call 12; have zz := Q3; clear zz Q3; refine (defined_any _ a d _ (by first | with_reducible exact U.va | with_reducible exact U.drew.va) hpa Hd.out).mono ?_; rintro e w4 ⟨rfl, bb⟩; (first | with_reducible (replace U := U.next bb) | with_reducible (replace U := U.drew.next bb)); clear bb) | (go_at_call 12; refine (defined_any _ xv d _ (by first | with_reducible exact U.vx | with_reducible exact U.drew.vx) hpx Hdx.out).mono ?_; rintro e w4 ⟨rfl, bb⟩; (first | with_reducible (replace U := U.next bb) | with_reducible (replace U := U.drew.next bb)); clear bb) | (go_at_call 18; have zz := Q4; clear zz Q4; refine (pvalid_any _ a vb _ (by first | with_reducible exact U.va | with_reducible exact U.drew.va) hla5 hpa5 FA.t4 Hv.out).mono ?_; rintro e w4 ⟨rfl, bb⟩; (first | with_reducible (replace U := U.next bb) | with_reducible (replace U := U.drew.next bb)); clear bb) | (go_at_call 18; refine (pvalid_any _ xv vb _ (by first | with_reducible exact U.vx | with_reducible exact U.drew.vx) hlx5 hpx5 FX.t4 Hvx.out).mono ?_; rintro e w4 ⟨rfl, bb⟩; (first | with_reducible (replace U := U.next bb) | with_reducible (replace U := U.drew.next bb)); clear bb) | (go_at_call 14; have zz := Q5; clear zz Q5; refine (texts_any' _ a ts _ (by first | with_reducible exact U.va | with_reducible exact U.drew.va) hla5 hpa5 FA.t4 Ht.out).mono ?_; rintro e w4 ⟨ta, tc, rfl, TA, _, bb⟩; (first | with_reducible (replace U := U.next bb) | with_reducible (replace U := U.drew.next bb)); clear bb) | (go_at_call 14; refine (texts_any' _ xv ts _ (by first | with_reducible exact U.vx | with_reducible exact U.drew.vx) hlx5 hpx5 FX.t4 Htx.out).mono ?_; rintro e w4 ⟨tb, td, rfl, TB, _, bb⟩; with_reducible (replace TA := TA.later bb); (first | with_reducible (replace U := U.next bb) | with_reducible (replace U := U.drew.next bb)); clear bb) | (go_at_call 13; refine (texts_same ts _ _ _ hnt (by with_reducible exact TA) (by with_reducible exact TB)).mono ?_; rintro e w4 ⟨rfl, bb⟩; (first | with_reducible (replace U := U.next bb) | with_reducible (replace U := U.drew.next bb)); clear bb))
            all_goals go_wp2
            all_goals
              go_ret
              exact ⟨ret_bool (by first | rfl | simp), U.bel⟩
end Go.Proofs.Ytikhggdigndhoaa
