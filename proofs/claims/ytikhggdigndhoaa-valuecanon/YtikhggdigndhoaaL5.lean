/-
  WALKS: the law ValueTells (layer 8).
-/
import Derived.Test.YtikhggdigndhoaaL1
import Derived.Test.YtikhggdigndhoaaL2
namespace Go.Proofs.Ytikhggdigndhoaa
open Go.RowKit

theorem FewV.t3 {v : Vl} (h : FewV v) : ∀ y ∈ textsV v, y.length ≤ 10000 := fun y hy => Nat.le_trans (h.ts y hy) (by omega)
set_option maxRecDepth 20000 in
set_option maxHeartbeats 16000000 in
theorem tells_walk (xa xb : Value) (a b : Vl) (w : World) (HA : VlAt w xa a) (HB : VlAt w xb b) (WA : WideV a) (WB : WideV b) :
    Calls Try.prog 3 #[xa, xb] w fun e w' => e = .returned (.bool true) ∧ Below w.heap.size w w' := by
  have GA := hide HA
  have GB := hide HB
  obtain ⟨al, ap, rfl, _, _⟩ := HA
  obtain ⟨bl, bp, rfl, _, _⟩ := HB
  obtain ⟨SA, hSA⟩ : ∃ S : ByteArray, (⟨a.s.toArray⟩ : ByteArray) = S := ⟨_, rfl⟩
  obtain ⟨SB, hSB⟩ : ∃ S : ByteArray, (⟨b.s.toArray⟩ : ByteArray) = S := ⟨_, rfl⟩
  obtain ⟨ka, hka⟩ : ∃ k, a.kind = k := ⟨_, rfl⟩
  obtain ⟨kb, hkb⟩ : ∃ k, b.kind = k := ⟨_, rfl⟩
  rw [hSA, hka] at GA ⊢
  rw [hSB, hkb] at GB ⊢
  have T := Jx.made w #[.int .i64 ka, .string SA, al, ap] #[.int .i64 kb, .string SB, bl, bp]
  clear hSA hSB hka hkb
  obtain ⟨W0, hW0⟩ : ∃ W0, (w.alloc (.cells #[.int .i64 ka, .string SA, al, ap] 25)).alloc (.cells #[.int .i64 kb, .string SB, bl, bp] 25) = W0 := ⟨_, rfl⟩
  rw [hW0] at T
  have Q1 : Hid True := hide trivial
  have Q2 : Hid True := hide trivial
  cases fa : fewV a with
  | false =>
    have Fa := hide fa
    clear fa
    go_enter Try.func3, Try.ntmps3
    go_wp2_with (first | (go_at_call 9; refine (awake_any _).mono ?_; rintro e w1 ⟨rfl, bb⟩; replace T := T.next bb; clear bb; obtain ⟨x0, x1, x2, x3, y0, y1, y2, y3⟩ := T.all) | (go_at_call 10; have zz := Q1; clear zz Q1; refine (few_w _ a false _ (GA.out.later T.bel) WA Fa.out).mono ?_; rintro e w2 ⟨rfl, bb⟩; replace T := T.next bb; clear bb; obtain ⟨x0, x1, x2, x3, y0, y1, y2, y3⟩ := T.all))
    all_goals
      go_ret
      exact ⟨rfl, T.bel⟩
  | true =>
    have Fa := hide fa
    have FA := few_of fa
    clear fa
    cases fb : fewV b with
    | false =>
      have Fb := hide fb
      clear fb
      go_enter Try.func3, Try.ntmps3
      go_wp2_with (first | (go_at_call 9; refine (awake_any _).mono ?_; rintro e w1 ⟨rfl, bb⟩; replace T := T.next bb; clear bb; obtain ⟨x0, x1, x2, x3, y0, y1, y2, y3⟩ := T.all) | (go_at_call 10; have zz := Q1; clear zz Q1; refine (few_w _ a true _ (GA.out.later T.bel) WA Fa.out).mono ?_; rintro e w2 ⟨rfl, bb⟩; replace T := T.next bb; clear bb; obtain ⟨x0, x1, x2, x3, y0, y1, y2, y3⟩ := T.all) | (go_at_call 10; have zz := Q2; clear zz Q2; refine (few_w _ b false _ (GB.out.later T.bel) WB Fb.out).mono ?_; rintro e w2 ⟨rfl, bb⟩; replace T := T.next bb; clear bb; obtain ⟨x0, x1, x2, x3, y0, y1, y2, y3⟩ := T.all))
      all_goals
        go_ret
        exact ⟨rfl, T.bel⟩
    | true =>
      have Fb := hide fb
      have FB := few_of fb
      clear fb
      have hpa : a.p.length ≤ 1000000 := by have := FA.p; omega
      have hla5 : a.l.length ≤ 100000 := by have := FA.l; omega
      have hpa5 : a.p.length ≤ 100000 := by have := FA.p; omega
      have hla1 : a.l.length ≤ 1000 := by have := FA.l; omega
      have hpa1 : a.p.length ≤ 1000 := by have := FA.p; omega
      have hlb1 : b.l.length ≤ 1000 := by have := FB.l; omega
      have hpb1 : b.p.length ≤ 1000 := by have := FB.p; omega
      obtain ⟨ts, hts⟩ : ∃ ts, textsV a = ts := ⟨_, rfl⟩
      have hnt : ts.length ≤ 1000000000000 := by rw [← hts]; exact Nat.le_trans (texts_len a hla1 hpa1) (by omega)
      obtain ⟨d, hd⟩ : ∃ d, definedV a = d := ⟨_, rfl⟩
      have hdl : decide ((0 : Int) < ts.length) = d := by
        rw [← hd, ← hts]; unfold definedV; rw [Bool.eq_iff_iff, decide_eq_true_eq, decide_eq_true_eq]; omega
      obtain ⟨ca, hca⟩ : ∃ c, canonV a = c := ⟨_, rfl⟩
      obtain ⟨cl1, cl2, _⟩ := canon_lens a
      rw [hca] at cl1 cl2
      have hlc : ca.l.length ≤ 1000000 := by omega
      have hpc : ca.p.length ≤ 1000000 := by omega
      obtain ⟨vb, hvb⟩ : ∃ b, validV a = b := ⟨_, rfl⟩
      obtain ⟨cc, hcc⟩ : ∃ c, compareV a b = c := ⟨_, rfl⟩
      obtain ⟨ss, hss⟩ : ∃ c, sameV a b = c := ⟨_, rfl⟩
      have Ht := hide hts
      have Hd := hide hd
      have Hc := hide hca
      have Hv := hide hvb
      have Hcc := hide hcc
      have Hss := hide hss
      clear hts hd hca hvb hcc hss cl1 cl2
      cases d with
      | true =>
        have hpos : (0 : Int) < ts.length := of_decide_eq_true hdl
        have hposN : decide (0 < ts.length) = true := by rw [decide_eq_true_eq]; omega
        go_enter Try.func3, Try.ntmps3
        go_wp2_with (first | (go_at_call 9; refine (awake_any _).mono ?_; rintro e w1 ⟨rfl, bb⟩; replace T := T.next bb; clear bb; obtain ⟨x0, x1, x2, x3, y0, y1, y2, y3⟩ := T.all) | (go_at_call 10; have zz := Q1; clear zz Q1; refine (few_w _ a true _ (GA.out.later T.bel) WA Fa.out).mono ?_; rintro e w2 ⟨rfl, bb⟩; replace T := T.next bb; clear bb; obtain ⟨x0, x1, x2, x3, y0, y1, y2, y3⟩ := T.all) | (go_at_call 10; have zz := Q2; clear zz Q2; refine (few_w _ b true _ (GB.out.later T.bel) WB Fb.out).mono ?_; rintro e w2 ⟨rfl, bb⟩; replace T := T.next bb; clear bb; obtain ⟨x0, x1, x2, x3, y0, y1, y2, y3⟩ := T.all) | (go_at_call 11; refine (rtexts_is _ a ts _ (GA.out.later T.bel) hla1 hpa1 Ht.out).mono ?_; rintro e w3 ⟨tb, td, rfl, TL, bb⟩; (try simp only [List.length_nil] at TL); replace T := T.next bb; clear bb; obtain ⟨x0, x1, x2, x3, y0, y1, y2, y3⟩ := T.all))
        go_region_held3 (fun W => W.cell? ⟨w.heap.size, 0, none⟩ = some (.int .i64 ka) ∧ W.cell? ⟨w.heap.size, 1, none⟩ = some (.string SA) ∧ W.cell? ⟨w.heap.size, 2, none⟩ = some (al) ∧ W.cell? ⟨w.heap.size, 3, none⟩ = some (ap) ∧ W.cell? ⟨w.heap.size + 1, 0, none⟩ = some (.int .i64 kb) ∧ W.cell? ⟨w.heap.size + 1, 1, none⟩ = some (.string SB) ∧ W.cell? ⟨w.heap.size + 1, 2, none⟩ = some (bl) ∧ W.cell? ⟨w.heap.size + 1, 3, none⟩ = some (bp)) (first | with_reducible exact T.all | with_reducible exact T.drew.all) (first | (go_at_call 12; refine (defined_any _ a _ _ (by first | with_reducible exact GA.out.later T.bel | with_reducible exact GA.out.later T.drew.bel) hpa Hd.out).mono ?_; rintro e w4 ⟨rfl, bb⟩; (first | with_reducible (replace TL := TL.later bb) | with_reducible (replace TL := (TL.later (b_drew _)).later bb)); (first | with_reducible (replace T := T.next bb) | with_reducible (replace T := T.drew.next bb)); clear bb) | (go_at_call 14; refine (texts_any' _ a ts _ (by first | with_reducible exact GA.out.later T.bel | with_reducible exact GA.out.later T.drew.bel) hla5 hpa5 FA.t4 Ht.out).mono ?_; rintro e w4 ⟨ta, tc, rfl, TA, _, bb⟩; (try simp only [List.length_nil] at TA); (first | with_reducible (replace TL := TL.later bb) | with_reducible (replace TL := (TL.later (b_drew _)).later bb)); (first | with_reducible (replace T := T.next bb) | with_reducible (replace T := T.drew.next bb)); clear bb) | (go_at_call 13; refine (texts_same ts _ _ _ hnt (by with_reducible exact TA) (by with_reducible exact TL)).mono ?_; rintro e w4 ⟨rfl, bb⟩; (first | with_reducible (replace TL := TL.later bb) | with_reducible (replace TL := (TL.later (b_drew _)).later bb)); (first | with_reducible (replace T := T.next bb) | with_reducible (replace T := T.drew.next bb)); clear bb) | (go_at_call 16; refine (canon_any _ a ca _ (by first | with_reducible exact GA.out.later T.bel | with_reducible exact GA.out.later T.drew.bel) hla1 hpa1 FA.t4 Hc.out).mono ?_; rintro e w4 ⟨la, lc, pa, pc, rfl, R1, R2, bb⟩; have VC := VlAt.mk R1 R2; clear R1 R2; (first | with_reducible (replace TL := TL.later bb) | with_reducible (replace TL := (TL.later (b_drew _)).later bb)); (first | with_reducible (replace T := T.next bb) | with_reducible (replace T := T.drew.next bb)); clear bb) | (go_at_call 17; refine (rcanon_c _ a ca _ (by first | with_reducible exact GA.out.later T.bel | with_reducible exact GA.out.later T.drew.bel) hla1 hpa1 Hc.out).mono ?_; rintro e w4 ⟨ma, mc, na, nc, rfl, R1, R2, bb⟩; have VD := VlAt.mk R1 R2; clear R1 R2; with_reducible (replace VC := VC.later bb); (first | with_reducible (replace TL := TL.later bb) | with_reducible (replace TL := (TL.later (b_drew _)).later bb)); (first | with_reducible (replace T := T.next bb) | with_reducible (replace T := T.drew.next bb)); clear bb) | (go_at_call 15; refine (very_is _ _ ca _ (by with_reducible exact VC) (by with_reducible exact VD) hlc hpc).mono ?_; rintro e w4 ⟨rfl, bb⟩; (first | with_reducible (replace TL := TL.later bb) | with_reducible (replace TL := (TL.later (b_drew _)).later bb)); (first | with_reducible (replace T := T.next bb) | with_reducible (replace T := T.drew.next bb)); clear bb) | (go_at_call 18; refine (pvalid_any _ a vb _ (by first | with_reducible exact GA.out.later T.bel | with_reducible exact GA.out.later T.drew.bel) hla5 hpa5 FA.t4 Hv.out).mono ?_; rintro e w4 ⟨rfl, bb⟩; (first | with_reducible (replace TL := TL.later bb) | with_reducible (replace TL := (TL.later (b_drew _)).later bb)); (first | with_reducible (replace T := T.next bb) | with_reducible (replace T := T.drew.next bb)); clear bb) | (go_at_call 19; refine (rvalid_is _ a vb _ (by first | with_reducible exact GA.out.later T.bel | with_reducible exact GA.out.later T.drew.bel) hla1 hpa1 FA.t3 Hv.out).mono ?_; rintro e w4 ⟨rfl, bb⟩; (first | with_reducible (replace TL := TL.later bb) | with_reducible (replace TL := (TL.later (b_drew _)).later bb)); (first | with_reducible (replace T := T.next bb) | with_reducible (replace T := T.drew.next bb)); clear bb) | (go_at_call 20; refine (cmp_few _ _ a b cc _ (by first | with_reducible exact GA.out.later T.bel | with_reducible exact GA.out.later T.drew.bel) (by first | with_reducible exact GB.out.later T.bel | with_reducible exact GB.out.later T.drew.bel) FA FB Hcc.out).mono ?_; rintro e w4 ⟨rfl, bb⟩; (first | with_reducible (replace TL := TL.later bb) | with_reducible (replace TL := (TL.later (b_drew _)).later bb)); (first | with_reducible (replace T := T.next bb) | with_reducible (replace T := T.drew.next bb)); clear bb) | (go_at_call 21; refine (rcompare_is _ _ a b cc _ (by first | with_reducible exact GA.out.later T.bel | with_reducible exact GA.out.later T.drew.bel) (by first | with_reducible exact GB.out.later T.bel | with_reducible exact GB.out.later T.drew.bel) hla1 hpa1 hlb1 hpb1 Hcc.out).mono ?_; rintro e w4 ⟨rfl, bb⟩; (first | with_reducible (replace TL := TL.later bb) | with_reducible (replace TL := (TL.later (b_drew _)).later bb)); (first | with_reducible (replace T := T.next bb) | with_reducible (replace T := T.drew.next bb)); clear bb) | (go_at_call 22; refine (same_few _ _ a b ss _ (by first | with_reducible exact GA.out.later T.bel | with_reducible exact GA.out.later T.drew.bel) (by first | with_reducible exact GB.out.later T.bel | with_reducible exact GB.out.later T.drew.bel) FA FB Hss.out).mono ?_; rintro e w4 ⟨rfl, bb⟩; (first | with_reducible (replace TL := TL.later bb) | with_reducible (replace TL := (TL.later (b_drew _)).later bb)); (first | with_reducible (replace T := T.next bb) | with_reducible (replace T := T.drew.next bb)); clear bb) | (go_at_call 23; refine (rsame_is _ _ a b ss _ (by first | with_reducible exact GA.out.later T.bel | with_reducible exact GA.out.later T.drew.bel) (by first | with_reducible exact GB.out.later T.bel | with_reducible exact GB.out.later T.drew.bel) hla1 hpa1 hlb1 hpb1 Hss.out).mono ?_; rintro e w4 ⟨rfl, bb⟩; (first | with_reducible (replace TL := TL.later bb) | with_reducible (replace TL := (TL.later (b_drew _)).later bb)); (first | with_reducible (replace T := T.next bb) | with_reducible (replace T := T.drew.next bb)); clear bb))
        all_goals go_wp2
        all_goals
          go_ret
          exact ⟨ret_bool (by first | rfl | simp), T.bel⟩
      | false =>
        have hz : ts = [] := List.eq_nil_of_length_eq_zero (by have := of_decide_eq_false hdl; omega)
        subst hz
        go_enter Try.func3, Try.ntmps3
        go_wp2_with (first | (go_at_call 9; refine (awake_any _).mono ?_; rintro e w1 ⟨rfl, bb⟩; replace T := T.next bb; clear bb; obtain ⟨x0, x1, x2, x3, y0, y1, y2, y3⟩ := T.all) | (go_at_call 10; have zz := Q1; clear zz Q1; refine (few_w _ a true _ (GA.out.later T.bel) WA Fa.out).mono ?_; rintro e w2 ⟨rfl, bb⟩; replace T := T.next bb; clear bb; obtain ⟨x0, x1, x2, x3, y0, y1, y2, y3⟩ := T.all) | (go_at_call 10; have zz := Q2; clear zz Q2; refine (few_w _ b true _ (GB.out.later T.bel) WB Fb.out).mono ?_; rintro e w2 ⟨rfl, bb⟩; replace T := T.next bb; clear bb; obtain ⟨x0, x1, x2, x3, y0, y1, y2, y3⟩ := T.all) | (go_at_call 11; refine (rtexts_is _ a [] _ (GA.out.later T.bel) hla1 hpa1 Ht.out).mono ?_; rintro e w3 ⟨tb, td, rfl, TL, bb⟩; (try simp only [List.length_nil] at TL); replace T := T.next bb; clear bb; obtain ⟨x0, x1, x2, x3, y0, y1, y2, y3⟩ := T.all))
        go_region_held3 (fun W => W.cell? ⟨w.heap.size, 0, none⟩ = some (.int .i64 ka) ∧ W.cell? ⟨w.heap.size, 1, none⟩ = some (.string SA) ∧ W.cell? ⟨w.heap.size, 2, none⟩ = some (al) ∧ W.cell? ⟨w.heap.size, 3, none⟩ = some (ap) ∧ W.cell? ⟨w.heap.size + 1, 0, none⟩ = some (.int .i64 kb) ∧ W.cell? ⟨w.heap.size + 1, 1, none⟩ = some (.string SB) ∧ W.cell? ⟨w.heap.size + 1, 2, none⟩ = some (bl) ∧ W.cell? ⟨w.heap.size + 1, 3, none⟩ = some (bp)) (first | with_reducible exact T.all | with_reducible exact T.drew.all) (first | (go_at_call 12; refine (defined_any _ a _ _ (by first | with_reducible exact GA.out.later T.bel | with_reducible exact GA.out.later T.drew.bel) hpa Hd.out).mono ?_; rintro e w4 ⟨rfl, bb⟩; (first | with_reducible (replace TL := TL.later bb) | with_reducible (replace TL := (TL.later (b_drew _)).later bb)); (first | with_reducible (replace T := T.next bb) | with_reducible (replace T := T.drew.next bb)); clear bb) | (go_at_call 14; refine (texts_any' _ a [] _ (by first | with_reducible exact GA.out.later T.bel | with_reducible exact GA.out.later T.drew.bel) hla5 hpa5 FA.t4 Ht.out).mono ?_; rintro e w4 ⟨ta, tc, rfl, TA, _, bb⟩; (try simp only [List.length_nil] at TA); (first | with_reducible (replace TL := TL.later bb) | with_reducible (replace TL := (TL.later (b_drew _)).later bb)); (first | with_reducible (replace T := T.next bb) | with_reducible (replace T := T.drew.next bb)); clear bb) | (go_at_call 13; refine (texts_same [] _ _ _ hnt (by with_reducible exact TA) (by with_reducible exact TL)).mono ?_; rintro e w4 ⟨rfl, bb⟩; (first | with_reducible (replace TL := TL.later bb) | with_reducible (replace TL := (TL.later (b_drew _)).later bb)); (first | with_reducible (replace T := T.next bb) | with_reducible (replace T := T.drew.next bb)); clear bb) | (go_at_call 16; refine (canon_any _ a ca _ (by first | with_reducible exact GA.out.later T.bel | with_reducible exact GA.out.later T.drew.bel) hla1 hpa1 FA.t4 Hc.out).mono ?_; rintro e w4 ⟨la, lc, pa, pc, rfl, R1, R2, bb⟩; have VC := VlAt.mk R1 R2; clear R1 R2; (first | with_reducible (replace TL := TL.later bb) | with_reducible (replace TL := (TL.later (b_drew _)).later bb)); (first | with_reducible (replace T := T.next bb) | with_reducible (replace T := T.drew.next bb)); clear bb) | (go_at_call 17; refine (rcanon_c _ a ca _ (by first | with_reducible exact GA.out.later T.bel | with_reducible exact GA.out.later T.drew.bel) hla1 hpa1 Hc.out).mono ?_; rintro e w4 ⟨ma, mc, na, nc, rfl, R1, R2, bb⟩; have VD := VlAt.mk R1 R2; clear R1 R2; with_reducible (replace VC := VC.later bb); (first | with_reducible (replace TL := TL.later bb) | with_reducible (replace TL := (TL.later (b_drew _)).later bb)); (first | with_reducible (replace T := T.next bb) | with_reducible (replace T := T.drew.next bb)); clear bb) | (go_at_call 15; refine (very_is _ _ ca _ (by with_reducible exact VC) (by with_reducible exact VD) hlc hpc).mono ?_; rintro e w4 ⟨rfl, bb⟩; (first | with_reducible (replace TL := TL.later bb) | with_reducible (replace TL := (TL.later (b_drew _)).later bb)); (first | with_reducible (replace T := T.next bb) | with_reducible (replace T := T.drew.next bb)); clear bb) | (go_at_call 18; refine (pvalid_any _ a vb _ (by first | with_reducible exact GA.out.later T.bel | with_reducible exact GA.out.later T.drew.bel) hla5 hpa5 FA.t4 Hv.out).mono ?_; rintro e w4 ⟨rfl, bb⟩; (first | with_reducible (replace TL := TL.later bb) | with_reducible (replace TL := (TL.later (b_drew _)).later bb)); (first | with_reducible (replace T := T.next bb) | with_reducible (replace T := T.drew.next bb)); clear bb) | (go_at_call 19; refine (rvalid_is _ a vb _ (by first | with_reducible exact GA.out.later T.bel | with_reducible exact GA.out.later T.drew.bel) hla1 hpa1 FA.t3 Hv.out).mono ?_; rintro e w4 ⟨rfl, bb⟩; (first | with_reducible (replace TL := TL.later bb) | with_reducible (replace TL := (TL.later (b_drew _)).later bb)); (first | with_reducible (replace T := T.next bb) | with_reducible (replace T := T.drew.next bb)); clear bb) | (go_at_call 20; refine (cmp_few _ _ a b cc _ (by first | with_reducible exact GA.out.later T.bel | with_reducible exact GA.out.later T.drew.bel) (by first | with_reducible exact GB.out.later T.bel | with_reducible exact GB.out.later T.drew.bel) FA FB Hcc.out).mono ?_; rintro e w4 ⟨rfl, bb⟩; (first | with_reducible (replace TL := TL.later bb) | with_reducible (replace TL := (TL.later (b_drew _)).later bb)); (first | with_reducible (replace T := T.next bb) | with_reducible (replace T := T.drew.next bb)); clear bb) | (go_at_call 21; refine (rcompare_is _ _ a b cc _ (by first | with_reducible exact GA.out.later T.bel | with_reducible exact GA.out.later T.drew.bel) (by first | with_reducible exact GB.out.later T.bel | with_reducible exact GB.out.later T.drew.bel) hla1 hpa1 hlb1 hpb1 Hcc.out).mono ?_; rintro e w4 ⟨rfl, bb⟩; (first | with_reducible (replace TL := TL.later bb) | with_reducible (replace TL := (TL.later (b_drew _)).later bb)); (first | with_reducible (replace T := T.next bb) | with_reducible (replace T := T.drew.next bb)); clear bb) | (go_at_call 22; refine (same_few _ _ a b ss _ (by first | with_reducible exact GA.out.later T.bel | with_reducible exact GA.out.later T.drew.bel) (by first | with_reducible exact GB.out.later T.bel | with_reducible exact GB.out.later T.drew.bel) FA FB Hss.out).mono ?_; rintro e w4 ⟨rfl, bb⟩; (first | with_reducible (replace TL := TL.later bb) | with_reducible (replace TL := (TL.later (b_drew _)).later bb)); (first | with_reducible (replace T := T.next bb) | with_reducible (replace T := T.drew.next bb)); clear bb) | (go_at_call 23; refine (rsame_is _ _ a b ss _ (by first | with_reducible exact GA.out.later T.bel | with_reducible exact GA.out.later T.drew.bel) (by first | with_reducible exact GB.out.later T.bel | with_reducible exact GB.out.later T.drew.bel) hla1 hpa1 hlb1 hpb1 Hss.out).mono ?_; rintro e w4 ⟨rfl, bb⟩; (first | with_reducible (replace TL := TL.later bb) | with_reducible (replace TL := (TL.later (b_drew _)).later bb)); (first | with_reducible (replace T := T.next bb) | with_reducible (replace T := T.drew.next bb)); clear bb))
        all_goals go_wp2
        all_goals
          go_ret
          exact ⟨ret_bool (by first | rfl | simp), T.bel⟩
end Go.Proofs.Ytikhggdigndhoaa
