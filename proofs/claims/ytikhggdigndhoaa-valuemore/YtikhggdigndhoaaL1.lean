/-
  WALKS: the law ValueOrder (layer 8).
-/
import Derived.Test.YtikhggdigndhoaaL0
namespace Go.Proofs.Ytikhggdigndhoaa
open Go.RowKit

/-- lengths that a value of the language may have -/
structure WideV (v : Vl) : Prop where
  hl : v.l.length ≤ 9223372036854775807
  hp : v.p.length ≤ 9223372036854775807
  hs : v.s.length ≤ 9223372036854775807
  hlx : ∀ y ∈ v.l, y.length ≤ 9223372036854775807
  hpx : ∀ y ∈ v.p, y.1.length ≤ 9223372036854775807 ∧ y.2.length ≤ 9223372036854775807
theorem few_w (x : Value) (v : Vl) (b : Bool) (w : World) (H : VlAt w x v) (W : WideV v) (h : fewV v = b) : Calls Try.prog 10 #[x] w fun e w' => e = .returned (.bool b) ∧ Below w.heap.size w w' := by
  subst h; exact few_any x v w H W.hl W.hp W.hs W.hlx W.hpx
/-- a value that is no longer than the laws ask -/
structure FewV (v : Vl) : Prop where
  l : v.l.length ≤ 30
  p : v.p.length ≤ 30
  ts : ∀ y ∈ textsV v, y.length ≤ 200
theorem few_of {v : Vl} (h : fewV v = true) : FewV v := by
  unfold fewV fewL fewP at h
  simp only [Bool.and_eq_true, decide_eq_true_eq, List.all_eq_true] at h
  obtain ⟨⟨h1, h2⟩, ⟨h3, h4⟩, h5⟩ := h
  rw [List.take_of_length_le (by omega)] at h1 h2
  refine ⟨h4, h5, fun y hy => ?_⟩
  unfold textsV at hy
  split at hy
  · rw [List.mem_singleton] at hy; rw [hy]; exact h3
  · split at hy
    · exact h1 y hy
    · split at hy
      · unfold flatP at hy
        rw [List.mem_flatMap] at hy
        obtain ⟨q, hq, hy⟩ := hy
        have := h2 q hq
        simp only [List.mem_cons, List.not_mem_nil, or_false] at hy
        rcases hy with rfl | rfl
        · exact this.1
        · exact this.2
      · simp at hy
theorem FewV.t4 {v : Vl} (h : FewV v) : ∀ y ∈ textsV v, y.length ≤ 140737488355328 := fun y hy => Nat.le_trans (h.ts y hy) (by omega)
theorem cmp_few (x y : Value) (a b : Vl) (r : Int) (w : World) (HA : VlAt w x a) (HB : VlAt w y b) (FA : FewV a) (FB : FewV b) (h : compareV a b = r) : Calls Try.prog 20 #[x, y] w fun e w' => e = .returned (.int .i64 r) ∧ Below w.heap.size w w' := by
  have := FA.l; have := FA.p; have := FB.l; have := FB.p
  exact compare_any x y a b r w HA HB (by omega) (by omega) (by omega) (by omega) FA.t4 FB.t4 h
theorem same_few (x y : Value) (a b : Vl) (r : Bool) (w : World) (HA : VlAt w x a) (HB : VlAt w y b) (FA : FewV a) (FB : FewV b) (h : sameV a b = r) : Calls Try.prog 22 #[x, y] w fun e w' => e = .returned (.bool r) ∧ Below w.heap.size w w' := by
  have := FA.l; have := FA.p; have := FB.l; have := FB.p
  exact same_any x y a b r w HA HB (by omega) (by omega) (by omega) (by omega) FA.t4 FB.t4 h
/-- three arguments' cells -/
structure Tx (w W : World) (x y z : Array Value) : Prop where
  bel : Below w.heap.size w W
  fst : Bx W w.heap.size x 25
  snd : Bx W (w.heap.size + 1) y 25
  thd : Bx W (w.heap.size + 1 + 1) z 25
section
variable {w W W' : World} {x y z : Array Value}
theorem Tx.next (h : Tx w W x y z) (bb : Below W.heap.size W W') : Tx w W' x y z := ⟨h.bel.trans (bb.mono h.bel.size), h.fst.next bb, h.snd.next bb, h.thd.next bb⟩
theorem Tx.made (w : World) (x y z : Array Value) : Tx w (((w.alloc (.cells x 25)).alloc (.cells y 25)).alloc (.cells z 25)) x y z := by
  refine ⟨(((Below.refl _ _).alloc (Nat.le_refl _) _).alloc (by simp) _).alloc (by simp; omega) _, ((Bx.made _ _ _).later _).later _, ?_, ?_⟩
  · have := (Bx.made (w.alloc (.cells x 25)) y 25).later (.cells z 25)
    simpa using this
  · have := Bx.made ((w.alloc (.cells x 25)).alloc (.cells y 25)) z 25
    simpa using this
theorem Tx.all {x0 x1 x2 x3 y0 y1 y2 y3 z0 z1 z2 z3 : Value} (h : Tx w W #[x0, x1, x2, x3] #[y0, y1, y2, y3] #[z0, z1, z2, z3]) : W.cell? ⟨w.heap.size, 0, none⟩ = some x0 ∧ W.cell? ⟨w.heap.size, 1, none⟩ = some x1 ∧ W.cell? ⟨w.heap.size, 2, none⟩ = some x2 ∧ W.cell? ⟨w.heap.size, 3, none⟩ = some x3 ∧ W.cell? ⟨w.heap.size + 1, 0, none⟩ = some y0 ∧ W.cell? ⟨w.heap.size + 1, 1, none⟩ = some y1 ∧ W.cell? ⟨w.heap.size + 1, 2, none⟩ = some y2 ∧ W.cell? ⟨w.heap.size + 1, 3, none⟩ = some y3 ∧
    W.cell? ⟨w.heap.size + 1 + 1, 0, none⟩ = some z0 ∧ W.cell? ⟨w.heap.size + 1 + 1, 1, none⟩ = some z1 ∧ W.cell? ⟨w.heap.size + 1 + 1, 2, none⟩ = some z2 ∧ W.cell? ⟨w.heap.size + 1 + 1, 3, none⟩ = some z3 := by
  obtain ⟨a0, a1, a2, a3⟩ := cells4 h.fst
  obtain ⟨b0, b1, b2, b3⟩ := cells4 h.snd
  obtain ⟨c0, c1, c2, c3⟩ := cells4 h.thd
  exact ⟨a0, a1, a2, a3, b0, b1, b2, b3, c0, c1, c2, c3⟩
end
set_option maxRecDepth 20000 in
set_option maxHeartbeats 8000000 in
theorem order_walk (xa xb xc : Value) (a b c : Vl) (w : World) (HA : VlAt w xa a) (HB : VlAt w xb b) (HC : VlAt w xc c) (WA : WideV a) (WB : WideV b) (WC : WideV c) :
    Calls Try.prog 6 #[xa, xb, xc] w fun e w' => e = .returned (.bool true) ∧ Below w.heap.size w w' := by
  have GA := hide HA
  have GB := hide HB
  have GC := hide HC
  obtain ⟨al, ap, rfl, _, _⟩ := HA
  obtain ⟨bl, bp, rfl, _, _⟩ := HB
  obtain ⟨cl, cp, rfl, _, _⟩ := HC
  obtain ⟨SA, hSA⟩ : ∃ S : ByteArray, (⟨a.s.toArray⟩ : ByteArray) = S := ⟨_, rfl⟩
  obtain ⟨SB, hSB⟩ : ∃ S : ByteArray, (⟨b.s.toArray⟩ : ByteArray) = S := ⟨_, rfl⟩
  obtain ⟨SC, hSC⟩ : ∃ S : ByteArray, (⟨c.s.toArray⟩ : ByteArray) = S := ⟨_, rfl⟩
  obtain ⟨ka, hka⟩ : ∃ k, a.kind = k := ⟨_, rfl⟩
  obtain ⟨kb, hkb⟩ : ∃ k, b.kind = k := ⟨_, rfl⟩
  obtain ⟨kc, hkc⟩ : ∃ k, c.kind = k := ⟨_, rfl⟩
  rw [hSA, hka] at GA ⊢
  rw [hSB, hkb] at GB ⊢
  rw [hSC, hkc] at GC ⊢
  have T := Tx.made w #[.int .i64 ka, .string SA, al, ap] #[.int .i64 kb, .string SB, bl, bp] #[.int .i64 kc, .string SC, cl, cp]
  clear hSA hSB hSC hka hkb hkc
  obtain ⟨W0, hW0⟩ : ∃ W0, ((w.alloc (.cells #[.int .i64 ka, .string SA, al, ap] 25)).alloc (.cells #[.int .i64 kb, .string SB, bl, bp] 25)).alloc (.cells #[.int .i64 kc, .string SC, cl, cp] 25) = W0 := ⟨_, rfl⟩
  rw [hW0] at T
  have Q1 : Hid True := hide trivial
  have Q2 : Hid True := hide trivial
  have Q3 : Hid True := hide trivial
  have Q4 : Hid True := hide trivial
  have Q5 : Hid True := hide trivial
  have Q6 : Hid True := hide trivial
  have Q7 : Hid True := hide trivial
  have Q8 : Hid True := hide trivial
  cases fa : fewV a with
  | false =>
    have Fa := hide fa
    clear fa
    go_enter Try.func6, Try.ntmps6
    go_wp2_with (first | (go_at_call 9; refine (awake_any _).mono ?_; rintro e w1 ⟨rfl, bb⟩; replace T := T.next bb; clear bb; obtain ⟨x0, x1, x2, x3, y0, y1, y2, y3, z0, z1, z2, z3⟩ := T.all) | (go_at_call 10; refine (few_w _ a false _ (GA.out.later T.bel) WA Fa.out).mono ?_; rintro e w2 ⟨rfl, bb⟩; replace T := T.next bb; clear bb))
    all_goals
      go_ret
      exact ⟨rfl, T.bel⟩
  | true =>
    have Fa := hide fa
    have FA := few_of fa
    clear fa
    cases fb : fewV b with
    | false =>
      have Fb := hide fb
      clear fb
      go_enter Try.func6, Try.ntmps6
      go_wp2_with (first | (go_at_call 9; refine (awake_any _).mono ?_; rintro e w1 ⟨rfl, bb⟩; replace T := T.next bb; clear bb; obtain ⟨x0, x1, x2, x3, y0, y1, y2, y3, z0, z1, z2, z3⟩ := T.all) | (go_at_call 10; have z := Q1; clear z Q1; refine (few_w _ a true _ (GA.out.later T.bel) WA Fa.out).mono ?_; rintro e w2 ⟨rfl, bb⟩; replace T := T.next bb; clear bb; obtain ⟨x0, x1, x2, x3, y0, y1, y2, y3, z0, z1, z2, z3⟩ := T.all) | (go_at_call 10; refine (few_w _ b false _ (GB.out.later T.bel) WB Fb.out).mono ?_; rintro e w2 ⟨rfl, bb⟩; replace T := T.next bb; clear bb))
      all_goals
        go_ret
        exact ⟨rfl, T.bel⟩
    | true =>
      have Fb := hide fb
      have FB := few_of fb
      clear fb
      cases fc : fewV c with
      | false =>
        have Fc := hide fc
        clear fc
        go_enter Try.func6, Try.ntmps6
        go_wp2_with (first | (go_at_call 9; refine (awake_any _).mono ?_; rintro e w1 ⟨rfl, bb⟩; replace T := T.next bb; clear bb; obtain ⟨x0, x1, x2, x3, y0, y1, y2, y3, z0, z1, z2, z3⟩ := T.all) | (go_at_call 10; have z := Q1; clear z Q1; refine (few_w _ a true _ (GA.out.later T.bel) WA Fa.out).mono ?_; rintro e w2 ⟨rfl, bb⟩; replace T := T.next bb; clear bb; obtain ⟨x0, x1, x2, x3, y0, y1, y2, y3, z0, z1, z2, z3⟩ := T.all) | (go_at_call 10; have z := Q2; clear z Q2; refine (few_w _ b true _ (GB.out.later T.bel) WB Fb.out).mono ?_; rintro e w2 ⟨rfl, bb⟩; replace T := T.next bb; clear bb; obtain ⟨x0, x1, x2, x3, y0, y1, y2, y3, z0, z1, z2, z3⟩ := T.all) | (go_at_call 10; refine (few_w _ c false _ (GC.out.later T.bel) WC Fc.out).mono ?_; rintro e w2 ⟨rfl, bb⟩; replace T := T.next bb; clear bb))
        all_goals
          go_ret
          exact ⟨rfl, T.bel⟩
      | true =>
        have Fc := hide fc
        have FC := few_of fc
        clear fc
        obtain ⟨x, hx⟩ : ∃ x, compareV a b = x := ⟨_, rfl⟩
        obtain ⟨x', hx'⟩ : ∃ x, compareV b a = x := ⟨_, rfl⟩
        obtain ⟨y, hy⟩ : ∃ x, compareV b c = x := ⟨_, rfl⟩
        obtain ⟨z, hz⟩ : ∃ x, compareV a c = x := ⟨_, rfl⟩
        obtain ⟨s, hs⟩ : ∃ s, sameV a b = s := ⟨_, rfl⟩
        have h0 := hide (compare_self a)
        have r1 := compare_range a b
        have r2 := compare_range b a
        have hb := compare_back a b
        have hsm : (x == 0) = s := by
          rw [← hs, Bool.eq_iff_iff, beq_iff_eq, ← hx]
          exact compare_same a b
        have ht : ¬ 0 < x → ¬ 0 < y → z ≤ 0 := by
          intro h1 h2
          rw [← hz]
          exact compare_trans (b := b) (by rw [hx]; omega) (by rw [hy]; omega)
        rw [hx] at r1
        rw [hx'] at r2
        rw [hx, hx'] at hb
        have hneg : IntKind.i64.wrap (-x') = x := by rw [IntKind.wrap_i64] <;> omega
        have b1 : -1 ≤ x := r1.1
        have b2 : x ≤ 1 := r1.2
        have Hx := hide hx
        have Hx' := hide hx'
        have Hy := hide hy
        have Hz := hide hz
        have Hs := hide hs
        have Ht := hide ht
        clear hx hx' hy hz hs ht hb r1 r2
        by_cases c1 : 0 < x
        · go_enter Try.func6, Try.ntmps6
          go_wp2_with (first | (go_at_call 9; refine (awake_any _).mono ?_; rintro e w1 ⟨rfl, bb⟩; replace T := T.next bb; clear bb; obtain ⟨x0, x1, x2, x3, y0, y1, y2, y3, z0, z1, z2, z3⟩ := T.all) | (go_at_call 10; have zz := Q1; clear zz Q1; refine (few_w _ a true _ (GA.out.later T.bel) WA Fa.out).mono ?_; rintro e w2 ⟨rfl, bb⟩; replace T := T.next bb; clear bb; obtain ⟨x0, x1, x2, x3, y0, y1, y2, y3, z0, z1, z2, z3⟩ := T.all) | (go_at_call 10; have zz := Q2; clear zz Q2; refine (few_w _ b true _ (GB.out.later T.bel) WB Fb.out).mono ?_; rintro e w2 ⟨rfl, bb⟩; replace T := T.next bb; clear bb; obtain ⟨x0, x1, x2, x3, y0, y1, y2, y3, z0, z1, z2, z3⟩ := T.all) | (go_at_call 10; have zz := Q3; clear zz Q3; refine (few_w _ c true _ (GC.out.later T.bel) WC Fc.out).mono ?_; rintro e w2 ⟨rfl, bb⟩; replace T := T.next bb; clear bb; obtain ⟨x0, x1, x2, x3, y0, y1, y2, y3, z0, z1, z2, z3⟩ := T.all) | (go_at_call 20; have zz := Q4; clear zz Q4; refine (cmp_few _ _ a b x _ (GA.out.later T.bel) (GB.out.later T.bel) FA FB Hx.out).mono ?_; rintro e w2 ⟨rfl, bb⟩; replace T := T.next bb; clear bb; obtain ⟨x0, x1, x2, x3, y0, y1, y2, y3, z0, z1, z2, z3⟩ := T.all) | (go_at_call 20; have zz := Q5; clear zz Q5; refine (cmp_few _ _ b c y _ (GB.out.later T.bel) (GC.out.later T.bel) FB FC Hy.out).mono ?_; rintro e w2 ⟨rfl, bb⟩; replace T := T.next bb; clear bb; obtain ⟨x0, x1, x2, x3, y0, y1, y2, y3, z0, z1, z2, z3⟩ := T.all) | (go_at_call 20; have zz := Q6; clear zz Q6; refine (cmp_few _ _ a c z _ (GA.out.later T.bel) (GC.out.later T.bel) FA FC Hz.out).mono ?_; rintro e w2 ⟨rfl, bb⟩; replace T := T.next bb; clear bb; obtain ⟨x0, x1, x2, x3, y0, y1, y2, y3, z0, z1, z2, z3⟩ := T.all) | (go_at_call 20; have zz := Q7; clear zz Q7; refine (cmp_few _ _ b a x' _ (GB.out.later T.bel) (GA.out.later T.bel) FB FA Hx'.out).mono ?_; rintro e w2 ⟨rfl, bb⟩; replace T := T.next bb; clear bb; obtain ⟨x0, x1, x2, x3, y0, y1, y2, y3, z0, z1, z2, z3⟩ := T.all) | (go_at_call 20; have zz := Q8; clear zz Q8; refine (cmp_few _ _ a a 0 _ (GA.out.later T.bel) (GA.out.later T.bel) FA FA h0.out).mono ?_; rintro e w2 ⟨rfl, bb⟩; replace T := T.next bb; clear bb; obtain ⟨x0, x1, x2, x3, y0, y1, y2, y3, z0, z1, z2, z3⟩ := T.all) | (go_at_call 22; refine (same_few _ _ a b s _ (GA.out.later T.bel) (GB.out.later T.bel) FA FB Hs.out).mono ?_; rintro e w2 ⟨rfl, bb⟩; replace T := T.next bb; clear bb; obtain ⟨x0, x1, x2, x3, y0, y1, y2, y3, z0, z1, z2, z3⟩ := T.all))
          all_goals
            go_ret
            exact ⟨ret_bool (by first | rfl | simp [hsm]), T.bel⟩
        · by_cases c2 : 0 < y
          · go_enter Try.func6, Try.ntmps6
            go_wp2_with (first | (go_at_call 9; refine (awake_any _).mono ?_; rintro e w1 ⟨rfl, bb⟩; replace T := T.next bb; clear bb; obtain ⟨x0, x1, x2, x3, y0, y1, y2, y3, z0, z1, z2, z3⟩ := T.all) | (go_at_call 10; have zz := Q1; clear zz Q1; refine (few_w _ a true _ (GA.out.later T.bel) WA Fa.out).mono ?_; rintro e w2 ⟨rfl, bb⟩; replace T := T.next bb; clear bb; obtain ⟨x0, x1, x2, x3, y0, y1, y2, y3, z0, z1, z2, z3⟩ := T.all) | (go_at_call 10; have zz := Q2; clear zz Q2; refine (few_w _ b true _ (GB.out.later T.bel) WB Fb.out).mono ?_; rintro e w2 ⟨rfl, bb⟩; replace T := T.next bb; clear bb; obtain ⟨x0, x1, x2, x3, y0, y1, y2, y3, z0, z1, z2, z3⟩ := T.all) | (go_at_call 10; have zz := Q3; clear zz Q3; refine (few_w _ c true _ (GC.out.later T.bel) WC Fc.out).mono ?_; rintro e w2 ⟨rfl, bb⟩; replace T := T.next bb; clear bb; obtain ⟨x0, x1, x2, x3, y0, y1, y2, y3, z0, z1, z2, z3⟩ := T.all) | (go_at_call 20; have zz := Q4; clear zz Q4; refine (cmp_few _ _ a b x _ (GA.out.later T.bel) (GB.out.later T.bel) FA FB Hx.out).mono ?_; rintro e w2 ⟨rfl, bb⟩; replace T := T.next bb; clear bb; obtain ⟨x0, x1, x2, x3, y0, y1, y2, y3, z0, z1, z2, z3⟩ := T.all) | (go_at_call 20; have zz := Q5; clear zz Q5; refine (cmp_few _ _ b c y _ (GB.out.later T.bel) (GC.out.later T.bel) FB FC Hy.out).mono ?_; rintro e w2 ⟨rfl, bb⟩; replace T := T.next bb; clear bb; obtain ⟨x0, x1, x2, x3, y0, y1, y2, y3, z0, z1, z2, z3⟩ := T.all) | (go_at_call 20; have zz := Q6; clear zz Q6; refine (cmp_few _ _ a c z _ (GA.out.later T.bel) (GC.out.later T.bel) FA FC Hz.out).mono ?_; rintro e w2 ⟨rfl, bb⟩; replace T := T.next bb; clear bb; obtain ⟨x0, x1, x2, x3, y0, y1, y2, y3, z0, z1, z2, z3⟩ := T.all) | (go_at_call 20; have zz := Q7; clear zz Q7; refine (cmp_few _ _ b a x' _ (GB.out.later T.bel) (GA.out.later T.bel) FB FA Hx'.out).mono ?_; rintro e w2 ⟨rfl, bb⟩; replace T := T.next bb; clear bb; obtain ⟨x0, x1, x2, x3, y0, y1, y2, y3, z0, z1, z2, z3⟩ := T.all) | (go_at_call 20; have zz := Q8; clear zz Q8; refine (cmp_few _ _ a a 0 _ (GA.out.later T.bel) (GA.out.later T.bel) FA FA h0.out).mono ?_; rintro e w2 ⟨rfl, bb⟩; replace T := T.next bb; clear bb; obtain ⟨x0, x1, x2, x3, y0, y1, y2, y3, z0, z1, z2, z3⟩ := T.all) | (go_at_call 22; refine (same_few _ _ a b s _ (GA.out.later T.bel) (GB.out.later T.bel) FA FB Hs.out).mono ?_; rintro e w2 ⟨rfl, bb⟩; replace T := T.next bb; clear bb; obtain ⟨x0, x1, x2, x3, y0, y1, y2, y3, z0, z1, z2, z3⟩ := T.all))
            all_goals
              go_ret
              exact ⟨ret_bool (by first | rfl | simp [hsm]), T.bel⟩
          · have c3 : z ≤ 0 := Ht.out c1 c2
            go_enter Try.func6, Try.ntmps6
            go_wp2_with (first | (go_at_call 9; refine (awake_any _).mono ?_; rintro e w1 ⟨rfl, bb⟩; replace T := T.next bb; clear bb; obtain ⟨x0, x1, x2, x3, y0, y1, y2, y3, z0, z1, z2, z3⟩ := T.all) | (go_at_call 10; have zz := Q1; clear zz Q1; refine (few_w _ a true _ (GA.out.later T.bel) WA Fa.out).mono ?_; rintro e w2 ⟨rfl, bb⟩; replace T := T.next bb; clear bb; obtain ⟨x0, x1, x2, x3, y0, y1, y2, y3, z0, z1, z2, z3⟩ := T.all) | (go_at_call 10; have zz := Q2; clear zz Q2; refine (few_w _ b true _ (GB.out.later T.bel) WB Fb.out).mono ?_; rintro e w2 ⟨rfl, bb⟩; replace T := T.next bb; clear bb; obtain ⟨x0, x1, x2, x3, y0, y1, y2, y3, z0, z1, z2, z3⟩ := T.all) | (go_at_call 10; have zz := Q3; clear zz Q3; refine (few_w _ c true _ (GC.out.later T.bel) WC Fc.out).mono ?_; rintro e w2 ⟨rfl, bb⟩; replace T := T.next bb; clear bb; obtain ⟨x0, x1, x2, x3, y0, y1, y2, y3, z0, z1, z2, z3⟩ := T.all) | (go_at_call 20; have zz := Q4; clear zz Q4; refine (cmp_few _ _ a b x _ (GA.out.later T.bel) (GB.out.later T.bel) FA FB Hx.out).mono ?_; rintro e w2 ⟨rfl, bb⟩; replace T := T.next bb; clear bb; obtain ⟨x0, x1, x2, x3, y0, y1, y2, y3, z0, z1, z2, z3⟩ := T.all) | (go_at_call 20; have zz := Q5; clear zz Q5; refine (cmp_few _ _ b c y _ (GB.out.later T.bel) (GC.out.later T.bel) FB FC Hy.out).mono ?_; rintro e w2 ⟨rfl, bb⟩; replace T := T.next bb; clear bb; obtain ⟨x0, x1, x2, x3, y0, y1, y2, y3, z0, z1, z2, z3⟩ := T.all) | (go_at_call 20; have zz := Q6; clear zz Q6; refine (cmp_few _ _ a c z _ (GA.out.later T.bel) (GC.out.later T.bel) FA FC Hz.out).mono ?_; rintro e w2 ⟨rfl, bb⟩; replace T := T.next bb; clear bb; obtain ⟨x0, x1, x2, x3, y0, y1, y2, y3, z0, z1, z2, z3⟩ := T.all) | (go_at_call 20; have zz := Q7; clear zz Q7; refine (cmp_few _ _ b a x' _ (GB.out.later T.bel) (GA.out.later T.bel) FB FA Hx'.out).mono ?_; rintro e w2 ⟨rfl, bb⟩; replace T := T.next bb; clear bb; obtain ⟨x0, x1, x2, x3, y0, y1, y2, y3, z0, z1, z2, z3⟩ := T.all) | (go_at_call 20; have zz := Q8; clear zz Q8; refine (cmp_few _ _ a a 0 _ (GA.out.later T.bel) (GA.out.later T.bel) FA FA h0.out).mono ?_; rintro e w2 ⟨rfl, bb⟩; replace T := T.next bb; clear bb; obtain ⟨x0, x1, x2, x3, y0, y1, y2, y3, z0, z1, z2, z3⟩ := T.all) | (go_at_call 22; refine (same_few _ _ a b s _ (GA.out.later T.bel) (GB.out.later T.bel) FA FB Hs.out).mono ?_; rintro e w2 ⟨rfl, bb⟩; replace T := T.next bb; clear bb; obtain ⟨x0, x1, x2, x3, y0, y1, y2, y3, z0, z1, z2, z3⟩ := T.all))
            all_goals
              go_ret
              exact ⟨ret_bool (by first | rfl | simp [hsm]), T.bel⟩
end Go.Proofs.Ytikhggdigndhoaa
