/-
  WALKS: the program's Compare, Same (layer 8).
-/
import Derived.Test.YtgnccmmbpgnamaaP10
namespace Go.Proofs.Ytgnccmmbpgnamaa
open Go.RowKit Go.Shelf
attribute [local go_sem] Oper.semAt_some

theorem cmpB_zero (x y : List UInt8) : cmpB x y = 0 ↔ x = y := by
  unfold cmpB
  constructor
  · intro h
    apply Classical.byContradiction
    intro e
    have := ltB_total x y e
    cases h1 : ltB x y <;> cases h2 : ltB y x <;> simp [h1, h2] at h this
  · rintro rfl
    simp [ltB_irr]
theorem zip_all : ∀ ta tb : List (List UInt8), (∀ q ∈ ta.zip tb, q.1 = q.2) → lessL ta tb = decide (ta.length < tb.length) ∧ (ta = tb ↔ ta.length = tb.length)
  | [], [], _ => by simp [lessL]
  | _ :: _, [], _ => by simp [lessL]
  | [], _ :: _, _ => by simp [lessL]
  | x :: a, y :: b, h => by
    have e : x = y := h (x, y) (by simp)
    subst e
    obtain ⟨h1, h2⟩ := zip_all a b (fun q hq => h q (by simp [hq]))
    constructor
    · unfold lessL
      rw [if_pos rfl, h1]
      simp
    · simp [h2]
theorem zip_first : ∀ (ta tb : List (List UInt8)) (pre : List (List UInt8 × List UInt8)) (q : List UInt8 × List UInt8) (r : List (List UInt8 × List UInt8)), ta.zip tb = pre ++ q :: r → (∀ p ∈ pre, p.1 = p.2) → q.1 ≠ q.2 → lessL ta tb = ltB q.1 q.2 ∧ ta ≠ tb
  | [], tb, pre, q, r, h, _, _ => by
    have : ([] : List (List UInt8 × List UInt8)) = pre ++ q :: r := by rw [← h]; simp
    cases pre <;> cases this
  | x :: a, [], pre, q, r, h, _, _ => by
    have : ([] : List (List UInt8 × List UInt8)) = pre ++ q :: r := by rw [← h]; simp
    cases pre <;> cases this
  | x :: a, y :: b, [], q, r, h, _, hne => by
    rw [List.zip_cons_cons, List.nil_append] at h
    injection h with h1 h2
    subst h1
    refine ⟨?_, fun e => ?_⟩
    · unfold lessL; rw [if_neg hne]
    · injection e with e1 _
      exact hne e1
  | x :: a, y :: b, p :: pre, q, r, h, hp, hne => by
    rw [List.zip_cons_cons, List.cons_append] at h
    injection h with h1 h2
    have e : x = y := by
      have := hp p (by simp)
      rw [← h1] at this
      exact this
    subst e
    obtain ⟨g1, g2⟩ := zip_first a b pre q r h2 (fun z hz => hp z (by simp [hz])) hne
    refine ⟨?_, fun e => ?_⟩
    · unfold lessL; rw [if_pos rfl]; exact g1
    · injection e with _ e2
      exact g2 e2
theorem compare_rank (a b : Vl) (h : (canonV a).kind ≠ (canonV b).kind) : compareV a b = cmpI (canonV a).kind (canonV b).kind := by
  unfold compareV aheadV sameV keyK cmpI
  by_cases h1 : (canonV a).kind < (canonV b).kind
  · simp [h1]
  · have h2 : (canonV b).kind < (canonV a).kind := by omega
    simp [h1, h2, h]
theorem compare_first (a b : Vl) (h : (canonV a).kind = (canonV b).kind) {pre r : List (List UInt8 × List UInt8)} {q : List UInt8 × List UInt8} (hz : (textsV a).zip (textsV b) = pre ++ q :: r) (hp : ∀ p ∈ pre, p.1 = p.2) (hne : q.1 ≠ q.2) : compareV a b = cmpB q.1 q.2 := by
  obtain ⟨g1, g2⟩ := zip_first _ _ _ _ _ hz hp hne
  have ht := ltB_total _ _ hne
  unfold compareV aheadV sameV keyK cmpB
  rw [h, g1]
  cases h1 : ltB q.1 q.2 <;> cases h2 : ltB q.2 q.1 <;> simp [h1, h2, g2] at ht ⊢
theorem compare_all (a b : Vl) (h : (canonV a).kind = (canonV b).kind) (hz : ∀ q ∈ (textsV a).zip (textsV b), q.1 = q.2) : compareV a b = cmpI (countV a) (countV b) := by
  obtain ⟨g1, g2⟩ := zip_all _ _ hz
  unfold compareV aheadV sameV keyK cmpI countV
  rw [h, g1]
  by_cases h1 : (textsV a).length < (textsV b).length
  · simp [h1]
  · by_cases h2 : (textsV b).length < (textsV a).length
    · have : textsV a ≠ textsV b := fun e => by have := g2.1 e; omega
      have h3 : ((textsV b).length : Int) < (textsV a).length := by omega
      have h4 : ¬ ((textsV a).length : Int) < (textsV b).length := by omega
      simp [h1, h4, h3, this]
    · have : textsV a = textsV b := g2.2 (by omega)
      simp [this]
theorem cmp_is (a b c : Int) (w : World) (h : cmpI a b = c) : Calls Try.prog 60 #[.int .i64 a, .int .i64 b] w fun e w' => e = .returned (.int .i64 c) ∧ w' = w := by
  subst h; exact cmp_int a b w
theorem cmpS_is (X Y : ByteArray) (c : Int) (w : World) (h : cmpB X.data.toList Y.data.toList = c) : Calls Try.prog 63 #[.string X, .string Y] w fun e w' => e = .returned (.int .i64 c) ∧ w' = w := by
  subst h; exact cmp_str X Y w
theorem ownFrom_ex {β γ : Type} {n : Nat} {I : γ → β → World → Prop} (h : ∀ g, OwnFrom n (I g)) : OwnFrom n (fun s W => ∃ g, I g s W) := fun s W W' row ⟨g, hg⟩ h1 h2 => ⟨g, h g s W W' row hg h1 h2⟩
/-- two arguments' cells, and the result's box -/
structure Cx (w W : World) (ca cb : Array Value) (r : Value) : Prop where
  two : Ax w W w.heap.size (w.heap.size + 1) ca cb
  res : Boxed W (w.heap.size + 2) 3 r
section
variable {w W W' : World} {ca cb : Array Value} {r : Value}
theorem Cx.bel (h : Cx w W ca cb r) : Below w.heap.size w W := h.two.bel
theorem Cx.next (h : Cx w W ca cb r) (bb : Below W.heap.size W W') : Cx w W' ca cb r := ⟨h.two.next bb, boxed_next h.res bb⟩
theorem Cx.drew (h : Cx w W ca cb r) : Cx w W.drew ca cb r := ⟨h.two.drew, h.res⟩
theorem Cx.set (h : Cx w W ca cb r) (u : Value) : Cx w (W.setCell ⟨w.heap.size + 2, 0, none⟩ u) ca cb u := ⟨⟨h.two.bel.setCell (p := ⟨w.heap.size + 2, 0, none⟩) (by simp) u, h.two.fst.other (by omega) 0 u, h.two.snd.other (by omega) 0 u⟩, h.res.set u⟩
theorem Cx.all {x0 x1 x2 x3 y0 y1 y2 y3 : Value} (h : Cx w W #[x0, x1, x2, x3] #[y0, y1, y2, y3] r) : W.cell? ⟨w.heap.size, 0, none⟩ = some x0 ∧ W.cell? ⟨w.heap.size, 1, none⟩ = some x1 ∧ W.cell? ⟨w.heap.size, 2, none⟩ = some x2 ∧ W.cell? ⟨w.heap.size, 3, none⟩ = some x3 ∧ W.cell? ⟨w.heap.size + 1, 0, none⟩ = some y0 ∧ W.cell? ⟨w.heap.size + 1, 1, none⟩ = some y1 ∧ W.cell? ⟨w.heap.size + 1, 2, none⟩ = some y2 ∧ W.cell? ⟨w.heap.size + 1, 3, none⟩ = some y3 ∧ W.cell? ⟨w.heap.size + 1 + 1, 0, none⟩ = some r ∧ W.frozen? ⟨w.heap.size + 1 + 1, 0, none⟩ = false := by
  obtain ⟨a0, a1, a2, a3, b0, b1, b2, b3⟩ := h.two.all
  exact ⟨a0, a1, a2, a3, b0, b1, b2, b3, h.res.cell, h.res.frozen⟩
theorem cx_own {β : Type} {n : Nat} {Ba Bb : Nat} {da db : Array Value} (hn : w.heap.size ≤ n) (p : β → Prop) (f : β → Value) : OwnFrom n (fun (s : β) W => p s ∧ Cx w W ca cb (f s) ∧ Ax w W Ba Bb da db) := by
  rintro s X Y row ⟨hp, h, k⟩ hg hrow
  have hr2 : ∀ r, row = some r → ∃ o : Obj, X.heap[r]? = some o ∧ o.isCells = false := fun r e => (hrow r e).2
  have hb := h.bel.grown hg h.bel.size (fun k e => Nat.le_trans hn (hrow k e).1)
  exact ⟨hp, ⟨⟨hb, (hg.block _ h.two.fst.lt (not_row hr2 h.two.fst)).trans h.two.fst, (hg.block _ h.two.snd.lt (not_row hr2 h.two.snd)).trans h.two.snd⟩, h.res.kept hg (not_row hr2 h.res)⟩, ⟨hb, (hg.block _ k.fst.lt (not_row hr2 k.fst)).trans k.fst, (hg.block _ k.snd.lt (not_row hr2 k.snd)).trans k.snd⟩⟩
end
set_option maxRecDepth 100000 in
set_option maxHeartbeats 8000000 in
theorem compare_any (x y : Value) (a b : Vl) (res : Int) (w : World) (HVa : VlAt w x a) (HVb : VlAt w y b) (hla : a.l.length ≤ 100000) (hpa : a.p.length ≤ 100000) (hlb : b.l.length ≤ 100000) (hpb : b.p.length ≤ 100000) (hta : ∀ y ∈ textsV a, y.length ≤ 140737488355328) (htb : ∀ y ∈ textsV b, y.length ≤ 140737488355328) (hres : compareV a b = res) :
    Calls Try.prog 53 #[x, y] w fun e w' => e = .returned (.int .i64 res) ∧ Below w.heap.size w w' := by
  have HA := hide HVa
  have HB := hide HVb
  have Hres := hide hres
  obtain ⟨xs, hxs⟩ := pair_lift ((textsV a).zip (textsV b)) (fun q hq => ⟨hta _ (List.of_mem_zip hq).1, htb _ (List.of_mem_zip hq).2⟩)
  have Hxs := hide hxs
  obtain ⟨al, ap, rfl, _, _⟩ := HVa
  obtain ⟨bl, bp, rfl, _, _⟩ := HVb
  obtain ⟨SA, hSA⟩ : ∃ S : ByteArray, (⟨a.s.toArray⟩ : ByteArray) = S := ⟨_, rfl⟩
  obtain ⟨SB, hSB⟩ : ∃ S : ByteArray, (⟨b.s.toArray⟩ : ByteArray) = S := ⟨_, rfl⟩
  obtain ⟨ka, hka⟩ : ∃ k, a.kind = k := ⟨_, rfl⟩
  obtain ⟨kb, hkb⟩ : ∃ k, b.kind = k := ⟨_, rfl⟩
  rw [hSA, hka] at HA ⊢
  rw [hSB, hkb] at HB ⊢
  obtain ⟨qa, hqa⟩ : ∃ k, (canonV a).kind = k := ⟨_, rfl⟩
  obtain ⟨qb, hqb⟩ : ∃ k, (canonV b).kind = k := ⟨_, rfl⟩
  have Hqa := hide hqa
  have Hqb := hide hqb
  have hpa1 : a.p.length ≤ 1000000 := by omega
  have hpb1 : b.p.length ≤ 1000000 := by omega
  have hmx : Try.prog.follows .mixedOrders = true := by kernel_rfl
  obtain ⟨cc, hcc⟩ : ∃ c, cmpI qa qb = c := ⟨_, rfl⟩
  have Hcc := hide hcc
  have A0 : Cx w (((w.alloc (.cells #[.int .i64 ka, .string SA, al, ap] 28)).alloc (.cells #[.int .i64 kb, .string SB, bl, bp] 28)).alloc (.cells #[.int .i64 0] 3)) #[.int .i64 ka, .string SA, al, ap] #[.int .i64 kb, .string SB, bl, bp] (.int .i64 0) := by
    refine ⟨⟨(((Below.refl _ _).alloc (Nat.le_refl _) _).alloc (by simp) _).alloc (by simp; omega) _, ((Bx.made _ _ _).later _).later _, ?_⟩, ?_⟩
    · have := (Bx.made (w.alloc (.cells #[.int .i64 ka, .string SA, al, ap] 28)) #[.int .i64 kb, .string SB, bl, bp] 28).later (.cells #[.int .i64 0] 3)
      simpa using this
    · have := Boxed.new ((w.alloc (.cells #[.int .i64 ka, .string SA, al, ap] 28)).alloc (.cells #[.int .i64 kb, .string SB, bl, bp] 28)) 3 (.int .i64 0)
      simpa using this
  clear hSA hSB hka hkb hta htb hxs hres
  obtain ⟨W0, hW0⟩ : ∃ W0, ((w.alloc (.cells #[.int .i64 ka, .string SA, al, ap] 28)).alloc (.cells #[.int .i64 kb, .string SB, bl, bp] 28)).alloc (.cells #[.int .i64 0] 3) = W0 := ⟨_, rfl⟩
  rw [hW0] at A0
  have A := A0
  clear A0
  obtain ⟨c0, c1, c2, c3, d0, d1, d2, d3, r0, r1⟩ := A.all
  refine (callsIn_wide (n := 5)).1 ?_
  refine callsIn_of_wp_marks Try.func53 rfl trivial ?_ rfl
  simp only [Try.ntmps53, List.size_toArray, List.length_cons, List.length_nil, Nat.reduceAdd, Nat.reduceSub, Array.replicate_succ, Array.replicate_zero, List.push_toArray, List.append_toArray, List.nil_append, List.cons_append]
  by_cases hq : qa = qb
  · have hc0 : cc = 0 := by rw [← hcc, hq]; unfold cmpI; simp
    subst hc0
    subst hq
    clear hcc
    gi_wp2
    refine wpIn_region_any (by assumption) ?_
    change wpAnyIn _ _ _ _ _ _ _ _ _ (World.drew _)
    refine wpAnyIn_ready (rs := [0, 2]) (by kernel_rfl) (by simp) ?_
    refine AllReadyIn.cons rfl (fun K hK => ?_) ?_
    · go_simp
      refine hK _ _ ?_; clear hK K
      refine wpAnyIn_ready (rs := [1, 2]) (by kernel_rfl) (by simp) ?_
      refine AllReadyIn.cons rfl (fun K hK => ?_) ?_
      · go_simp
        gi_wp2_with (refine ⟨trivial, ?_⟩; gi_at_call 61; refine (callsIn_wide.2 (rank_any _ a qa _ (by first | with_reducible exact HA.out.later A.bel | with_reducible exact HA.out.later A.drew.bel) hpa1 Hqa.out)).mono ?_; rintro e w1 ⟨rfl, bb⟩)
        (first | with_reducible (replace A := A.next bb) | with_reducible (replace A := A.drew.next bb))
        clear bb
        replace c0 := A.all
        obtain ⟨c0, c1, c2, c3, d0, d1, d2, d3, r0, r1⟩ := c0
        refine wpAnyIn_ready (rs := [2]) (by kernel_rfl) (by simp) ?_
        refine AllReadyIn.cons rfl (fun K hK => ?_) AllReadyIn.nil
        go_simp
        refine hK _ _ ?_; clear hK K
        refine wpAnyIn_ready (rs := [3]) (by kernel_rfl) (by simp) ?_
        refine AllReadyIn.cons rfl (fun K hK => ?_) AllReadyIn.nil
        go_simp
        gi_wp2_with (refine ⟨trivial, ?_⟩; gi_at_call 61; refine (callsIn_wide.2 (rank_any _ b qa _ (by first | with_reducible exact HB.out.later A.bel | with_reducible exact HB.out.later A.drew.bel) hpb1 Hqb.out)).mono ?_; rintro e w1 ⟨rfl, bb⟩)
        (first | with_reducible (replace A := A.next bb) | with_reducible (replace A := A.drew.next bb))
        clear bb
        replace c0 := A.all
        obtain ⟨c0, c1, c2, c3, d0, d1, d2, d3, r0, r1⟩ := c0
        refine wpAnyIn_ready (rs := [4]) (by kernel_rfl) (by simp) ?_
        refine AllReadyIn.cons rfl (fun K hK => ?_) AllReadyIn.nil
        go_simp
        gi_wp2_with (refine ⟨trivial, ?_⟩; gi_at_call 60; refine (callsIn_wide.2 (cmp_is _ _ _ _ Hcc.out)).mono ?_; rintro e w2 ⟨rfl, rfl⟩)
        refine wpAnyIn_ready (rs := [5]) (by kernel_rfl) (by simp) ?_
        refine AllReadyIn.cons rfl (fun K hK => ?_) AllReadyIn.nil
        go_simp
        refine hK _ _ ?_; clear hK K
        refine wpAnyIn_done (by kernel_rfl) ?_ _
        gi_wp2_with (refine ⟨trivial, ?_⟩; gi_at_call 62; refine (callsIn_wide.2 (abreast_any _ _ _)).mono ?_; rintro e w' ⟨rfl, rfl⟩)
        have hw2 := A.res.lt
        have A3 := (A.next (b_alloc w2 (.cells #[.int .i64 ka, .string SA, al, ap] 28))).next (b_alloc _ (.cells #[.int .i64 kb, .string SB, bl, bp] 28))
        have F3 : Ax w ((w2.alloc (.cells #[.int .i64 ka, .string SA, al, ap] 28)).alloc (.cells #[.int .i64 kb, .string SB, bl, bp] 28)) w2.heap.size (w2.heap.size + 1) #[.int .i64 ka, .string SA, al, ap] #[.int .i64 kb, .string SB, bl, bp] := by
          refine ⟨A3.bel, (Bx.made _ _ _).later _, ?_⟩
          have := Bx.made (w2.alloc (.cells #[.int .i64 ka, .string SA, al, ap] 28)) #[.int .i64 kb, .string SB, bl, bp] 28
          simpa using this
        have hz : ((w2.alloc (.cells #[.int .i64 ka, .string SA, al, ap] 28)).alloc (.cells #[.int .i64 kb, .string SB, bl, bp] 28)).heap.size = w2.heap.size + 2 := by simp
        obtain ⟨W3, hW3⟩ : ∃ W3, (w2.alloc (.cells #[.int .i64 ka, .string SA, al, ap] 28)).alloc (.cells #[.int .i64 kb, .string SB, bl, bp] 28) = W3 := ⟨_, rfl⟩
        rw [hW3] at A3 F3 hz ⊢
        clear A hW3 c0 c1 c2 c3 d0 d1 d2 d3 r0 r1
        refine wpIn_rangeFunc_ownG rfl (by omega) (gf := 77) (lb := #[.pointer (some ⟨w2.heap.size, 0, none⟩), .pointer (some ⟨w2.heap.size + 1, 0, none⟩)]) rfl trivial (enters_of Try.func77 (by kernel_rfl) rfl)
          (abreast1_stops w2.heap.size (w2.heap.size + 1) a b _ _ _ _ _ _ _ _ xs w W3 HA.out HB.out (by omega) (by omega) (by omega) (by omega) F3 Hxs.out) (fun h k => kp2_t h k) (kp2_b (w := W3) (by omega) (by omega) (by omega)) (Below.refl _ _) (fun _ => rfl)
          (fun pre W => (∀ p ∈ listP pre, p.1 = p.2) ∧ Cx w W #[.int .i64 ka, .string SA, al, ap] #[.int .i64 kb, .string SB, bl, bp] (.int .i64 0) ∧ Ax w W w2.heap.size (w2.heap.size + 1) #[.int .i64 ka, .string SA, al, ap] #[.int .i64 kb, .string SB, bl, bp])
          (fun c pre W => ∃ g : List Px × Px, (c = .ret ∧ pre = g.1 ++ [g.2] ∧ (∀ p ∈ listP g.1, p.1 = p.2) ∧ g.2.1.1.data.toList ≠ g.2.2.1.data.toList) ∧ Cx w W #[.int .i64 ka, .string SA, al, ap] #[.int .i64 kb, .string SB, bl, bp] (.int .i64 (cmpB g.2.1.1.data.toList g.2.2.1.data.toList)) ∧ Ax w W w2.heap.size (w2.heap.size + 1) #[.int .i64 ka, .string SA, al, ap] #[.int .i64 kb, .string SB, bl, bp])
          (cx_own (by omega) _ (fun _ => .int .i64 0))
          (fun c => ownFrom_ex (fun g => cx_own (by omega) (fun pre => c = .ret ∧ pre = g.1 ++ [g.2] ∧ (∀ p ∈ listP g.1, p.1 = p.2) ∧ g.2.1.1.data.toList ≠ g.2.2.1.data.toList) (fun _ => .int .i64 (cmpB g.2.1.1.data.toList g.2.2.1.data.toList))))
          ⟨by simp [listP], A3, F3⟩
          (fun x => { tmps := #[.agg #[.int .i64 ka, .string SA, al, ap], .agg #[.int .i64 kb, .string SB, bl, bp], .pointer (some ⟨w.heap.size, 0, none⟩), .pointer (some ⟨w.heap.size + 1, 0, none⟩), .pointer (some ⟨w.heap.size + 1 + 1, 0, none⟩), .int .i64 0, .string x.1.1, .string x.2.1, undef, .agg #[.int .i64 ka, .string SA, al, ap], .int .i64 qa, .agg #[.int .i64 kb, .string SB, bl, bp], .int .i64 qa, .int .i64 0, .int .i64 0, .bool false, undef, .agg #[.int .i64 ka, .string SA, al, ap], .agg #[.int .i64 kb, .string SB, bl, bp], .func (.func 77) #[] #[.pointer (some ⟨w2.heap.size, 0, none⟩), .pointer (some ⟨w2.heap.size + 1, 0, none⟩)], .string x.1.1, .string x.2.1, undef, undef, undef, undef, undef, undef, undef, undef, undef, undef, undef], defers := [] }) ?assign ?body ?done ?stop
        case assign =>
          intro l x W K hK
          dsimp only [encP]
          gi_wp2
          exact hK
        case body =>
          rintro l pre x W ⟨hpre, C, F⟩ _
          have hsn : listP (pre ++ [x]) = listP pre ++ [(x.1.1.data.toList, x.2.1.data.toList)] := by simp [listP]
          by_cases hx : x.1.1.data.toList = x.2.1.data.toList
          · have Hx : Hid (cmpB x.1.1.data.toList x.2.1.data.toList = 0) := hide ((cmpB_zero _ _).2 hx)
            have Hn : Hid (∀ p ∈ listP (pre ++ [x]), p.1 = p.2) := by
              rw [hsn]
              refine hide (fun p hp => ?_)
              rcases List.mem_append.1 hp with h | h
              · exact hpre p h
              · rw [List.mem_singleton] at h
                rw [h]
                exact hx
            clear hx hsn hpre
            gi_wp2_with (refine ⟨trivial, ?_⟩; gi_at_call 63; refine (CallsIn.inRound l (callsIn_wide.2 (cmpS_is _ _ _ _ Hx.out))).mono ?_; rintro e w4 ⟨rfl, rfl⟩)
            exact ⟨KeepsFrom.refl _ _, ⟨Below.refl _ _, fun _ h => h, fun _ h => h⟩, Hn.out, C, F⟩
          · obtain ⟨cv, hcv⟩ : ∃ cv, cmpB x.1.1.data.toList x.2.1.data.toList = cv := ⟨_, rfl⟩
            have h0 : (cv == 0) = false := by
              rw [beq_eq_false_iff_ne, ← hcv]
              exact fun e => hx ((cmpB_zero _ _).1 e)
            have Hx := hide hx
            have Hcv := hide hcv
            have Hpre := hide hpre
            have hfr := C.res.frozen
            have hcl := C.res.cell
            clear hx hcv hsn hpre
            gi_wp2_with (refine ⟨trivial, ?_⟩; gi_at_call 63; refine (CallsIn.inRound l (callsIn_wide.2 (cmpS_is _ _ _ _ Hcv.out))).mono ?_; rintro e w4 ⟨rfl, rfl⟩)
            refine ⟨(KeepsOthers.setCell _ _ _).from _, (pre, x), ⟨rfl, rfl, Hpre.out, Hx.out⟩, ?_, ?_⟩
            · rw [Hcv.out]
              exact C.set _
            · exact ⟨(C.set _).bel, F.fst.other (by omega) 0 _, F.snd.other (by omega) 0 _⟩
        case stop =>
          rintro D c pre W hD hpre ⟨⟨q, x⟩, ⟨rfl, rfl, hq, hx⟩, C, F⟩ hK
          have Hr : Hid (cmpB x.1.1.data.toList x.2.1.data.toList = res) := by
            obtain ⟨r, hr⟩ := hpre
            have e : (textsV a).zip (textsV b) = listP q ++ (x.1.1.data.toList, x.2.1.data.toList) :: listP r := by
              rw [← Hxs.out, ← hr]; simp [listP]
            rw [← Hres.out, compare_first a b (by rw [Hqa.out, Hqb.out]) e hq hx]
            exact hide rfl
          have hcr := C.res.cell
          gi_wp2
          refine ⟨by simp, .inl ⟨_, _, rfl, run_takeDeferred hK, ?_⟩⟩
          have hc5 := cell_kept hcr (grownBy_putObj' _ D (.deferred none)) (fun r e => by cases e; exact ⟨_, hK, rfl⟩)
          refine ⟨.int .i64 (cmpB x.1.1.data.toList x.2.1.data.toList), ?_, by rw [Hr.out], C.bel.trans (belowK_b (w := w) (Nat.le_refl _) W D _ _ (by omega) hK rfl rfl)⟩
          simp [results, Try.results53, go_sem, hc5]
        case done =>
          rintro D ys W hD rfl ⟨hall, C, F⟩ hQ
          have Hr : Hid (cmpI (countV a) (countV b) = res) := by
            rw [← Hres.out, compare_all a b (by rw [Hqa.out, Hqb.out]) (by rw [← Hxs.out]; exact hall)]
            exact hide rfl
          clear hall
          have A := C
          clear C
          obtain ⟨c0, c1, c2, c3, d0, d1, d2, d3, r0, r1⟩ := A.all
          gi_wp2
          refine wpIn_region_any (by assumption) ?_
          change wpAnyIn _ _ _ _ _ _ _ _ _ (World.drew _)
          refine wpAnyIn_ready (rs := [0, 2]) (by kernel_rfl) (by simp) ?_
          refine AllReadyIn.cons rfl (fun K hK => ?_) ?_
          · go_simp
            refine hK _ _ ?_; clear hK K
            refine wpAnyIn_ready (rs := [1, 2]) (by kernel_rfl) (by simp) ?_
            refine AllReadyIn.cons rfl (fun K hK => ?_) ?_
            · go_simp
              gi_wp2_with (refine ⟨trivial, ?_⟩; gi_at_call 39; refine (callsIn_wide.2 (count_any _ a _ (by first | with_reducible exact HA.out.later A.bel | with_reducible exact HA.out.later A.drew.bel) hpa1)).mono ?_; rintro e w1 ⟨rfl, bb⟩)
              (first | with_reducible (replace A := A.next bb) | with_reducible (replace A := A.drew.next bb))
              replace hQ := (bb.block D (Array.getElem?_eq_some_iff.1 hQ).1).trans hQ
              clear bb
              replace c0 := A.all
              obtain ⟨c0, c1, c2, c3, d0, d1, d2, d3, r0, r1⟩ := c0
              refine wpAnyIn_ready (rs := [2]) (by kernel_rfl) (by simp) ?_
              refine AllReadyIn.cons rfl (fun K hK => ?_) AllReadyIn.nil
              go_simp
              refine hK _ _ ?_; clear hK K
              refine wpAnyIn_ready (rs := [3]) (by kernel_rfl) (by simp) ?_
              refine AllReadyIn.cons rfl (fun K hK => ?_) AllReadyIn.nil
              go_simp
              gi_wp2_with (refine ⟨trivial, ?_⟩; gi_at_call 39; refine (callsIn_wide.2 (count_any _ b _ (by first | with_reducible exact HB.out.later A.bel | with_reducible exact HB.out.later A.drew.bel) hpb1)).mono ?_; rintro e w1 ⟨rfl, bb⟩)
              (first | with_reducible (replace A := A.next bb) | with_reducible (replace A := A.drew.next bb))
              replace hQ := (bb.block D (Array.getElem?_eq_some_iff.1 hQ).1).trans hQ
              clear bb
              replace c0 := A.all
              obtain ⟨c0, c1, c2, c3, d0, d1, d2, d3, r0, r1⟩ := c0
              refine wpAnyIn_ready (rs := [4]) (by kernel_rfl) (by simp) ?_
              refine AllReadyIn.cons rfl (fun K hK => ?_) AllReadyIn.nil
              go_simp
              gi_wp2_with (refine ⟨trivial, ?_⟩; gi_at_call 60; refine (callsIn_wide.2 (cmp_is _ _ _ _ Hr.out)).mono ?_; rintro e w2 ⟨rfl, rfl⟩)
              refine wpAnyIn_ready (rs := [5]) (by kernel_rfl) (by simp) ?_
              refine AllReadyIn.cons rfl (fun K hK => ?_) AllReadyIn.nil
              go_simp
              refine hK _ _ ?_; clear hK K
              refine wpAnyIn_done (by kernel_rfl) ?_ _
              gi_wp2
              have hK' := (KeepsOthers.setCell _ ⟨w.heap.size + 1 + 1, 0, none⟩ (.int .i64 res)).same D _ hQ rfl
              refine ⟨by simp, .inl ⟨_, _, rfl, run_takeDeferred hK', ?_⟩⟩
              have A5 := A.set (.int .i64 res)
              have hc5 := cell_kept A5.res.cell (grownBy_putObj' _ D (.deferred none)) (fun r e => by cases e; exact ⟨_, hK', rfl⟩)
              refine ⟨.int .i64 res, ?_, rfl, A5.bel.trans (belowK_b (w := w) (Nat.le_refl _) _ D _ _ (by omega) hK' rfl rfl)⟩
              simp [results, Try.results53, go_sem, hc5]
            refine AllReadyIn.cons rfl (fun K hK => ?_) AllReadyIn.nil
            go_simp
            refine hK _ _ ?_; clear hK K
            refine wpAnyIn_ready (rs := [1]) (by kernel_rfl) (by simp) ?_
            refine AllReadyIn.cons rfl (fun K hK => ?_) AllReadyIn.nil
            go_simp
            gi_wp2_with (refine ⟨trivial, ?_⟩; gi_at_call 39; refine (callsIn_wide.2 (count_any _ a _ (by first | with_reducible exact HA.out.later A.bel | with_reducible exact HA.out.later A.drew.bel) hpa1)).mono ?_; rintro e w1 ⟨rfl, bb⟩)
            (first | with_reducible (replace A := A.next bb) | with_reducible (replace A := A.drew.next bb))
            replace hQ := (bb.block D (Array.getElem?_eq_some_iff.1 hQ).1).trans hQ
            clear bb
            replace c0 := A.all
            obtain ⟨c0, c1, c2, c3, d0, d1, d2, d3, r0, r1⟩ := c0
            refine wpAnyIn_ready (rs := [3]) (by kernel_rfl) (by simp) ?_
            refine AllReadyIn.cons rfl (fun K hK => ?_) AllReadyIn.nil
            go_simp
            gi_wp2_with (refine ⟨trivial, ?_⟩; gi_at_call 39; refine (callsIn_wide.2 (count_any _ b _ (by first | with_reducible exact HB.out.later A.bel | with_reducible exact HB.out.later A.drew.bel) hpb1)).mono ?_; rintro e w1 ⟨rfl, bb⟩)
            (first | with_reducible (replace A := A.next bb) | with_reducible (replace A := A.drew.next bb))
            replace hQ := (bb.block D (Array.getElem?_eq_some_iff.1 hQ).1).trans hQ
            clear bb
            replace c0 := A.all
            obtain ⟨c0, c1, c2, c3, d0, d1, d2, d3, r0, r1⟩ := c0
            refine wpAnyIn_ready (rs := [4]) (by kernel_rfl) (by simp) ?_
            refine AllReadyIn.cons rfl (fun K hK => ?_) AllReadyIn.nil
            go_simp
            gi_wp2_with (refine ⟨trivial, ?_⟩; gi_at_call 60; refine (callsIn_wide.2 (cmp_is _ _ _ _ Hr.out)).mono ?_; rintro e w2 ⟨rfl, rfl⟩)
            refine wpAnyIn_ready (rs := [5]) (by kernel_rfl) (by simp) ?_
            refine AllReadyIn.cons rfl (fun K hK => ?_) AllReadyIn.nil
            go_simp
            refine hK _ _ ?_; clear hK K
            refine wpAnyIn_done (by kernel_rfl) ?_ _
            gi_wp2
            have hK' := (KeepsOthers.setCell _ ⟨w.heap.size + 1 + 1, 0, none⟩ (.int .i64 res)).same D _ hQ rfl
            refine ⟨by simp, .inl ⟨_, _, rfl, run_takeDeferred hK', ?_⟩⟩
            have A5 := A.set (.int .i64 res)
            have hc5 := cell_kept A5.res.cell (grownBy_putObj' _ D (.deferred none)) (fun r e => by cases e; exact ⟨_, hK', rfl⟩)
            refine ⟨.int .i64 res, ?_, rfl, A5.bel.trans (belowK_b (w := w) (Nat.le_refl _) _ D _ _ (by omega) hK' rfl rfl)⟩
            simp [results, Try.results53, go_sem, hc5]
          refine AllReadyIn.cons rfl (fun K hK => ?_) AllReadyIn.nil
          go_simp
          refine hK _ _ ?_; clear hK K
          refine wpAnyIn_ready (rs := [0]) (by kernel_rfl) (by simp) ?_
          refine AllReadyIn.cons rfl (fun K hK => ?_) AllReadyIn.nil
          go_simp
          refine hK _ _ ?_; clear hK K
          refine wpAnyIn_ready (rs := [1]) (by kernel_rfl) (by simp) ?_
          refine AllReadyIn.cons rfl (fun K hK => ?_) AllReadyIn.nil
          go_simp
          gi_wp2_with (refine ⟨trivial, ?_⟩; gi_at_call 39; refine (callsIn_wide.2 (count_any _ a _ (by first | with_reducible exact HA.out.later A.bel | with_reducible exact HA.out.later A.drew.bel) hpa1)).mono ?_; rintro e w1 ⟨rfl, bb⟩)
          (first | with_reducible (replace A := A.next bb) | with_reducible (replace A := A.drew.next bb))
          replace hQ := (bb.block D (Array.getElem?_eq_some_iff.1 hQ).1).trans hQ
          clear bb
          replace c0 := A.all
          obtain ⟨c0, c1, c2, c3, d0, d1, d2, d3, r0, r1⟩ := c0
          refine wpAnyIn_ready (rs := [3]) (by kernel_rfl) (by simp) ?_
          refine AllReadyIn.cons rfl (fun K hK => ?_) AllReadyIn.nil
          go_simp
          gi_wp2_with (refine ⟨trivial, ?_⟩; gi_at_call 39; refine (callsIn_wide.2 (count_any _ b _ (by first | with_reducible exact HB.out.later A.bel | with_reducible exact HB.out.later A.drew.bel) hpb1)).mono ?_; rintro e w1 ⟨rfl, bb⟩)
          (first | with_reducible (replace A := A.next bb) | with_reducible (replace A := A.drew.next bb))
          replace hQ := (bb.block D (Array.getElem?_eq_some_iff.1 hQ).1).trans hQ
          clear bb
          replace c0 := A.all
          obtain ⟨c0, c1, c2, c3, d0, d1, d2, d3, r0, r1⟩ := c0
          refine wpAnyIn_ready (rs := [4]) (by kernel_rfl) (by simp) ?_
          refine AllReadyIn.cons rfl (fun K hK => ?_) AllReadyIn.nil
          go_simp
          gi_wp2_with (refine ⟨trivial, ?_⟩; gi_at_call 60; refine (callsIn_wide.2 (cmp_is _ _ _ _ Hr.out)).mono ?_; rintro e w2 ⟨rfl, rfl⟩)
          refine wpAnyIn_ready (rs := [5]) (by kernel_rfl) (by simp) ?_
          refine AllReadyIn.cons rfl (fun K hK => ?_) AllReadyIn.nil
          go_simp
          refine hK _ _ ?_; clear hK K
          refine wpAnyIn_done (by kernel_rfl) ?_ _
          gi_wp2
          have hK' := (KeepsOthers.setCell _ ⟨w.heap.size + 1 + 1, 0, none⟩ (.int .i64 res)).same D _ hQ rfl
          refine ⟨by simp, .inl ⟨_, _, rfl, run_takeDeferred hK', ?_⟩⟩
          have A5 := A.set (.int .i64 res)
          have hc5 := cell_kept A5.res.cell (grownBy_putObj' _ D (.deferred none)) (fun r e => by cases e; exact ⟨_, hK', rfl⟩)
          refine ⟨.int .i64 res, ?_, rfl, A5.bel.trans (belowK_b (w := w) (Nat.le_refl _) _ D _ _ (by omega) hK' rfl rfl)⟩
          simp [results, Try.results53, go_sem, hc5]
      refine AllReadyIn.cons rfl (fun K hK => ?_) AllReadyIn.nil
      go_simp
      refine hK _ _ ?_; clear hK K
      refine wpAnyIn_ready (rs := [1]) (by kernel_rfl) (by simp) ?_
      refine AllReadyIn.cons rfl (fun K hK => ?_) AllReadyIn.nil
      go_simp
      gi_wp2_with (refine ⟨trivial, ?_⟩; gi_at_call 61; refine (callsIn_wide.2 (rank_any _ a qa _ (by first | with_reducible exact HA.out.later A.bel | with_reducible exact HA.out.later A.drew.bel) hpa1 Hqa.out)).mono ?_; rintro e w1 ⟨rfl, bb⟩)
      (first | with_reducible (replace A := A.next bb) | with_reducible (replace A := A.drew.next bb))
      clear bb
      replace c0 := A.all
      obtain ⟨c0, c1, c2, c3, d0, d1, d2, d3, r0, r1⟩ := c0
      refine wpAnyIn_ready (rs := [3]) (by kernel_rfl) (by simp) ?_
      refine AllReadyIn.cons rfl (fun K hK => ?_) AllReadyIn.nil
      go_simp
      gi_wp2_with (refine ⟨trivial, ?_⟩; gi_at_call 61; refine (callsIn_wide.2 (rank_any _ b qa _ (by first | with_reducible exact HB.out.later A.bel | with_reducible exact HB.out.later A.drew.bel) hpb1 Hqb.out)).mono ?_; rintro e w1 ⟨rfl, bb⟩)
      (first | with_reducible (replace A := A.next bb) | with_reducible (replace A := A.drew.next bb))
      clear bb
      replace c0 := A.all
      obtain ⟨c0, c1, c2, c3, d0, d1, d2, d3, r0, r1⟩ := c0
      refine wpAnyIn_ready (rs := [4]) (by kernel_rfl) (by simp) ?_
      refine AllReadyIn.cons rfl (fun K hK => ?_) AllReadyIn.nil
      go_simp
      gi_wp2_with (refine ⟨trivial, ?_⟩; gi_at_call 60; refine (callsIn_wide.2 (cmp_is _ _ _ _ Hcc.out)).mono ?_; rintro e w2 ⟨rfl, rfl⟩)
      refine wpAnyIn_ready (rs := [5]) (by kernel_rfl) (by simp) ?_
      refine AllReadyIn.cons rfl (fun K hK => ?_) AllReadyIn.nil
      go_simp
      refine hK _ _ ?_; clear hK K
      refine wpAnyIn_done (by kernel_rfl) ?_ _
      gi_wp2_with (refine ⟨trivial, ?_⟩; gi_at_call 62; refine (callsIn_wide.2 (abreast_any _ _ _)).mono ?_; rintro e w' ⟨rfl, rfl⟩)
      have hw2 := A.res.lt
      have A3 := (A.next (b_alloc w2 (.cells #[.int .i64 ka, .string SA, al, ap] 28))).next (b_alloc _ (.cells #[.int .i64 kb, .string SB, bl, bp] 28))
      have F3 : Ax w ((w2.alloc (.cells #[.int .i64 ka, .string SA, al, ap] 28)).alloc (.cells #[.int .i64 kb, .string SB, bl, bp] 28)) w2.heap.size (w2.heap.size + 1) #[.int .i64 ka, .string SA, al, ap] #[.int .i64 kb, .string SB, bl, bp] := by
        refine ⟨A3.bel, (Bx.made _ _ _).later _, ?_⟩
        have := Bx.made (w2.alloc (.cells #[.int .i64 ka, .string SA, al, ap] 28)) #[.int .i64 kb, .string SB, bl, bp] 28
        simpa using this
      have hz : ((w2.alloc (.cells #[.int .i64 ka, .string SA, al, ap] 28)).alloc (.cells #[.int .i64 kb, .string SB, bl, bp] 28)).heap.size = w2.heap.size + 2 := by simp
      obtain ⟨W3, hW3⟩ : ∃ W3, (w2.alloc (.cells #[.int .i64 ka, .string SA, al, ap] 28)).alloc (.cells #[.int .i64 kb, .string SB, bl, bp] 28) = W3 := ⟨_, rfl⟩
      rw [hW3] at A3 F3 hz ⊢
      clear A hW3 c0 c1 c2 c3 d0 d1 d2 d3 r0 r1
      refine wpIn_rangeFunc_ownG rfl (by omega) (gf := 77) (lb := #[.pointer (some ⟨w2.heap.size, 0, none⟩), .pointer (some ⟨w2.heap.size + 1, 0, none⟩)]) rfl trivial (enters_of Try.func77 (by kernel_rfl) rfl)
        (abreast1_stops w2.heap.size (w2.heap.size + 1) a b _ _ _ _ _ _ _ _ xs w W3 HA.out HB.out (by omega) (by omega) (by omega) (by omega) F3 Hxs.out) (fun h k => kp2_t h k) (kp2_b (w := W3) (by omega) (by omega) (by omega)) (Below.refl _ _) (fun _ => rfl)
        (fun pre W => (∀ p ∈ listP pre, p.1 = p.2) ∧ Cx w W #[.int .i64 ka, .string SA, al, ap] #[.int .i64 kb, .string SB, bl, bp] (.int .i64 0) ∧ Ax w W w2.heap.size (w2.heap.size + 1) #[.int .i64 ka, .string SA, al, ap] #[.int .i64 kb, .string SB, bl, bp])
        (fun c pre W => ∃ g : List Px × Px, (c = .ret ∧ pre = g.1 ++ [g.2] ∧ (∀ p ∈ listP g.1, p.1 = p.2) ∧ g.2.1.1.data.toList ≠ g.2.2.1.data.toList) ∧ Cx w W #[.int .i64 ka, .string SA, al, ap] #[.int .i64 kb, .string SB, bl, bp] (.int .i64 (cmpB g.2.1.1.data.toList g.2.2.1.data.toList)) ∧ Ax w W w2.heap.size (w2.heap.size + 1) #[.int .i64 ka, .string SA, al, ap] #[.int .i64 kb, .string SB, bl, bp])
        (cx_own (by omega) _ (fun _ => .int .i64 0))
        (fun c => ownFrom_ex (fun g => cx_own (by omega) (fun pre => c = .ret ∧ pre = g.1 ++ [g.2] ∧ (∀ p ∈ listP g.1, p.1 = p.2) ∧ g.2.1.1.data.toList ≠ g.2.2.1.data.toList) (fun _ => .int .i64 (cmpB g.2.1.1.data.toList g.2.2.1.data.toList))))
        ⟨by simp [listP], A3, F3⟩
        (fun x => { tmps := #[.agg #[.int .i64 ka, .string SA, al, ap], .agg #[.int .i64 kb, .string SB, bl, bp], .pointer (some ⟨w.heap.size, 0, none⟩), .pointer (some ⟨w.heap.size + 1, 0, none⟩), .pointer (some ⟨w.heap.size + 1 + 1, 0, none⟩), .int .i64 0, .string x.1.1, .string x.2.1, undef, .agg #[.int .i64 ka, .string SA, al, ap], .int .i64 qa, .agg #[.int .i64 kb, .string SB, bl, bp], .int .i64 qa, .int .i64 0, .int .i64 0, .bool false, undef, .agg #[.int .i64 ka, .string SA, al, ap], .agg #[.int .i64 kb, .string SB, bl, bp], .func (.func 77) #[] #[.pointer (some ⟨w2.heap.size, 0, none⟩), .pointer (some ⟨w2.heap.size + 1, 0, none⟩)], .string x.1.1, .string x.2.1, undef, undef, undef, undef, undef, undef, undef, undef, undef, undef, undef], defers := [] }) ?assign ?body ?done ?stop
      case assign =>
        intro l x W K hK
        dsimp only [encP]
        gi_wp2
        exact hK
      case body =>
        rintro l pre x W ⟨hpre, C, F⟩ _
        have hsn : listP (pre ++ [x]) = listP pre ++ [(x.1.1.data.toList, x.2.1.data.toList)] := by simp [listP]
        by_cases hx : x.1.1.data.toList = x.2.1.data.toList
        · have Hx : Hid (cmpB x.1.1.data.toList x.2.1.data.toList = 0) := hide ((cmpB_zero _ _).2 hx)
          have Hn : Hid (∀ p ∈ listP (pre ++ [x]), p.1 = p.2) := by
            rw [hsn]
            refine hide (fun p hp => ?_)
            rcases List.mem_append.1 hp with h | h
            · exact hpre p h
            · rw [List.mem_singleton] at h
              rw [h]
              exact hx
          clear hx hsn hpre
          gi_wp2_with (refine ⟨trivial, ?_⟩; gi_at_call 63; refine (CallsIn.inRound l (callsIn_wide.2 (cmpS_is _ _ _ _ Hx.out))).mono ?_; rintro e w4 ⟨rfl, rfl⟩)
          exact ⟨KeepsFrom.refl _ _, ⟨Below.refl _ _, fun _ h => h, fun _ h => h⟩, Hn.out, C, F⟩
        · obtain ⟨cv, hcv⟩ : ∃ cv, cmpB x.1.1.data.toList x.2.1.data.toList = cv := ⟨_, rfl⟩
          have h0 : (cv == 0) = false := by
            rw [beq_eq_false_iff_ne, ← hcv]
            exact fun e => hx ((cmpB_zero _ _).1 e)
          have Hx := hide hx
          have Hcv := hide hcv
          have Hpre := hide hpre
          have hfr := C.res.frozen
          have hcl := C.res.cell
          clear hx hcv hsn hpre
          gi_wp2_with (refine ⟨trivial, ?_⟩; gi_at_call 63; refine (CallsIn.inRound l (callsIn_wide.2 (cmpS_is _ _ _ _ Hcv.out))).mono ?_; rintro e w4 ⟨rfl, rfl⟩)
          refine ⟨(KeepsOthers.setCell _ _ _).from _, (pre, x), ⟨rfl, rfl, Hpre.out, Hx.out⟩, ?_, ?_⟩
          · rw [Hcv.out]
            exact C.set _
          · exact ⟨(C.set _).bel, F.fst.other (by omega) 0 _, F.snd.other (by omega) 0 _⟩
      case stop =>
        rintro D c pre W hD hpre ⟨⟨q, x⟩, ⟨rfl, rfl, hq, hx⟩, C, F⟩ hK
        have Hr : Hid (cmpB x.1.1.data.toList x.2.1.data.toList = res) := by
          obtain ⟨r, hr⟩ := hpre
          have e : (textsV a).zip (textsV b) = listP q ++ (x.1.1.data.toList, x.2.1.data.toList) :: listP r := by
            rw [← Hxs.out, ← hr]; simp [listP]
          rw [← Hres.out, compare_first a b (by rw [Hqa.out, Hqb.out]) e hq hx]
          exact hide rfl
        have hcr := C.res.cell
        gi_wp2
        refine ⟨by simp, .inl ⟨_, _, rfl, run_takeDeferred hK, ?_⟩⟩
        have hc5 := cell_kept hcr (grownBy_putObj' _ D (.deferred none)) (fun r e => by cases e; exact ⟨_, hK, rfl⟩)
        refine ⟨.int .i64 (cmpB x.1.1.data.toList x.2.1.data.toList), ?_, by rw [Hr.out], C.bel.trans (belowK_b (w := w) (Nat.le_refl _) W D _ _ (by omega) hK rfl rfl)⟩
        simp [results, Try.results53, go_sem, hc5]
      case done =>
        rintro D ys W hD rfl ⟨hall, C, F⟩ hQ
        have Hr : Hid (cmpI (countV a) (countV b) = res) := by
          rw [← Hres.out, compare_all a b (by rw [Hqa.out, Hqb.out]) (by rw [← Hxs.out]; exact hall)]
          exact hide rfl
        clear hall
        have A := C
        clear C
        obtain ⟨c0, c1, c2, c3, d0, d1, d2, d3, r0, r1⟩ := A.all
        gi_wp2
        refine wpIn_region_any (by assumption) ?_
        change wpAnyIn _ _ _ _ _ _ _ _ _ (World.drew _)
        refine wpAnyIn_ready (rs := [0, 2]) (by kernel_rfl) (by simp) ?_
        refine AllReadyIn.cons rfl (fun K hK => ?_) ?_
        · go_simp
          refine hK _ _ ?_; clear hK K
          refine wpAnyIn_ready (rs := [1, 2]) (by kernel_rfl) (by simp) ?_
          refine AllReadyIn.cons rfl (fun K hK => ?_) ?_
          · go_simp
            gi_wp2_with (refine ⟨trivial, ?_⟩; gi_at_call 39; refine (callsIn_wide.2 (count_any _ a _ (by first | with_reducible exact HA.out.later A.bel | with_reducible exact HA.out.later A.drew.bel) hpa1)).mono ?_; rintro e w1 ⟨rfl, bb⟩)
            (first | with_reducible (replace A := A.next bb) | with_reducible (replace A := A.drew.next bb))
            replace hQ := (bb.block D (Array.getElem?_eq_some_iff.1 hQ).1).trans hQ
            clear bb
            replace c0 := A.all
            obtain ⟨c0, c1, c2, c3, d0, d1, d2, d3, r0, r1⟩ := c0
            refine wpAnyIn_ready (rs := [2]) (by kernel_rfl) (by simp) ?_
            refine AllReadyIn.cons rfl (fun K hK => ?_) AllReadyIn.nil
            go_simp
            refine hK _ _ ?_; clear hK K
            refine wpAnyIn_ready (rs := [3]) (by kernel_rfl) (by simp) ?_
            refine AllReadyIn.cons rfl (fun K hK => ?_) AllReadyIn.nil
            go_simp
            gi_wp2_with (refine ⟨trivial, ?_⟩; gi_at_call 39; refine (callsIn_wide.2 (count_any _ b _ (by first | with_reducible exact HB.out.later A.bel | with_reducible exact HB.out.later A.drew.bel) hpb1)).mono ?_; rintro e w1 ⟨rfl, bb⟩)
            (first | with_reducible (replace A := A.next bb) | with_reducible (replace A := A.drew.next bb))
            replace hQ := (bb.block D (Array.getElem?_eq_some_iff.1 hQ).1).trans hQ
            clear bb
            replace c0 := A.all
            obtain ⟨c0, c1, c2, c3, d0, d1, d2, d3, r0, r1⟩ := c0
            refine wpAnyIn_ready (rs := [4]) (by kernel_rfl) (by simp) ?_
            refine AllReadyIn.cons rfl (fun K hK => ?_) AllReadyIn.nil
            go_simp
            gi_wp2_with (refine ⟨trivial, ?_⟩; gi_at_call 60; refine (callsIn_wide.2 (cmp_is _ _ _ _ Hr.out)).mono ?_; rintro e w2 ⟨rfl, rfl⟩)
            refine wpAnyIn_ready (rs := [5]) (by kernel_rfl) (by simp) ?_
            refine AllReadyIn.cons rfl (fun K hK => ?_) AllReadyIn.nil
            go_simp
            refine hK _ _ ?_; clear hK K
            refine wpAnyIn_done (by kernel_rfl) ?_ _
            gi_wp2
            have hK' := (KeepsOthers.setCell _ ⟨w.heap.size + 1 + 1, 0, none⟩ (.int .i64 res)).same D _ hQ rfl
            refine ⟨by simp, .inl ⟨_, _, rfl, run_takeDeferred hK', ?_⟩⟩
            have A5 := A.set (.int .i64 res)
            have hc5 := cell_kept A5.res.cell (grownBy_putObj' _ D (.deferred none)) (fun r e => by cases e; exact ⟨_, hK', rfl⟩)
            refine ⟨.int .i64 res, ?_, rfl, A5.bel.trans (belowK_b (w := w) (Nat.le_refl _) _ D _ _ (by omega) hK' rfl rfl)⟩
            simp [results, Try.results53, go_sem, hc5]
          refine AllReadyIn.cons rfl (fun K hK => ?_) AllReadyIn.nil
          go_simp
          refine hK _ _ ?_; clear hK K
          refine wpAnyIn_ready (rs := [1]) (by kernel_rfl) (by simp) ?_
          refine AllReadyIn.cons rfl (fun K hK => ?_) AllReadyIn.nil
          go_simp
          gi_wp2_with (refine ⟨trivial, ?_⟩; gi_at_call 39; refine (callsIn_wide.2 (count_any _ a _ (by first | with_reducible exact HA.out.later A.bel | with_reducible exact HA.out.later A.drew.bel) hpa1)).mono ?_; rintro e w1 ⟨rfl, bb⟩)
          (first | with_reducible (replace A := A.next bb) | with_reducible (replace A := A.drew.next bb))
          replace hQ := (bb.block D (Array.getElem?_eq_some_iff.1 hQ).1).trans hQ
          clear bb
          replace c0 := A.all
          obtain ⟨c0, c1, c2, c3, d0, d1, d2, d3, r0, r1⟩ := c0
          refine wpAnyIn_ready (rs := [3]) (by kernel_rfl) (by simp) ?_
          refine AllReadyIn.cons rfl (fun K hK => ?_) AllReadyIn.nil
          go_simp
          gi_wp2_with (refine ⟨trivial, ?_⟩; gi_at_call 39; refine (callsIn_wide.2 (count_any _ b _ (by first | with_reducible exact HB.out.later A.bel | with_reducible exact HB.out.later A.drew.bel) hpb1)).mono ?_; rintro e w1 ⟨rfl, bb⟩)
          (first | with_reducible (replace A := A.next bb) | with_reducible (replace A := A.drew.next bb))
          replace hQ := (bb.block D (Array.getElem?_eq_some_iff.1 hQ).1).trans hQ
          clear bb
          replace c0 := A.all
          obtain ⟨c0, c1, c2, c3, d0, d1, d2, d3, r0, r1⟩ := c0
          refine wpAnyIn_ready (rs := [4]) (by kernel_rfl) (by simp) ?_
          refine AllReadyIn.cons rfl (fun K hK => ?_) AllReadyIn.nil
          go_simp
          gi_wp2_with (refine ⟨trivial, ?_⟩; gi_at_call 60; refine (callsIn_wide.2 (cmp_is _ _ _ _ Hr.out)).mono ?_; rintro e w2 ⟨rfl, rfl⟩)
          refine wpAnyIn_ready (rs := [5]) (by kernel_rfl) (by simp) ?_
          refine AllReadyIn.cons rfl (fun K hK => ?_) AllReadyIn.nil
          go_simp
          refine hK _ _ ?_; clear hK K
          refine wpAnyIn_done (by kernel_rfl) ?_ _
          gi_wp2
          have hK' := (KeepsOthers.setCell _ ⟨w.heap.size + 1 + 1, 0, none⟩ (.int .i64 res)).same D _ hQ rfl
          refine ⟨by simp, .inl ⟨_, _, rfl, run_takeDeferred hK', ?_⟩⟩
          have A5 := A.set (.int .i64 res)
          have hc5 := cell_kept A5.res.cell (grownBy_putObj' _ D (.deferred none)) (fun r e => by cases e; exact ⟨_, hK', rfl⟩)
          refine ⟨.int .i64 res, ?_, rfl, A5.bel.trans (belowK_b (w := w) (Nat.le_refl _) _ D _ _ (by omega) hK' rfl rfl)⟩
          simp [results, Try.results53, go_sem, hc5]
        refine AllReadyIn.cons rfl (fun K hK => ?_) AllReadyIn.nil
        go_simp
        refine hK _ _ ?_; clear hK K
        refine wpAnyIn_ready (rs := [0]) (by kernel_rfl) (by simp) ?_
        refine AllReadyIn.cons rfl (fun K hK => ?_) AllReadyIn.nil
        go_simp
        refine hK _ _ ?_; clear hK K
        refine wpAnyIn_ready (rs := [1]) (by kernel_rfl) (by simp) ?_
        refine AllReadyIn.cons rfl (fun K hK => ?_) AllReadyIn.nil
        go_simp
        gi_wp2_with (refine ⟨trivial, ?_⟩; gi_at_call 39; refine (callsIn_wide.2 (count_any _ a _ (by first | with_reducible exact HA.out.later A.bel | with_reducible exact HA.out.later A.drew.bel) hpa1)).mono ?_; rintro e w1 ⟨rfl, bb⟩)
        (first | with_reducible (replace A := A.next bb) | with_reducible (replace A := A.drew.next bb))
        replace hQ := (bb.block D (Array.getElem?_eq_some_iff.1 hQ).1).trans hQ
        clear bb
        replace c0 := A.all
        obtain ⟨c0, c1, c2, c3, d0, d1, d2, d3, r0, r1⟩ := c0
        refine wpAnyIn_ready (rs := [3]) (by kernel_rfl) (by simp) ?_
        refine AllReadyIn.cons rfl (fun K hK => ?_) AllReadyIn.nil
        go_simp
        gi_wp2_with (refine ⟨trivial, ?_⟩; gi_at_call 39; refine (callsIn_wide.2 (count_any _ b _ (by first | with_reducible exact HB.out.later A.bel | with_reducible exact HB.out.later A.drew.bel) hpb1)).mono ?_; rintro e w1 ⟨rfl, bb⟩)
        (first | with_reducible (replace A := A.next bb) | with_reducible (replace A := A.drew.next bb))
        replace hQ := (bb.block D (Array.getElem?_eq_some_iff.1 hQ).1).trans hQ
        clear bb
        replace c0 := A.all
        obtain ⟨c0, c1, c2, c3, d0, d1, d2, d3, r0, r1⟩ := c0
        refine wpAnyIn_ready (rs := [4]) (by kernel_rfl) (by simp) ?_
        refine AllReadyIn.cons rfl (fun K hK => ?_) AllReadyIn.nil
        go_simp
        gi_wp2_with (refine ⟨trivial, ?_⟩; gi_at_call 60; refine (callsIn_wide.2 (cmp_is _ _ _ _ Hr.out)).mono ?_; rintro e w2 ⟨rfl, rfl⟩)
        refine wpAnyIn_ready (rs := [5]) (by kernel_rfl) (by simp) ?_
        refine AllReadyIn.cons rfl (fun K hK => ?_) AllReadyIn.nil
        go_simp
        refine hK _ _ ?_; clear hK K
        refine wpAnyIn_done (by kernel_rfl) ?_ _
        gi_wp2
        have hK' := (KeepsOthers.setCell _ ⟨w.heap.size + 1 + 1, 0, none⟩ (.int .i64 res)).same D _ hQ rfl
        refine ⟨by simp, .inl ⟨_, _, rfl, run_takeDeferred hK', ?_⟩⟩
        have A5 := A.set (.int .i64 res)
        have hc5 := cell_kept A5.res.cell (grownBy_putObj' _ D (.deferred none)) (fun r e => by cases e; exact ⟨_, hK', rfl⟩)
        refine ⟨.int .i64 res, ?_, rfl, A5.bel.trans (belowK_b (w := w) (Nat.le_refl _) _ D _ _ (by omega) hK' rfl rfl)⟩
        simp [results, Try.results53, go_sem, hc5]
    refine AllReadyIn.cons rfl (fun K hK => ?_) AllReadyIn.nil
    go_simp
    refine hK _ _ ?_; clear hK K
    refine wpAnyIn_ready (rs := [0]) (by kernel_rfl) (by simp) ?_
    refine AllReadyIn.cons rfl (fun K hK => ?_) AllReadyIn.nil
    go_simp
    refine hK _ _ ?_; clear hK K
    refine wpAnyIn_ready (rs := [1]) (by kernel_rfl) (by simp) ?_
    refine AllReadyIn.cons rfl (fun K hK => ?_) AllReadyIn.nil
    go_simp
    gi_wp2_with (refine ⟨trivial, ?_⟩; gi_at_call 61; refine (callsIn_wide.2 (rank_any _ a qa _ (by first | with_reducible exact HA.out.later A.bel | with_reducible exact HA.out.later A.drew.bel) hpa1 Hqa.out)).mono ?_; rintro e w1 ⟨rfl, bb⟩)
    (first | with_reducible (replace A := A.next bb) | with_reducible (replace A := A.drew.next bb))
    clear bb
    replace c0 := A.all
    obtain ⟨c0, c1, c2, c3, d0, d1, d2, d3, r0, r1⟩ := c0
    refine wpAnyIn_ready (rs := [3]) (by kernel_rfl) (by simp) ?_
    refine AllReadyIn.cons rfl (fun K hK => ?_) AllReadyIn.nil
    go_simp
    gi_wp2_with (refine ⟨trivial, ?_⟩; gi_at_call 61; refine (callsIn_wide.2 (rank_any _ b qa _ (by first | with_reducible exact HB.out.later A.bel | with_reducible exact HB.out.later A.drew.bel) hpb1 Hqb.out)).mono ?_; rintro e w1 ⟨rfl, bb⟩)
    (first | with_reducible (replace A := A.next bb) | with_reducible (replace A := A.drew.next bb))
    clear bb
    replace c0 := A.all
    obtain ⟨c0, c1, c2, c3, d0, d1, d2, d3, r0, r1⟩ := c0
    refine wpAnyIn_ready (rs := [4]) (by kernel_rfl) (by simp) ?_
    refine AllReadyIn.cons rfl (fun K hK => ?_) AllReadyIn.nil
    go_simp
    gi_wp2_with (refine ⟨trivial, ?_⟩; gi_at_call 60; refine (callsIn_wide.2 (cmp_is _ _ _ _ Hcc.out)).mono ?_; rintro e w2 ⟨rfl, rfl⟩)
    refine wpAnyIn_ready (rs := [5]) (by kernel_rfl) (by simp) ?_
    refine AllReadyIn.cons rfl (fun K hK => ?_) AllReadyIn.nil
    go_simp
    refine hK _ _ ?_; clear hK K
    refine wpAnyIn_done (by kernel_rfl) ?_ _
    gi_wp2_with (refine ⟨trivial, ?_⟩; gi_at_call 62; refine (callsIn_wide.2 (abreast_any _ _ _)).mono ?_; rintro e w' ⟨rfl, rfl⟩)
    have hw2 := A.res.lt
    have A3 := (A.next (b_alloc w2 (.cells #[.int .i64 ka, .string SA, al, ap] 28))).next (b_alloc _ (.cells #[.int .i64 kb, .string SB, bl, bp] 28))
    have F3 : Ax w ((w2.alloc (.cells #[.int .i64 ka, .string SA, al, ap] 28)).alloc (.cells #[.int .i64 kb, .string SB, bl, bp] 28)) w2.heap.size (w2.heap.size + 1) #[.int .i64 ka, .string SA, al, ap] #[.int .i64 kb, .string SB, bl, bp] := by
      refine ⟨A3.bel, (Bx.made _ _ _).later _, ?_⟩
      have := Bx.made (w2.alloc (.cells #[.int .i64 ka, .string SA, al, ap] 28)) #[.int .i64 kb, .string SB, bl, bp] 28
      simpa using this
    have hz : ((w2.alloc (.cells #[.int .i64 ka, .string SA, al, ap] 28)).alloc (.cells #[.int .i64 kb, .string SB, bl, bp] 28)).heap.size = w2.heap.size + 2 := by simp
    obtain ⟨W3, hW3⟩ : ∃ W3, (w2.alloc (.cells #[.int .i64 ka, .string SA, al, ap] 28)).alloc (.cells #[.int .i64 kb, .string SB, bl, bp] 28) = W3 := ⟨_, rfl⟩
    rw [hW3] at A3 F3 hz ⊢
    clear A hW3 c0 c1 c2 c3 d0 d1 d2 d3 r0 r1
    refine wpIn_rangeFunc_ownG rfl (by omega) (gf := 77) (lb := #[.pointer (some ⟨w2.heap.size, 0, none⟩), .pointer (some ⟨w2.heap.size + 1, 0, none⟩)]) rfl trivial (enters_of Try.func77 (by kernel_rfl) rfl)
      (abreast1_stops w2.heap.size (w2.heap.size + 1) a b _ _ _ _ _ _ _ _ xs w W3 HA.out HB.out (by omega) (by omega) (by omega) (by omega) F3 Hxs.out) (fun h k => kp2_t h k) (kp2_b (w := W3) (by omega) (by omega) (by omega)) (Below.refl _ _) (fun _ => rfl)
      (fun pre W => (∀ p ∈ listP pre, p.1 = p.2) ∧ Cx w W #[.int .i64 ka, .string SA, al, ap] #[.int .i64 kb, .string SB, bl, bp] (.int .i64 0) ∧ Ax w W w2.heap.size (w2.heap.size + 1) #[.int .i64 ka, .string SA, al, ap] #[.int .i64 kb, .string SB, bl, bp])
      (fun c pre W => ∃ g : List Px × Px, (c = .ret ∧ pre = g.1 ++ [g.2] ∧ (∀ p ∈ listP g.1, p.1 = p.2) ∧ g.2.1.1.data.toList ≠ g.2.2.1.data.toList) ∧ Cx w W #[.int .i64 ka, .string SA, al, ap] #[.int .i64 kb, .string SB, bl, bp] (.int .i64 (cmpB g.2.1.1.data.toList g.2.2.1.data.toList)) ∧ Ax w W w2.heap.size (w2.heap.size + 1) #[.int .i64 ka, .string SA, al, ap] #[.int .i64 kb, .string SB, bl, bp])
      (cx_own (by omega) _ (fun _ => .int .i64 0))
      (fun c => ownFrom_ex (fun g => cx_own (by omega) (fun pre => c = .ret ∧ pre = g.1 ++ [g.2] ∧ (∀ p ∈ listP g.1, p.1 = p.2) ∧ g.2.1.1.data.toList ≠ g.2.2.1.data.toList) (fun _ => .int .i64 (cmpB g.2.1.1.data.toList g.2.2.1.data.toList))))
      ⟨by simp [listP], A3, F3⟩
      (fun x => { tmps := #[.agg #[.int .i64 ka, .string SA, al, ap], .agg #[.int .i64 kb, .string SB, bl, bp], .pointer (some ⟨w.heap.size, 0, none⟩), .pointer (some ⟨w.heap.size + 1, 0, none⟩), .pointer (some ⟨w.heap.size + 1 + 1, 0, none⟩), .int .i64 0, .string x.1.1, .string x.2.1, undef, .agg #[.int .i64 ka, .string SA, al, ap], .int .i64 qa, .agg #[.int .i64 kb, .string SB, bl, bp], .int .i64 qa, .int .i64 0, .int .i64 0, .bool false, undef, .agg #[.int .i64 ka, .string SA, al, ap], .agg #[.int .i64 kb, .string SB, bl, bp], .func (.func 77) #[] #[.pointer (some ⟨w2.heap.size, 0, none⟩), .pointer (some ⟨w2.heap.size + 1, 0, none⟩)], .string x.1.1, .string x.2.1, undef, undef, undef, undef, undef, undef, undef, undef, undef, undef, undef], defers := [] }) ?assign ?body ?done ?stop
    case assign =>
      intro l x W K hK
      dsimp only [encP]
      gi_wp2
      exact hK
    case body =>
      rintro l pre x W ⟨hpre, C, F⟩ _
      have hsn : listP (pre ++ [x]) = listP pre ++ [(x.1.1.data.toList, x.2.1.data.toList)] := by simp [listP]
      by_cases hx : x.1.1.data.toList = x.2.1.data.toList
      · have Hx : Hid (cmpB x.1.1.data.toList x.2.1.data.toList = 0) := hide ((cmpB_zero _ _).2 hx)
        have Hn : Hid (∀ p ∈ listP (pre ++ [x]), p.1 = p.2) := by
          rw [hsn]
          refine hide (fun p hp => ?_)
          rcases List.mem_append.1 hp with h | h
          · exact hpre p h
          · rw [List.mem_singleton] at h
            rw [h]
            exact hx
        clear hx hsn hpre
        gi_wp2_with (refine ⟨trivial, ?_⟩; gi_at_call 63; refine (CallsIn.inRound l (callsIn_wide.2 (cmpS_is _ _ _ _ Hx.out))).mono ?_; rintro e w4 ⟨rfl, rfl⟩)
        exact ⟨KeepsFrom.refl _ _, ⟨Below.refl _ _, fun _ h => h, fun _ h => h⟩, Hn.out, C, F⟩
      · obtain ⟨cv, hcv⟩ : ∃ cv, cmpB x.1.1.data.toList x.2.1.data.toList = cv := ⟨_, rfl⟩
        have h0 : (cv == 0) = false := by
          rw [beq_eq_false_iff_ne, ← hcv]
          exact fun e => hx ((cmpB_zero _ _).1 e)
        have Hx := hide hx
        have Hcv := hide hcv
        have Hpre := hide hpre
        have hfr := C.res.frozen
        have hcl := C.res.cell
        clear hx hcv hsn hpre
        gi_wp2_with (refine ⟨trivial, ?_⟩; gi_at_call 63; refine (CallsIn.inRound l (callsIn_wide.2 (cmpS_is _ _ _ _ Hcv.out))).mono ?_; rintro e w4 ⟨rfl, rfl⟩)
        refine ⟨(KeepsOthers.setCell _ _ _).from _, (pre, x), ⟨rfl, rfl, Hpre.out, Hx.out⟩, ?_, ?_⟩
        · rw [Hcv.out]
          exact C.set _
        · exact ⟨(C.set _).bel, F.fst.other (by omega) 0 _, F.snd.other (by omega) 0 _⟩
    case stop =>
      rintro D c pre W hD hpre ⟨⟨q, x⟩, ⟨rfl, rfl, hq, hx⟩, C, F⟩ hK
      have Hr : Hid (cmpB x.1.1.data.toList x.2.1.data.toList = res) := by
        obtain ⟨r, hr⟩ := hpre
        have e : (textsV a).zip (textsV b) = listP q ++ (x.1.1.data.toList, x.2.1.data.toList) :: listP r := by
          rw [← Hxs.out, ← hr]; simp [listP]
        rw [← Hres.out, compare_first a b (by rw [Hqa.out, Hqb.out]) e hq hx]
        exact hide rfl
      have hcr := C.res.cell
      gi_wp2
      refine ⟨by simp, .inl ⟨_, _, rfl, run_takeDeferred hK, ?_⟩⟩
      have hc5 := cell_kept hcr (grownBy_putObj' _ D (.deferred none)) (fun r e => by cases e; exact ⟨_, hK, rfl⟩)
      refine ⟨.int .i64 (cmpB x.1.1.data.toList x.2.1.data.toList), ?_, by rw [Hr.out], C.bel.trans (belowK_b (w := w) (Nat.le_refl _) W D _ _ (by omega) hK rfl rfl)⟩
      simp [results, Try.results53, go_sem, hc5]
    case done =>
      rintro D ys W hD rfl ⟨hall, C, F⟩ hQ
      have Hr : Hid (cmpI (countV a) (countV b) = res) := by
        rw [← Hres.out, compare_all a b (by rw [Hqa.out, Hqb.out]) (by rw [← Hxs.out]; exact hall)]
        exact hide rfl
      clear hall
      have A := C
      clear C
      obtain ⟨c0, c1, c2, c3, d0, d1, d2, d3, r0, r1⟩ := A.all
      gi_wp2
      refine wpIn_region_any (by assumption) ?_
      change wpAnyIn _ _ _ _ _ _ _ _ _ (World.drew _)
      refine wpAnyIn_ready (rs := [0, 2]) (by kernel_rfl) (by simp) ?_
      refine AllReadyIn.cons rfl (fun K hK => ?_) ?_
      · go_simp
        refine hK _ _ ?_; clear hK K
        refine wpAnyIn_ready (rs := [1, 2]) (by kernel_rfl) (by simp) ?_
        refine AllReadyIn.cons rfl (fun K hK => ?_) ?_
        · go_simp
          gi_wp2_with (refine ⟨trivial, ?_⟩; gi_at_call 39; refine (callsIn_wide.2 (count_any _ a _ (by first | with_reducible exact HA.out.later A.bel | with_reducible exact HA.out.later A.drew.bel) hpa1)).mono ?_; rintro e w1 ⟨rfl, bb⟩)
          (first | with_reducible (replace A := A.next bb) | with_reducible (replace A := A.drew.next bb))
          replace hQ := (bb.block D (Array.getElem?_eq_some_iff.1 hQ).1).trans hQ
          clear bb
          replace c0 := A.all
          obtain ⟨c0, c1, c2, c3, d0, d1, d2, d3, r0, r1⟩ := c0
          refine wpAnyIn_ready (rs := [2]) (by kernel_rfl) (by simp) ?_
          refine AllReadyIn.cons rfl (fun K hK => ?_) AllReadyIn.nil
          go_simp
          refine hK _ _ ?_; clear hK K
          refine wpAnyIn_ready (rs := [3]) (by kernel_rfl) (by simp) ?_
          refine AllReadyIn.cons rfl (fun K hK => ?_) AllReadyIn.nil
          go_simp
          gi_wp2_with (refine ⟨trivial, ?_⟩; gi_at_call 39; refine (callsIn_wide.2 (count_any _ b _ (by first | with_reducible exact HB.out.later A.bel | with_reducible exact HB.out.later A.drew.bel) hpb1)).mono ?_; rintro e w1 ⟨rfl, bb⟩)
          (first | with_reducible (replace A := A.next bb) | with_reducible (replace A := A.drew.next bb))
          replace hQ := (bb.block D (Array.getElem?_eq_some_iff.1 hQ).1).trans hQ
          clear bb
          replace c0 := A.all
          obtain ⟨c0, c1, c2, c3, d0, d1, d2, d3, r0, r1⟩ := c0
          refine wpAnyIn_ready (rs := [4]) (by kernel_rfl) (by simp) ?_
          refine AllReadyIn.cons rfl (fun K hK => ?_) AllReadyIn.nil
          go_simp
          gi_wp2_with (refine ⟨trivial, ?_⟩; gi_at_call 60; refine (callsIn_wide.2 (cmp_is _ _ _ _ Hr.out)).mono ?_; rintro e w2 ⟨rfl, rfl⟩)
          refine wpAnyIn_ready (rs := [5]) (by kernel_rfl) (by simp) ?_
          refine AllReadyIn.cons rfl (fun K hK => ?_) AllReadyIn.nil
          go_simp
          refine hK _ _ ?_; clear hK K
          refine wpAnyIn_done (by kernel_rfl) ?_ _
          gi_wp2
          have hK' := (KeepsOthers.setCell _ ⟨w.heap.size + 1 + 1, 0, none⟩ (.int .i64 res)).same D _ hQ rfl
          refine ⟨by simp, .inl ⟨_, _, rfl, run_takeDeferred hK', ?_⟩⟩
          have A5 := A.set (.int .i64 res)
          have hc5 := cell_kept A5.res.cell (grownBy_putObj' _ D (.deferred none)) (fun r e => by cases e; exact ⟨_, hK', rfl⟩)
          refine ⟨.int .i64 res, ?_, rfl, A5.bel.trans (belowK_b (w := w) (Nat.le_refl _) _ D _ _ (by omega) hK' rfl rfl)⟩
          simp [results, Try.results53, go_sem, hc5]
        refine AllReadyIn.cons rfl (fun K hK => ?_) AllReadyIn.nil
        go_simp
        refine hK _ _ ?_; clear hK K
        refine wpAnyIn_ready (rs := [1]) (by kernel_rfl) (by simp) ?_
        refine AllReadyIn.cons rfl (fun K hK => ?_) AllReadyIn.nil
        go_simp
        gi_wp2_with (refine ⟨trivial, ?_⟩; gi_at_call 39; refine (callsIn_wide.2 (count_any _ a _ (by first | with_reducible exact HA.out.later A.bel | with_reducible exact HA.out.later A.drew.bel) hpa1)).mono ?_; rintro e w1 ⟨rfl, bb⟩)
        (first | with_reducible (replace A := A.next bb) | with_reducible (replace A := A.drew.next bb))
        replace hQ := (bb.block D (Array.getElem?_eq_some_iff.1 hQ).1).trans hQ
        clear bb
        replace c0 := A.all
        obtain ⟨c0, c1, c2, c3, d0, d1, d2, d3, r0, r1⟩ := c0
        refine wpAnyIn_ready (rs := [3]) (by kernel_rfl) (by simp) ?_
        refine AllReadyIn.cons rfl (fun K hK => ?_) AllReadyIn.nil
        go_simp
        gi_wp2_with (refine ⟨trivial, ?_⟩; gi_at_call 39; refine (callsIn_wide.2 (count_any _ b _ (by first | with_reducible exact HB.out.later A.bel | with_reducible exact HB.out.later A.drew.bel) hpb1)).mono ?_; rintro e w1 ⟨rfl, bb⟩)
        (first | with_reducible (replace A := A.next bb) | with_reducible (replace A := A.drew.next bb))
        replace hQ := (bb.block D (Array.getElem?_eq_some_iff.1 hQ).1).trans hQ
        clear bb
        replace c0 := A.all
        obtain ⟨c0, c1, c2, c3, d0, d1, d2, d3, r0, r1⟩ := c0
        refine wpAnyIn_ready (rs := [4]) (by kernel_rfl) (by simp) ?_
        refine AllReadyIn.cons rfl (fun K hK => ?_) AllReadyIn.nil
        go_simp
        gi_wp2_with (refine ⟨trivial, ?_⟩; gi_at_call 60; refine (callsIn_wide.2 (cmp_is _ _ _ _ Hr.out)).mono ?_; rintro e w2 ⟨rfl, rfl⟩)
        refine wpAnyIn_ready (rs := [5]) (by kernel_rfl) (by simp) ?_
        refine AllReadyIn.cons rfl (fun K hK => ?_) AllReadyIn.nil
        go_simp
        refine hK _ _ ?_; clear hK K
        refine wpAnyIn_done (by kernel_rfl) ?_ _
        gi_wp2
        have hK' := (KeepsOthers.setCell _ ⟨w.heap.size + 1 + 1, 0, none⟩ (.int .i64 res)).same D _ hQ rfl
        refine ⟨by simp, .inl ⟨_, _, rfl, run_takeDeferred hK', ?_⟩⟩
        have A5 := A.set (.int .i64 res)
        have hc5 := cell_kept A5.res.cell (grownBy_putObj' _ D (.deferred none)) (fun r e => by cases e; exact ⟨_, hK', rfl⟩)
        refine ⟨.int .i64 res, ?_, rfl, A5.bel.trans (belowK_b (w := w) (Nat.le_refl _) _ D _ _ (by omega) hK' rfl rfl)⟩
        simp [results, Try.results53, go_sem, hc5]
      refine AllReadyIn.cons rfl (fun K hK => ?_) AllReadyIn.nil
      go_simp
      refine hK _ _ ?_; clear hK K
      refine wpAnyIn_ready (rs := [0]) (by kernel_rfl) (by simp) ?_
      refine AllReadyIn.cons rfl (fun K hK => ?_) AllReadyIn.nil
      go_simp
      refine hK _ _ ?_; clear hK K
      refine wpAnyIn_ready (rs := [1]) (by kernel_rfl) (by simp) ?_
      refine AllReadyIn.cons rfl (fun K hK => ?_) AllReadyIn.nil
      go_simp
      gi_wp2_with (refine ⟨trivial, ?_⟩; gi_at_call 39; refine (callsIn_wide.2 (count_any _ a _ (by first | with_reducible exact HA.out.later A.bel | with_reducible exact HA.out.later A.drew.bel) hpa1)).mono ?_; rintro e w1 ⟨rfl, bb⟩)
      (first | with_reducible (replace A := A.next bb) | with_reducible (replace A := A.drew.next bb))
      replace hQ := (bb.block D (Array.getElem?_eq_some_iff.1 hQ).1).trans hQ
      clear bb
      replace c0 := A.all
      obtain ⟨c0, c1, c2, c3, d0, d1, d2, d3, r0, r1⟩ := c0
      refine wpAnyIn_ready (rs := [3]) (by kernel_rfl) (by simp) ?_
      refine AllReadyIn.cons rfl (fun K hK => ?_) AllReadyIn.nil
      go_simp
      gi_wp2_with (refine ⟨trivial, ?_⟩; gi_at_call 39; refine (callsIn_wide.2 (count_any _ b _ (by first | with_reducible exact HB.out.later A.bel | with_reducible exact HB.out.later A.drew.bel) hpb1)).mono ?_; rintro e w1 ⟨rfl, bb⟩)
      (first | with_reducible (replace A := A.next bb) | with_reducible (replace A := A.drew.next bb))
      replace hQ := (bb.block D (Array.getElem?_eq_some_iff.1 hQ).1).trans hQ
      clear bb
      replace c0 := A.all
      obtain ⟨c0, c1, c2, c3, d0, d1, d2, d3, r0, r1⟩ := c0
      refine wpAnyIn_ready (rs := [4]) (by kernel_rfl) (by simp) ?_
      refine AllReadyIn.cons rfl (fun K hK => ?_) AllReadyIn.nil
      go_simp
      gi_wp2_with (refine ⟨trivial, ?_⟩; gi_at_call 60; refine (callsIn_wide.2 (cmp_is _ _ _ _ Hr.out)).mono ?_; rintro e w2 ⟨rfl, rfl⟩)
      refine wpAnyIn_ready (rs := [5]) (by kernel_rfl) (by simp) ?_
      refine AllReadyIn.cons rfl (fun K hK => ?_) AllReadyIn.nil
      go_simp
      refine hK _ _ ?_; clear hK K
      refine wpAnyIn_done (by kernel_rfl) ?_ _
      gi_wp2
      have hK' := (KeepsOthers.setCell _ ⟨w.heap.size + 1 + 1, 0, none⟩ (.int .i64 res)).same D _ hQ rfl
      refine ⟨by simp, .inl ⟨_, _, rfl, run_takeDeferred hK', ?_⟩⟩
      have A5 := A.set (.int .i64 res)
      have hc5 := cell_kept A5.res.cell (grownBy_putObj' _ D (.deferred none)) (fun r e => by cases e; exact ⟨_, hK', rfl⟩)
      refine ⟨.int .i64 res, ?_, rfl, A5.bel.trans (belowK_b (w := w) (Nat.le_refl _) _ D _ _ (by omega) hK' rfl rfl)⟩
      simp [results, Try.results53, go_sem, hc5]
  · have hc1 : (cc == 0) = false := by
      rw [← hcc, beq_eq_false_iff_ne]; unfold cmpI; split <;> (try split) <;> omega
    have hr : cc = res := by rw [← hcc, ← Hres.out, compare_rank a b (by rw [hqa, hqb]; exact hq), hqa, hqb]
    have Hr := hide hr
    clear hcc hr
    gi_wp2
    refine wpIn_region_any (by assumption) ?_
    change wpAnyIn _ _ _ _ _ _ _ _ _ (World.drew _)
    refine wpAnyIn_ready (rs := [0, 2]) (by kernel_rfl) (by simp) ?_
    refine AllReadyIn.cons rfl (fun K hK => ?_) ?_
    · go_simp
      refine hK _ _ ?_; clear hK K
      refine wpAnyIn_ready (rs := [1, 2]) (by kernel_rfl) (by simp) ?_
      refine AllReadyIn.cons rfl (fun K hK => ?_) ?_
      · go_simp
        gi_wp2_with (refine ⟨trivial, ?_⟩; gi_at_call 61; refine (callsIn_wide.2 (rank_any _ a qa _ (by first | with_reducible exact HA.out.later A.bel | with_reducible exact HA.out.later A.drew.bel) hpa1 Hqa.out)).mono ?_; rintro e w1 ⟨rfl, bb⟩)
        (first | with_reducible (replace A := A.next bb) | with_reducible (replace A := A.drew.next bb))
        clear bb
        replace c0 := A.all
        obtain ⟨c0, c1, c2, c3, d0, d1, d2, d3, r0, r1⟩ := c0
        refine wpAnyIn_ready (rs := [2]) (by kernel_rfl) (by simp) ?_
        refine AllReadyIn.cons rfl (fun K hK => ?_) AllReadyIn.nil
        go_simp
        refine hK _ _ ?_; clear hK K
        refine wpAnyIn_ready (rs := [3]) (by kernel_rfl) (by simp) ?_
        refine AllReadyIn.cons rfl (fun K hK => ?_) AllReadyIn.nil
        go_simp
        gi_wp2_with (refine ⟨trivial, ?_⟩; gi_at_call 61; refine (callsIn_wide.2 (rank_any _ b qb _ (by first | with_reducible exact HB.out.later A.bel | with_reducible exact HB.out.later A.drew.bel) hpb1 Hqb.out)).mono ?_; rintro e w1 ⟨rfl, bb⟩)
        (first | with_reducible (replace A := A.next bb) | with_reducible (replace A := A.drew.next bb))
        clear bb
        replace c0 := A.all
        obtain ⟨c0, c1, c2, c3, d0, d1, d2, d3, r0, r1⟩ := c0
        refine wpAnyIn_ready (rs := [4]) (by kernel_rfl) (by simp) ?_
        refine AllReadyIn.cons rfl (fun K hK => ?_) AllReadyIn.nil
        go_simp
        gi_wp2_with (refine ⟨trivial, ?_⟩; gi_at_call 60; refine (callsIn_wide.2 (cmp_is _ _ _ _ Hcc.out)).mono ?_; rintro e w2 ⟨rfl, rfl⟩)
        refine wpAnyIn_ready (rs := [5]) (by kernel_rfl) (by simp) ?_
        refine AllReadyIn.cons rfl (fun K hK => ?_) AllReadyIn.nil
        go_simp
        refine hK _ _ ?_; clear hK K
        refine wpAnyIn_done (by kernel_rfl) ?_ _
        gi_wp2
        obtain ⟨q1, q2⟩ : Cx w _ _ _ _ ∧ True := ⟨A.set (.int .i64 cc), trivial⟩
        exact ⟨.int .i64 cc, by simp [results, Try.results53, go_sem, q1.res.cell], by rw [Hr.out], q1.bel⟩
      refine AllReadyIn.cons rfl (fun K hK => ?_) AllReadyIn.nil
      go_simp
      refine hK _ _ ?_; clear hK K
      refine wpAnyIn_ready (rs := [1]) (by kernel_rfl) (by simp) ?_
      refine AllReadyIn.cons rfl (fun K hK => ?_) AllReadyIn.nil
      go_simp
      gi_wp2_with (refine ⟨trivial, ?_⟩; gi_at_call 61; refine (callsIn_wide.2 (rank_any _ a qa _ (by first | with_reducible exact HA.out.later A.bel | with_reducible exact HA.out.later A.drew.bel) hpa1 Hqa.out)).mono ?_; rintro e w1 ⟨rfl, bb⟩)
      (first | with_reducible (replace A := A.next bb) | with_reducible (replace A := A.drew.next bb))
      clear bb
      replace c0 := A.all
      obtain ⟨c0, c1, c2, c3, d0, d1, d2, d3, r0, r1⟩ := c0
      refine wpAnyIn_ready (rs := [3]) (by kernel_rfl) (by simp) ?_
      refine AllReadyIn.cons rfl (fun K hK => ?_) AllReadyIn.nil
      go_simp
      gi_wp2_with (refine ⟨trivial, ?_⟩; gi_at_call 61; refine (callsIn_wide.2 (rank_any _ b qb _ (by first | with_reducible exact HB.out.later A.bel | with_reducible exact HB.out.later A.drew.bel) hpb1 Hqb.out)).mono ?_; rintro e w1 ⟨rfl, bb⟩)
      (first | with_reducible (replace A := A.next bb) | with_reducible (replace A := A.drew.next bb))
      clear bb
      replace c0 := A.all
      obtain ⟨c0, c1, c2, c3, d0, d1, d2, d3, r0, r1⟩ := c0
      refine wpAnyIn_ready (rs := [4]) (by kernel_rfl) (by simp) ?_
      refine AllReadyIn.cons rfl (fun K hK => ?_) AllReadyIn.nil
      go_simp
      gi_wp2_with (refine ⟨trivial, ?_⟩; gi_at_call 60; refine (callsIn_wide.2 (cmp_is _ _ _ _ Hcc.out)).mono ?_; rintro e w2 ⟨rfl, rfl⟩)
      refine wpAnyIn_ready (rs := [5]) (by kernel_rfl) (by simp) ?_
      refine AllReadyIn.cons rfl (fun K hK => ?_) AllReadyIn.nil
      go_simp
      refine hK _ _ ?_; clear hK K
      refine wpAnyIn_done (by kernel_rfl) ?_ _
      gi_wp2
      obtain ⟨q1, q2⟩ : Cx w _ _ _ _ ∧ True := ⟨A.set (.int .i64 cc), trivial⟩
      exact ⟨.int .i64 cc, by simp [results, Try.results53, go_sem, q1.res.cell], by rw [Hr.out], q1.bel⟩
    refine AllReadyIn.cons rfl (fun K hK => ?_) AllReadyIn.nil
    go_simp
    refine hK _ _ ?_; clear hK K
    refine wpAnyIn_ready (rs := [0]) (by kernel_rfl) (by simp) ?_
    refine AllReadyIn.cons rfl (fun K hK => ?_) AllReadyIn.nil
    go_simp
    refine hK _ _ ?_; clear hK K
    refine wpAnyIn_ready (rs := [1]) (by kernel_rfl) (by simp) ?_
    refine AllReadyIn.cons rfl (fun K hK => ?_) AllReadyIn.nil
    go_simp
    gi_wp2_with (refine ⟨trivial, ?_⟩; gi_at_call 61; refine (callsIn_wide.2 (rank_any _ a qa _ (by first | with_reducible exact HA.out.later A.bel | with_reducible exact HA.out.later A.drew.bel) hpa1 Hqa.out)).mono ?_; rintro e w1 ⟨rfl, bb⟩)
    (first | with_reducible (replace A := A.next bb) | with_reducible (replace A := A.drew.next bb))
    clear bb
    replace c0 := A.all
    obtain ⟨c0, c1, c2, c3, d0, d1, d2, d3, r0, r1⟩ := c0
    refine wpAnyIn_ready (rs := [3]) (by kernel_rfl) (by simp) ?_
    refine AllReadyIn.cons rfl (fun K hK => ?_) AllReadyIn.nil
    go_simp
    gi_wp2_with (refine ⟨trivial, ?_⟩; gi_at_call 61; refine (callsIn_wide.2 (rank_any _ b qb _ (by first | with_reducible exact HB.out.later A.bel | with_reducible exact HB.out.later A.drew.bel) hpb1 Hqb.out)).mono ?_; rintro e w1 ⟨rfl, bb⟩)
    (first | with_reducible (replace A := A.next bb) | with_reducible (replace A := A.drew.next bb))
    clear bb
    replace c0 := A.all
    obtain ⟨c0, c1, c2, c3, d0, d1, d2, d3, r0, r1⟩ := c0
    refine wpAnyIn_ready (rs := [4]) (by kernel_rfl) (by simp) ?_
    refine AllReadyIn.cons rfl (fun K hK => ?_) AllReadyIn.nil
    go_simp
    gi_wp2_with (refine ⟨trivial, ?_⟩; gi_at_call 60; refine (callsIn_wide.2 (cmp_is _ _ _ _ Hcc.out)).mono ?_; rintro e w2 ⟨rfl, rfl⟩)
    refine wpAnyIn_ready (rs := [5]) (by kernel_rfl) (by simp) ?_
    refine AllReadyIn.cons rfl (fun K hK => ?_) AllReadyIn.nil
    go_simp
    refine hK _ _ ?_; clear hK K
    refine wpAnyIn_done (by kernel_rfl) ?_ _
    gi_wp2
    obtain ⟨q1, q2⟩ : Cx w _ _ _ _ ∧ True := ⟨A.set (.int .i64 cc), trivial⟩
    exact ⟨.int .i64 cc, by simp [results, Try.results53, go_sem, q1.res.cell], by rw [Hr.out], q1.bel⟩
theorem compare_is (x y : Value) (a b : Vl) (res : Int) (w : World) (HVa : VlAt w x a) (HVb : VlAt w y b) (hla : a.l.length ≤ 100000) (hpa : a.p.length ≤ 100000) (hlb : b.l.length ≤ 100000) (hpb : b.p.length ≤ 100000) (hta : ∀ y ∈ textsV a, y.length ≤ 140737488355328) (htb : ∀ y ∈ textsV b, y.length ≤ 140737488355328) (hres : compareV a b = res) :
    Calls Try.prog 53 #[x, y] w fun e w' => e = .returned (.int .i64 res) ∧ Below w.heap.size w w' := compare_any x y a b res w HVa HVb hla hpa hlb hpb hta htb hres
set_option maxRecDepth 20000 in
set_option maxHeartbeats 4000000 in
theorem same_any (x y : Value) (a b : Vl) (r : Bool) (w : World) (HVa : VlAt w x a) (HVb : VlAt w y b) (hla : a.l.length ≤ 100000) (hpa : a.p.length ≤ 100000) (hlb : b.l.length ≤ 100000) (hpb : b.p.length ≤ 100000) (hta : ∀ y ∈ textsV a, y.length ≤ 140737488355328) (htb : ∀ y ∈ textsV b, y.length ≤ 140737488355328) (hr : sameV a b = r) :
    Calls Try.prog 44 #[x, y] w fun e w' => e = .returned (.bool r) ∧ Below w.heap.size w w' := by
  have GA := hide HVa
  have GB := hide HVb
  obtain ⟨al, ap, rfl, _, _⟩ := HVa
  obtain ⟨bl, bp, rfl, _, _⟩ := HVb
  obtain ⟨SA, hSA⟩ : ∃ S : ByteArray, (⟨a.s.toArray⟩ : ByteArray) = S := ⟨_, rfl⟩
  obtain ⟨SB, hSB⟩ : ∃ S : ByteArray, (⟨b.s.toArray⟩ : ByteArray) = S := ⟨_, rfl⟩
  obtain ⟨ka, hka⟩ : ∃ k, a.kind = k := ⟨_, rfl⟩
  obtain ⟨kb, hkb⟩ : ∃ k, b.kind = k := ⟨_, rfl⟩
  rw [hSA, hka] at GA ⊢
  rw [hSB, hkb] at GB ⊢
  obtain ⟨c, hc⟩ : ∃ c, compareV a b = c := ⟨_, rfl⟩
  have h0 : (c == 0) = r := by
    rw [← hr, Bool.eq_iff_iff, beq_iff_eq, ← hc]
    exact compare_same a b
  have Hc := hide hc
  have Hta := hide hta
  have Htb := hide htb
  have K := Jx.made w #[.int .i64 ka, .string SA, al, ap] #[.int .i64 kb, .string SB, bl, bp]
  clear hSA hSB hka hkb hr hc hta htb
  obtain ⟨W0, hW0⟩ : ∃ W0, (w.alloc (.cells #[.int .i64 ka, .string SA, al, ap] 28)).alloc (.cells #[.int .i64 kb, .string SB, bl, bp] 28) = W0 := ⟨_, rfl⟩
  rw [hW0] at K
  obtain ⟨x0, x1, x2, x3, y0, y1, y2, y3⟩ := K.all
  go_enter Try.func44, Try.ntmps44
  go_wp2_with (go_at_call 53; refine (compare_any _ _ a b c _ (GA.out.later K.bel) (GB.out.later K.bel) hla hpa hlb hpb Hta.out Htb.out Hc.out).mono ?_; rintro e w1 ⟨rfl, bb⟩)
  go_ret
  exact ⟨ret_bool (by first | rfl | exact h0), (K.next bb).bel⟩
end Go.Proofs.Ytgnccmmbpgnamaa
