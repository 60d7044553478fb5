/-
  WALKS: the reference's Compare (layer 8).
-/
import Derived.Test.YtikhggdigndhoaaV9
namespace Go.Proofs.Ytikhggdigndhoaa
open Go.RowKit

/-- two arguments' cells, and their canonical values' -/
structure Ux (w W : World) (x y : Array Value) (p q : Nat) (ca cb : Vl) (c d : Array Value) : Prop where
  two : Jx w W x y
  hp : w.heap.size ≤ p
  fst : Bx W p c 25
  snd : Bx W q d 25
  va : VlAt W (.agg c) ca
  vb : VlAt W (.agg d) cb
section
variable {w W W' : World} {x y c d : Array Value} {p q : Nat} {ca cb : Vl}
theorem Ux.next (h : Ux w W x y p q ca cb c d) (bb : Below W.heap.size W W') : Ux w W' x y p q ca cb c d := ⟨h.two.next bb, h.hp, h.fst.next bb, h.snd.next bb, h.va.later bb, h.vb.later bb⟩
theorem Ux.drew (h : Ux w W x y p q ca cb c d) : Ux w W.drew x y p q ca cb c d := ⟨h.two.drew, h.hp, h.fst, h.snd, h.va.later (b_drew _), h.vb.later (b_drew _)⟩
theorem Ux.all {x0 x1 x2 x3 y0 y1 y2 y3 : Value} (h : Ux w W x y p q ca cb #[x0, x1, x2, x3] #[y0, y1, y2, y3]) : W.cell? ⟨p, 0, none⟩ = some x0 ∧ W.cell? ⟨p, 1, none⟩ = some x1 ∧ W.cell? ⟨p, 2, none⟩ = some x2 ∧ W.cell? ⟨p, 3, none⟩ = some x3 ∧ W.cell? ⟨q, 0, none⟩ = some y0 ∧ W.cell? ⟨q, 1, none⟩ = some y1 ∧ W.cell? ⟨q, 2, none⟩ = some y2 ∧ W.cell? ⟨q, 3, none⟩ = some y3 := by
  obtain ⟨a0, a1, a2, a3⟩ := cells4 h.fst
  obtain ⟨b0, b1, b2, b3⟩ := cells4 h.snd
  exact ⟨a0, a1, a2, a3, b0, b1, b2, b3⟩
end
theorem VlAt.mk {W : World} {c : Vl} {la pa : Option Addr} {lc pc : Nat} (R1 : StrsAt W (.slice la c.l.length lc) c.l) (R2 : PairsAt W (.slice pa c.p.length pc) c.p) : VlAt W (.agg #[.int .i64 c.kind, .string ⟨c.s.toArray⟩, .slice la c.l.length lc, .slice pa c.p.length pc]) c := ⟨_, _, rfl, R1, R2⟩
theorem b_drewN (W : World) (n : Nat) : Below W.heap.size W (W.drewN n) := ⟨rfl, rfl, rfl, Nat.le_refl _, fun _ _ => rfl⟩
theorem rcanon_c (x : Value) (v c : Vl) (w : World) (H : VlAt w x v) (hl : v.l.length ≤ 1000) (hp : v.p.length ≤ 1000) (hc : canonV v = c) : Calls Try.prog 17 #[x] w fun e w' => VlPost w c e w' := by
  subst hc; exact rcanon_any x v w H hl hp
set_option maxRecDepth 20000 in
set_option maxHeartbeats 4000000 in
theorem rcompare_any (x y : Value) (a b : Vl) (w : World) (HA : VlAt w x a) (HB : VlAt w y b) (hla : a.l.length ≤ 1000) (hpa : a.p.length ≤ 1000) (hlb : b.l.length ≤ 1000) (hpb : b.p.length ≤ 1000) :
    Calls Try.prog 21 #[x, y] w fun e w' => e = .returned (.int .i64 (compareV a b)) ∧ Below w.heap.size w w' := by
  have GA := hide HA
  have GB := hide HB
  obtain ⟨al, ap, rfl, _, _⟩ := HA
  obtain ⟨bl, bp, rfl, _, _⟩ := HB
  obtain ⟨ta, hta⟩ : ∃ ts, textsV a = ts := ⟨_, rfl⟩
  obtain ⟨tb, htb⟩ : ∃ ts, textsV b = ts := ⟨_, rfl⟩
  obtain ⟨SA, hSA⟩ : ∃ S : ByteArray, (⟨a.s.toArray⟩ : ByteArray) = S := ⟨_, rfl⟩
  obtain ⟨SB, hSB⟩ : ∃ S : ByteArray, (⟨b.s.toArray⟩ : ByteArray) = S := ⟨_, rfl⟩
  obtain ⟨ka, hka⟩ : ∃ k, a.kind = k := ⟨_, rfl⟩
  obtain ⟨kb, hkb⟩ : ∃ k, b.kind = k := ⟨_, rfl⟩
  have hna : ta.length ≤ 2000 := by rw [← hta]; exact texts_len a hla hpa
  have hnb : tb.length ≤ 2000 := by rw [← htb]; exact texts_len b hlb hpb
  obtain ⟨L, hL⟩ : ∃ L, lessL ta tb = L := ⟨_, rfl⟩
  obtain ⟨M, hM⟩ : ∃ M, sameV a b = M := ⟨_, rfl⟩
  have hs : compareV a b = if (decide ((canonV a).kind < (canonV b).kind) || decide ((canonV a).kind = (canonV b).kind) && L) then -1 else if M then 0 else 1 := by
    unfold compareV aheadV keyK
    rw [hta, htb, hL, hM]
  rw [hs]
  have hca : textsV (canonV a) = ta := by rw [texts_canon]; exact hta
  have hcb : textsV (canonV b) = tb := by rw [texts_canon]; exact htb
  obtain ⟨la1, la2, _⟩ := canon_lens a
  obtain ⟨lb1, lb2, _⟩ := canon_lens b
  have hcla : (canonV a).l.length ≤ 1000 := by omega
  have hcpa : (canonV a).p.length ≤ 1000 := by omega
  have hclb : (canonV b).l.length ≤ 1000 := by omega
  have hcpb : (canonV b).p.length ≤ 1000 := by omega
  rw [hSA, hka] at GA ⊢
  rw [hSB, hkb] at GB ⊢
  have HM := hide hM
  have HL := hide hL
  obtain ⟨ca, eca⟩ : ∃ c, canonV a = c := ⟨_, rfl⟩
  obtain ⟨cb, ecb⟩ : ∃ c, canonV b = c := ⟨_, rfl⟩
  rw [eca, ecb]
  rw [eca] at hca hcla hcpa
  rw [ecb] at hcb hclb hcpb
  have Hca := hide hca
  have Hcb := hide hcb
  have Eca := hide eca
  have Ecb := hide ecb
  have K := Jx.made w #[.int .i64 ka, .string SA, al, ap] #[.int .i64 kb, .string SB, bl, bp]
  clear hSA hSB hka hkb hs hta htb hM hL hca hcb eca ecb la1 la2 lb1 lb2
  obtain ⟨x0, x1, x2, x3, y0, y1, y2, y3⟩ := K.all
  obtain ⟨r, hr⟩ : ∃ r : Int, (if (decide (ca.kind < cb.kind) || decide (ca.kind = cb.kind) && L) then -1 else if M then 0 else 1) = r := ⟨_, rfl⟩
  rw [hr]
  have Hr := hide hr
  clear hr
  obtain ⟨W0, hW0⟩ : ∃ W0, (w.alloc (.cells #[.int .i64 ka, .string SA, al, ap] 25)).alloc (.cells #[.int .i64 kb, .string SB, bl, bp] 25) = W0 := ⟨_, rfl⟩
  rw [hW0] at K x0 x1 x2 x3 y0 y1 y2 y3
  go_enter Try.func21, Try.ntmps21
  go_wp2_with (fail)
  go_at_call 17
  refine (rcanon_c _ a ca W0 (GA.out.later K.bel) hla hpa Eca.out).mono ?_
  rintro e w1 ⟨la, lc, pa, pc, rfl, R1, R2, bb⟩
  have K1 := (K.next bb).alloc (.cells #[.int .i64 ca.kind, .string ⟨ca.s.toArray⟩, .slice la ca.l.length lc, .slice pa ca.p.length pc] 25)
  have P1 := (K.next bb).bel.size
  have A1 := Bx.made w1 #[.int .i64 ca.kind, .string ⟨ca.s.toArray⟩, .slice la ca.l.length lc, .slice pa ca.p.length pc] 25
  replace R1 := R1.later (b_alloc w1 (.cells #[.int .i64 ca.kind, .string ⟨ca.s.toArray⟩, .slice la ca.l.length lc, .slice pa ca.p.length pc] 25))
  replace R2 := R2.later (b_alloc w1 (.cells #[.int .i64 ca.kind, .string ⟨ca.s.toArray⟩, .slice la ca.l.length lc, .slice pa ca.p.length pc] 25))
  clear bb K x0 x1 x2 x3 y0 y1 y2 y3 hW0
  obtain ⟨W1, hW1⟩ : ∃ W1, w1.alloc (.cells #[.int .i64 ca.kind, .string ⟨ca.s.toArray⟩, .slice la ca.l.length lc, .slice pa ca.p.length pc] 25) = W1 := ⟨_, rfl⟩
  rw [hW1] at K1 A1 R1 R2
  obtain ⟨x0, x1, x2, x3, y0, y1, y2, y3⟩ := K1.all
  go_wp2_with (fail)
  go_at_call 17
  refine (rcanon_c _ b cb W1 (GB.out.later K1.bel) hlb hpb Ecb.out).mono ?_
  rintro e w2 ⟨ma, mc, na, nc, rfl, R3, R4, bb⟩
  have U : Ux w (w2.alloc (.cells #[.int .i64 cb.kind, .string ⟨cb.s.toArray⟩, .slice ma cb.l.length mc, .slice na cb.p.length nc] 25)) #[.int .i64 ka, .string SA, al, ap] #[.int .i64 kb, .string SB, bl, bp] w1.heap.size w2.heap.size ca cb #[.int .i64 ca.kind, .string ⟨ca.s.toArray⟩, .slice la ca.l.length lc, .slice pa ca.p.length pc] #[.int .i64 cb.kind, .string ⟨cb.s.toArray⟩, .slice ma cb.l.length mc, .slice na cb.p.length nc] :=
    ⟨(K1.next bb).alloc _, P1, (A1.next bb).later _, Bx.made _ _ _, ((VlAt.mk R1 R2).later bb).later (b_alloc _ _), (VlAt.mk R3 R4).later (b_alloc _ _)⟩
  clear bb K1 x0 x1 x2 x3 y0 y1 y2 y3 hW1 A1 R1 R2 R3 R4
  obtain ⟨W2, hW2⟩ : ∃ W2, w2.alloc (.cells #[.int .i64 cb.kind, .string ⟨cb.s.toArray⟩, .slice ma cb.l.length mc, .slice na cb.p.length nc] 25) = W2 := ⟨_, rfl⟩
  rw [hW2] at U
  obtain ⟨x0, x1, x2, x3, y0, y1, y2, y3⟩ := U.two.all
  obtain ⟨z0, z1, z2, z3, u0, u1, u2, u3⟩ := U.all
  by_cases hlt : ca.kind < cb.kind
  · have hf : decide (ca.kind < cb.kind) = true := by simp [hlt]
    replace Hr : Hid (-1 = r) := by have := Hr.out; rw [hf] at this; exact hide this
    go_wp2_with (fail)
    clear hW2
    first | go_quiet ((fail)) | fail
    all_goals go_wp2
    all_goals
      go_ret
      exact ⟨ret_int Hr.out, (U.next (b_drewN _ _)).two.bel⟩
  · have hf : decide (ca.kind < cb.kind) = false := by simp [hlt]
    by_cases heq : ca.kind = cb.kind
    · have hE : (ca.kind == cb.kind) = true := by simp [heq]
      replace Hr : Hid ((if L then -1 else if M then 0 else 1) = r) := by have := Hr.out; rw [hf, heq] at this; simp only [decide_true, Bool.false_or, Bool.true_and] at this; exact hide this
      have Heq := hide heq
      clear heq
      go_wp2_with (fail)
      clear hW2
      go_region_held3 (fun W => W.cell? ⟨w1.heap.size, 0, none⟩ = some (.int .i64 ca.kind) ∧ W.cell? ⟨w1.heap.size, 1, none⟩ = some (.string ⟨ca.s.toArray⟩) ∧ W.cell? ⟨w1.heap.size, 2, none⟩ = some (.slice la ca.l.length lc) ∧ W.cell? ⟨w1.heap.size, 3, none⟩ = some (.slice pa ca.p.length pc) ∧ W.cell? ⟨w2.heap.size, 0, none⟩ = some (.int .i64 cb.kind) ∧ W.cell? ⟨w2.heap.size, 1, none⟩ = some (.string ⟨cb.s.toArray⟩) ∧ W.cell? ⟨w2.heap.size, 2, none⟩ = some (.slice ma cb.l.length mc) ∧ W.cell? ⟨w2.heap.size, 3, none⟩ = some (.slice na cb.p.length nc)) (first | with_reducible exact U.all | with_reducible exact U.drew.all)
        (first | (go_at_call_of 11 ca.s; refine (rtexts_is _ ca ta _ (by first | with_reducible exact U.va | with_reducible exact U.drew.va) hcla hcpa Hca.out).mono ?_; rintro e w3 ⟨aa, ac, rfl, TA, bb⟩; (first | with_reducible (replace TB := TB.later bb) | skip); (first | with_reducible (replace U := U.next bb) | with_reducible (replace U := U.drew.next bb)); clear bb) | (go_at_call_of 11 cb.s; refine (rtexts_is _ cb tb _ (by first | with_reducible exact U.vb | with_reducible exact U.drew.vb) hclb hcpb Hcb.out).mono ?_; rintro e w3 ⟨ba, bc, rfl, TB, bb⟩; (first | with_reducible (replace TA := TA.later bb) | skip); (first | with_reducible (replace U := U.next bb) | with_reducible (replace U := U.drew.next bb)); clear bb) | (go_at_call 36; refine (rless_is _ _ ta tb L _ (by with_reducible exact TA) (by with_reducible exact TB) hna hnb HL.out).mono ?_; rintro e w3 ⟨rfl, bb⟩; with_reducible (replace U := U.next bb); clear bb))
      all_goals
        replace x0 := U.two.all
        obtain ⟨x0, x1, x2, x3, y0, y1, y2, y3⟩ := x0
        cases L
        · cases M
          all_goals
            go_wp2_with (go_at_call 23; refine (rsame_is _ _ a b _ _ (GA.out.later U.two.bel) (GB.out.later U.two.bel) hla hpa hlb hpb HM.out).mono ?_; rintro e w4 ⟨rfl, bb⟩; replace U := U.next bb; clear bb)
            go_ret
            exact ⟨ret_int Hr.out, U.two.bel⟩
        · go_wp2_with (fail)
          go_ret
          exact ⟨ret_int Hr.out, U.two.bel⟩
    · have hE : (ca.kind == cb.kind) = false := by simp [heq]
      replace Hr : Hid ((if M then 0 else 1) = r) := by have := Hr.out; rw [hf, decide_eq_false heq] at this; simp only [Bool.false_or, Bool.false_and] at this; exact hide this
      clear heq
      go_wp2_with (fail)
      clear hW2
      first | go_quiet ((fail)) | fail
      all_goals
        replace U := U.next (b_drewN _ nq)
        replace x0 := U.two.all
        obtain ⟨x0, x1, x2, x3, y0, y1, y2, y3⟩ := x0
        cases M
        all_goals
          go_wp2_with (go_at_call 23; refine (rsame_is _ _ a b _ _ (GA.out.later U.two.bel) (GB.out.later U.two.bel) hla hpa hlb hpb HM.out).mono ?_; rintro e w4 ⟨rfl, bb⟩; replace U := U.next bb; clear bb)
          go_ret
          exact ⟨ret_int Hr.out, U.two.bel⟩
theorem rcompare_is (x y : Value) (a b : Vl) (r : Int) (w : World) (HA : VlAt w x a) (HB : VlAt w y b) (hla : a.l.length ≤ 1000) (hpa : a.p.length ≤ 1000) (hlb : b.l.length ≤ 1000) (hpb : b.p.length ≤ 1000) (h : compareV a b = r) :
    Calls Try.prog 21 #[x, y] w fun e w' => e = .returned (.int .i64 r) ∧ Below w.heap.size w w' := by
  subst h; exact rcompare_any x y a b w HA HB hla hpa hlb hpb
end Go.Proofs.Ytikhggdigndhoaa
