/-
  WALKS: the law BindTold (layer 9).
-/
import Derived.Test.YtgnccmmbpgnamaaQ1
namespace Go.Proofs.Ytgnccmmbpgnamaa
open Go.RowKit

structure Td (W : World) (ka kb kp kq kr : Nat) (a0 a1 a2 a3 a4 b0 b1 b2 b3 b4 p0 p1 p2 p3 q0 q1 q2 q3 r0 r1 r2 r3 : Value) : Prop where
  a : Bx W ka #[a0, a1, a2, a3, a4] 41
  b : Bx W kb #[b0, b1, b2, b3, b4] 41
  p : Bx W kp #[p0, p1, p2, p3] 28
  q : Bx W kq #[q0, q1, q2, q3] 28
  r : Bx W kr #[r0, r1, r2, r3] 28
section
variable {W W' : World} {ka kb kp kq kr : Nat} {a0 a1 a2 a3 a4 b0 b1 b2 b3 b4 p0 p1 p2 p3 q0 q1 q2 q3 r0 r1 r2 r3 : Value}
theorem Td.next (h : Td W ka kb kp kq kr a0 a1 a2 a3 a4 b0 b1 b2 b3 b4 p0 p1 p2 p3 q0 q1 q2 q3 r0 r1 r2 r3) (hb : Below W.heap.size W W') : Td W' ka kb kp kq kr a0 a1 a2 a3 a4 b0 b1 b2 b3 b4 p0 p1 p2 p3 q0 q1 q2 q3 r0 r1 r2 r3 := ⟨h.a.next hb, h.b.next hb, h.p.next hb, h.q.next hb, h.r.next hb⟩
theorem Td.drew (h : Td W ka kb kp kq kr a0 a1 a2 a3 a4 b0 b1 b2 b3 b4 p0 p1 p2 p3 q0 q1 q2 q3 r0 r1 r2 r3) : Td W.drew ka kb kp kq kr a0 a1 a2 a3 a4 b0 b1 b2 b3 b4 p0 p1 p2 p3 q0 q1 q2 q3 r0 r1 r2 r3 := ⟨h.a.drew, h.b.drew, h.p.drew, h.q.drew, h.r.drew⟩
theorem Td.all (h : Td W ka kb kp kq kr a0 a1 a2 a3 a4 b0 b1 b2 b3 b4 p0 p1 p2 p3 q0 q1 q2 q3 r0 r1 r2 r3) : W.cell? ⟨ka, 0, none⟩ = some a0 ∧ W.cell? ⟨ka, 1, none⟩ = some a1 ∧ W.cell? ⟨ka, 2, none⟩ = some a2 ∧ W.cell? ⟨ka, 3, none⟩ = some a3 ∧ W.cell? ⟨ka, 4, none⟩ = some a4 ∧ W.cell? ⟨kb, 0, none⟩ = some b0 ∧ W.cell? ⟨kb, 1, none⟩ = some b1 ∧ W.cell? ⟨kb, 2, none⟩ = some b2 ∧ W.cell? ⟨kb, 3, none⟩ = some b3 ∧ W.cell? ⟨kb, 4, none⟩ = some b4 ∧ W.cell? ⟨kp, 0, none⟩ = some p0 ∧ W.cell? ⟨kp, 1, none⟩ = some p1 ∧ W.cell? ⟨kp, 2, none⟩ = some p2 ∧ W.cell? ⟨kp, 3, none⟩ = some p3 ∧ W.cell? ⟨kq, 0, none⟩ = some q0 ∧ W.cell? ⟨kq, 1, none⟩ = some q1 ∧ W.cell? ⟨kq, 2, none⟩ = some q2 ∧ W.cell? ⟨kq, 3, none⟩ = some q3 ∧ W.cell? ⟨kr, 0, none⟩ = some r0 ∧ W.cell? ⟨kr, 1, none⟩ = some r1 ∧ W.cell? ⟨kr, 2, none⟩ = some r2 ∧ W.cell? ⟨kr, 3, none⟩ = some r3 := ⟨h.a.cell 0 _ rfl, h.a.cell 1 _ rfl, h.a.cell 2 _ rfl, h.a.cell 3 _ rfl, h.a.cell 4 _ rfl, h.b.cell 0 _ rfl, h.b.cell 1 _ rfl, h.b.cell 2 _ rfl, h.b.cell 3 _ rfl, h.b.cell 4 _ rfl, h.p.cell 0 _ rfl, h.p.cell 1 _ rfl, h.p.cell 2 _ rfl, h.p.cell 3 _ rfl, h.q.cell 0 _ rfl, h.q.cell 1 _ rfl, h.q.cell 2 _ rfl, h.q.cell 3 _ rfl, h.r.cell 0 _ rfl, h.r.cell 1 _ rfl, h.r.cell 2 _ rfl, h.r.cell 3 _ rfl⟩
end
theorem set_len1 (bs : List Bd) (n : List UInt8) (v : Vl) : (setB bs n v).length ≤ bs.length + 1 := by
  unfold setB
  rw [canonB_len]
  have := names_len ((n, v) :: bs)
  simpa using this
theorem ev_is {M S : ByteArray} {kd : Int} {l p : Value} {u : Vl} {w : World} (hv : VlAt w (.agg #[.int .i64 kd, .string S, l, p]) u) : EAt w ⟨(M.data.toList, u), l, p⟩ ∧ cellsE ⟨(M.data.toList, u), l, p⟩ = [.string M, .int .i64 kd, .string S, l, p] := by
  obtain ⟨sl, sp, e, h1, h2⟩ := hv
  cases e
  exact ⟨⟨h1, h2⟩, rfl⟩
theorem wide_two {a b : Bd} (h : WideB [a]) (g : WideB [b]) : WideB [a, b] := by
  refine ⟨by simp, fun x hx => ?_, fun x hx => ?_⟩
  · rcases List.mem_cons.1 hx with rfl | hx
    · exact h.2 _ (List.mem_cons_self ..)
    · exact g.2 _ hx
  · rcases List.mem_cons.1 hx with rfl | hx
    · exact h.3 _ (List.mem_cons_self ..)
    · exact g.3 _ hx
theorem two_binds {w : World} {e1 e2 : Ev} {cs : Array Value} (h1 : EAt (w.alloc (.cells cs 41)) e1) (h2 : EAt (w.alloc (.cells cs 41)) e2) (hc : cs.toList = cellsE e1 ++ cellsE e2) : BindsE (w.alloc (.cells cs 41)) (.slice (some ⟨w.heap.size, 0, none⟩) 2 2) [e1, e2] := by
  refine ⟨EsAt.made w [e1, e2] cs 2 2 (by rw [hc]; simp [rowE]) rfl (by decide), fun f hf => ?_⟩
  rcases List.mem_cons.1 hf with rfl | hf
  · exact h1
  · rw [List.mem_singleton.1 hf]; exact h2
theorem rcanon_q (x : Value) (v : Vl) (q : Int) (w : World) (H : VlAt w x v) (hl : v.l.length ≤ 1000) (hp : v.p.length ≤ 1000) (hq : (canonV v).kind = q) : Calls Try.prog 25 #[x] w fun e w' => ∃ (s : ByteArray) (la : Option Addr) (n lc : Nat) (pa : Option Addr) (m pc : Nat), e = .returned (.agg #[.int .i64 q, .string s, .slice la n lc, .slice pa m pc]) ∧ Below w.heap.size w w' := by
  subst hq
  refine (rcanon_any x v w H hl hp).mono ?_
  rintro e w' ⟨la, lc, pa, pc, rfl, _, _, bb, _⟩
  exact ⟨_, _, _, _, _, _, _, rfl, bb⟩
theorem kinds_of (v : Vl) : (definedV v = false ∧ (canonV v).kind = 0) ∨ (definedV v = true ∧ ((canonV v).kind = 1 ∨ (canonV v).kind = 2 ∨ (canonV v).kind = 3)) := by
  cases h : definedV v with
  | false => exact .inl ⟨rfl, (kind_defined v).2 h⟩
  | true =>
    refine .inr ⟨rfl, ?_⟩
    rw [kind_canon, if_pos h]
    unfold definedV textsV at h
    by_cases h1 : v.kind = 1
    · exact .inl h1
    by_cases h2 : v.kind = 2
    · exact .inr (.inl h2)
    by_cases h3 : v.kind = 3
    · exact .inr (.inr h3)
    rw [if_neg h1, if_neg h2, if_neg h3] at h
    simp at h
theorem VlAt.drew {W : World} {x : Value} {v : Vl} (h : VlAt W x v) : VlAt W.drew x v := h.later (b_drew W)
attribute [local go_sem] undef
set_option maxRecDepth 20000 in
set_option maxHeartbeats 16000000 in
theorem told_walk (va : Value) (xs : List Bd) (M1 S1 : ByteArray) (k1 : Int) (a1 a2 : Option Addr) (n1 n2 c1 c2 : Nat) (b1 : Bd) (M2 S2 : ByteArray) (k2 : Int) (a3 a4 : Option Addr) (n3 n4 c3 c4 : Nat) (b2 : Bd) (w : World) (HA : BindsAt w va xs) (hM1 : M1.data.toList = b1.1) (hv1 : VlAt w (.agg #[.int .i64 k1, .string S1, .slice a1 n1 c1, .slice a2 n2 c2]) b1.2) (hM2 : M2.data.toList = b2.1) (hv2 : VlAt w (.agg #[.int .i64 k2, .string S2, .slice a3 n3 c3, .slice a4 n4 c4]) b2.2) (WA : WideB xs) (WB1 : WideB [b1]) (WB2 : WideB [b2]) :
    Calls Try.prog 5 #[va, .agg #[.string M1, .int .i64 k1, .string S1, .slice a1 n1 c1, .slice a2 n2 c2], .agg #[.string M2, .int .i64 k2, .string S2, .slice a3 n3 c3, .slice a4 n4 c4]] w fun e w' => e = .returned (.bool true) ∧ Below w.heap.size w w' := by
  obtain ⟨x1n, u⟩ := b1
  obtain ⟨x2n, v⟩ := b2
  simp only at hM1 hM2 hv1 hv2
  subst hM1 hM2
  obtain ⟨he1, hc1⟩ := ev_is (M := M1) hv1
  obtain ⟨he2, hc2⟩ := ev_is (M := M2) hv2
  obtain ⟨e1, q1⟩ : ∃ e1 : Ev, (⟨(M1.data.toList, u), .slice a1 n1 c1, .slice a2 n2 c2⟩ : Ev) = e1 := ⟨_, rfl⟩
  obtain ⟨e2, q2⟩ : ∃ e2 : Ev, (⟨(M2.data.toList, v), .slice a3 n3 c3, .slice a4 n4 c4⟩ : Ev) = e2 := ⟨_, rfl⟩
  rw [q1] at he1 hc1
  rw [q2] at he2 hc2
  have WB := wide_two WB1 WB2
  obtain ⟨b1, hb1⟩ : ∃ b1 : Bd, (M1.data.toList, u) = b1 := ⟨_, rfl⟩
  obtain ⟨b2, hb2⟩ : ∃ b2 : Bd, (M2.data.toList, v) = b2 := ⟨_, rfl⟩
  rw [hb1, hb2] at WB
  have He1 := hide (show e1.b = b1 by rw [← q1, ← hb1])
  have He2 := hide (show e2.b = b2 by rw [← q2, ← hb2])
  have HC1 := hide hc1
  have HC2 := hide hc2
  have HE1 := hide he1
  have HE2 := hide he2
  have HV1 := hide hv1
  have HV2 := hide hv2
  have Hb1 := hide hb1
  have Hb2 := hide hb2
  have HA0 := hide HA
  obtain ⟨aa, ac, rfl⟩ := HA.form
  have B0 := b_alloc w (.cells #[.string M1, .int .i64 k1, .string S1, .slice a1 n1 c1, .slice a2 n2 c2] 41)
  have B := B0.alloc B0.size (.cells #[.string M2, .int .i64 k2, .string S2, .slice a3 n3 c3, .slice a4 n4 c4] 41)
  have X := (Bx.made w #[.string M1, .int .i64 k1, .string S1, .slice a1 n1 c1, .slice a2 n2 c2] 41).later (.cells #[.string M2, .int .i64 k2, .string S2, .slice a3 n3 c3, .slice a4 n4 c4] 41)
  have Y : Bx ((w.alloc (.cells #[.string M1, .int .i64 k1, .string S1, .slice a1 n1 c1, .slice a2 n2 c2] 41)).alloc (.cells #[.string M2, .int .i64 k2, .string S2, .slice a3 n3 c3, .slice a4 n4 c4] 41)) (w.heap.size + 1) #[.string M2, .int .i64 k2, .string S2, .slice a3 n3 c3, .slice a4 n4 c4] 41 := by have := Bx.made (w.alloc (.cells #[.string M1, .int .i64 k1, .string S1, .slice a1 n1 c1, .slice a2 n2 c2] 41)) #[.string M2, .int .i64 k2, .string S2, .slice a3 n3 c3, .slice a4 n4 c4] 41; simpa using this
  have T1 : Hid True := trivial
  have T2 : Hid True := trivial
  clear HA he1 he2 hc1 hc2 q1 q2 hv1 hv2 hb1 hb2 B0 WB1 WB2
  cases ha : fewB xs with
  | false =>
    have Ha := hide ha
    clear ha
    go_enter Try.func5, Try.ntmps5
    go_wp2_with (first
      | (go_at_call 9; refine (awake_any _).mono ?_; rintro e w1 ⟨rfl, bb⟩; replace B := b_then B bb; replace X := X.next bb; replace Y := Y.next bb; clear bb)
      | (go_at_call 10; refine (bfew_is _ xs false _ (HA0.out.later B) WA Ha.out).mono ?_; rintro e w2 ⟨rfl, bb⟩; replace B := b_then B bb; replace X := X.next bb; replace Y := Y.next bb; clear bb))
    go_ret
    exact ⟨rfl, B⟩
  | true =>
    have Ha := hide ha
    have FA := fd_of ha
    have hxl := (fewB_of ha).1
    clear ha
    cases hb : fewB [b1, b2] with
    | false =>
      have Hb := hide hb
      clear hb
      go_enter Try.func5, Try.ntmps5
      go_wp2_with (first
        | (go_at_call 9; refine (awake_any _).mono ?_; rintro e w1 ⟨rfl, bb⟩; replace B := b_then B bb; replace X := X.next bb; replace Y := Y.next bb; clear bb)
        | (have z := T1; go_at_call 10; refine (bfew_is _ xs true _ (HA0.out.later B) WA Ha.out).mono ?_; rintro e w2 ⟨rfl, bb⟩; replace B := b_then B bb; replace X := X.next bb; replace Y := Y.next bb; obtain ⟨x0, x1, x2, x3, x4⟩ := cells5 X; obtain ⟨y0, y1, y2, y3, y4⟩ := cells5 Y; have HB : BindsAt (w2.alloc (.cells #[.string M1, .int .i64 k1, .string S1, .slice a1 n1 c1, .slice a2 n2 c2, .string M2, .int .i64 k2, .string S2, .slice a3 n3 c3, .slice a4 n4 c4] 41)) (.slice (some ⟨w2.heap.size, 0, none⟩) 2 2) [b1, b2] := ⟨[e1, e2], (by rw [← He1.out, ← He2.out]; rfl), two_binds (HE1.out.later (B.alloc B.size _)) (HE2.out.later (B.alloc B.size _)) (by rw [HC1.out, HC2.out]; rfl)⟩; replace B := B.alloc B.size (.cells #[.string M1, .int .i64 k1, .string S1, .slice a1 n1 c1, .slice a2 n2 c2, .string M2, .int .i64 k2, .string S2, .slice a3 n3 c3, .slice a4 n4 c4] 41); replace X := X.later (.cells #[.string M1, .int .i64 k1, .string S1, .slice a1 n1 c1, .slice a2 n2 c2, .string M2, .int .i64 k2, .string S2, .slice a3 n3 c3, .slice a4 n4 c4] 41); replace Y := Y.later (.cells #[.string M1, .int .i64 k1, .string S1, .slice a1 n1 c1, .slice a2 n2 c2, .string M2, .int .i64 k2, .string S2, .slice a3 n3 c3, .slice a4 n4 c4] 41); clear bb T1 z)
        | (have z := T2; go_at_call 10; refine (bfew_is _ [b1, b2] false _ HB WB Hb.out).mono ?_; rintro e w3 ⟨rfl, bb⟩; replace B := b_then B bb; replace X := X.next bb; replace Y := Y.next bb; clear bb HB T2 z))
      go_ret
      exact ⟨rfl, B⟩
    | true =>
      have Hb := hide hb
      have F1 := (fewB_of hb).2 b1 (List.mem_cons_self ..)
      have F2 := (fewB_of hb).2 b2 (List.mem_cons_of_mem _ (List.mem_cons_self ..))
      clear hb
      rw [← Hb1.out] at F1
      rw [← Hb2.out] at F2
      have FU := F1.vl
      have FV := F2.vl
      have hs1 : M1.size ≤ 200 := by rw [size_list]; exact F1.nm
      have hs2 : M2.size ≤ 200 := by rw [size_list]; exact F2.nm
      have hfu1 := FU.l
      have hfu2 := FU.p
      obtain ⟨bs, hbs⟩ : ∃ c, setB xs M1.data.toList u = c := ⟨_, rfl⟩
      obtain ⟨ws, hws⟩ : ∃ c, setB bs M1.data.toList v = c := ⟨_, rfl⟩
      obtain ⟨gs, hgs⟩ : ∃ c, setB bs M1.data.toList zeroV = c := ⟨_, rfl⟩
      obtain ⟨g5, hg5⟩ : ∃ c, getV bs M1.data.toList = c := ⟨_, rfl⟩
      obtain ⟨r5, hr5⟩ : ∃ c, isV bs M1.data.toList = c := ⟨_, rfl⟩
      obtain ⟨g6, hg6⟩ : ∃ c, getV bs M2.data.toList = c := ⟨_, rfl⟩
      obtain ⟨r6, hr6⟩ : ∃ c, isV bs M2.data.toList = c := ⟨_, rfl⟩
      obtain ⟨g7, hg7⟩ : ∃ c, getV xs M2.data.toList = c := ⟨_, rfl⟩
      obtain ⟨r7, hr7⟩ : ∃ c, isV xs M2.data.toList = c := ⟨_, rfl⟩
      obtain ⟨g0, hg0⟩ : ∃ c, getV gs M1.data.toList = c := ⟨_, rfl⟩
      have hr0 : isV gs M1.data.toList = false := by rw [← hgs, is_set, if_pos rfl]; rfl
      have hbl : bs.length ≤ 21 := by rw [← hbs]; exact Nat.le_trans (set_len1 ..) (by omega)
      have hal : ws.length ≤ 22 := by rw [← hws]; exact Nat.le_trans (set_len1 ..) (by omega)
      have hgl : gs.length ≤ 22 := by rw [← hgs]; exact Nat.le_trans (set_len1 ..) (by omega)
      have Fb : Fd bs := by rw [← hbs]; exact (set_fd FA FU F1.nm (by omega)).canon
      have Fas : Fd ws := by rw [← hws]; exact (set_fd Fb FV F1.nm (by omega)).canon
      have Fg : Fd gs := by rw [← hgs]; exact (set_fd Fb zero_few F1.nm (by omega)).canon
      have hws2 : setB xs M1.data.toList v = ws := by rw [← hws, ← hbs, set_set]
      have hcu : canonV u = g5 := by rw [← hg5, ← hbs, get_set, if_pos rfl]
      have hdu : definedV u = r5 := by rw [← hr5, ← hbs, is_set, if_pos rfl]
      have f5 : FewV g5 := by rw [← hg5]; exact get_few Fb.all _
      have f6 : FewV g6 := by rw [← hg6]; exact get_few Fb.all _
      have f7 : FewV g7 := by rw [← hg7]; exact get_few FA.all _
      have f51 := f5.l
      have f52 := f5.p
      have f61 := f6.l
      have f62 := f6.p
      have f71 := f7.l
      have f72 := f7.p
      obtain ⟨gk, hgk⟩ : ∃ k, (canonV u).kind = k := ⟨_, rfl⟩
      have hks : (r5 = false ∧ gk = 0) ∨ (r5 = true ∧ (gk = 1 ∨ gk = 2 ∨ gk = 3)) := by rw [← hgk, ← hdu]; exact kinds_of u
      obtain ⟨n, hn⟩ : ∃ n, (M1.toList == M2.toList) = n := ⟨_, rfl⟩
      have hne : n = false → M1.data.toList ≠ M2.data.toList := fun h e => by
        rw [texts_eq rfl rfl, h] at hn
        simp [e] at hn
      have hvy : n = false → g6 = g7 ∧ r6 = r7 := fun h => by
        rw [← hg6, ← hg7, ← hr6, ← hr7, ← hbs, get_set, is_set, if_neg (hne h), if_neg (hne h)]
        exact ⟨rfl, rfl⟩
      have Hbs := hide hbs
      have Hws := hide hws
      have Hgs := hide hgs
      have Hg5 := hide hg5
      have Hr5 := hide hr5
      have Hg6 := hide hg6
      have Hr6 := hide hr6
      have Hg7 := hide hg7
      have Hr7 := hide hr7
      have Hg0 := hide hg0
      have Hr0 := hide hr0
      have Hws2 := hide hws2
      have Hcu := hide hcu
      have Hgk := hide hgk
      have T3 : Hid True := trivial
      have T4 : Hid True := trivial
      have T5 : Hid True := trivial
      have T6 : Hid True := trivial
      have T7 : Hid True := trivial
      have T8 : Hid True := trivial
      have T9 : Hid True := trivial
      have U1 : Hid True := trivial
      have U2 : Hid True := trivial
      have U3 : Hid True := trivial
      have U4 : Hid True := trivial
      have hfd : ∀ (v0 v1 v2 v3 : Value) (w : World), (Instr.field 28 (.agg #[v0, v1, v2, v3]) 0).run Try.prog w = .ok v0 w := fun _ _ _ _ _ => by kernel_rfl
      clear hbs hws hgs hg5 hr5 hg6 hr6 hg7 hr7 hg0 hr0 hws2 hcu hgk hdu f5 f6 f7 F1 F2 hne
      go_enter Try.func5, Try.ntmps5
      go_wp2_with (first
        | (go_at_call 9; refine (awake_any _).mono ?_; rintro e w1 ⟨rfl, bb⟩; replace B := b_then B bb; replace X := X.next bb; replace Y := Y.next bb; clear bb)
        | (have z := T1; go_at_call 10; refine (bfew_is _ xs true _ (HA0.out.later B) WA Ha.out).mono ?_; rintro e w2 ⟨rfl, bb⟩; replace B := b_then B bb; replace X := X.next bb; replace Y := Y.next bb; obtain ⟨x0, x1, x2, x3, x4⟩ := cells5 X; obtain ⟨y0, y1, y2, y3, y4⟩ := cells5 Y; have HB : BindsAt (w2.alloc (.cells #[.string M1, .int .i64 k1, .string S1, .slice a1 n1 c1, .slice a2 n2 c2, .string M2, .int .i64 k2, .string S2, .slice a3 n3 c3, .slice a4 n4 c4] 41)) (.slice (some ⟨w2.heap.size, 0, none⟩) 2 2) [b1, b2] := ⟨[e1, e2], (by rw [← He1.out, ← He2.out]; rfl), two_binds (HE1.out.later (B.alloc B.size _)) (HE2.out.later (B.alloc B.size _)) (by rw [HC1.out, HC2.out]; rfl)⟩; replace B := B.alloc B.size (.cells #[.string M1, .int .i64 k1, .string S1, .slice a1 n1 c1, .slice a2 n2 c2, .string M2, .int .i64 k2, .string S2, .slice a3 n3 c3, .slice a4 n4 c4] 41); replace X := X.later (.cells #[.string M1, .int .i64 k1, .string S1, .slice a1 n1 c1, .slice a2 n2 c2, .string M2, .int .i64 k2, .string S2, .slice a3 n3 c3, .slice a4 n4 c4] 41); replace Y := Y.later (.cells #[.string M1, .int .i64 k1, .string S1, .slice a1 n1 c1, .slice a2 n2 c2, .string M2, .int .i64 k2, .string S2, .slice a3 n3 c3, .slice a4 n4 c4] 41); clear bb T1 z)
        | (have z := T2; go_at_call 10; refine (bfew_is _ [b1, b2] true _ HB WB Hb.out).mono ?_; rintro e w3 ⟨rfl, bb⟩; replace B := b_then B bb; replace X := X.next bb; replace Y := Y.next bb; clear bb HB T2 z; clear x0 x1 x2 x3 x4 y0 y1 y2 y3 y4; obtain ⟨x0, x1, x2, x3, x4⟩ := cells5 X; obtain ⟨y0, y1, y2, y3, y4⟩ := cells5 Y)
        | (have z := T3; go_at_call 23; refine (pbset_any _ _ xs bs M1 u _ (HA0.out.later B) (HV1.out.later B) FA FU (by omega) (by omega) Hbs.out).mono ?_; rintro e w4 ⟨s4, j4, rfl, CB, bb⟩; replace B := b_then B bb; replace X := X.next bb; replace Y := Y.next bb;  clear bb T3 z; clear x0 x1 x2 x3 x4 y0 y1 y2 y3 y4; obtain ⟨x0, x1, x2, x3, x4⟩ := cells5 X; obtain ⟨y0, y1, y2, y3, y4⟩ := cells5 Y)
        | (have z := T4; go_at_call 11; refine (pget_any _ bs M1 _ _ _ (CB) Fb Hg5.out Hr5.out).mono ?_; rintro e w5 ⟨l5, d5, p5, q5, rfl, R1, R2, bb, _, _⟩; have bA := bb.alloc bb.size (.cells #[.int .i64 g5.kind, .string ⟨g5.s.toArray⟩, .slice l5 g5.l.length d5, .slice p5 g5.p.length q5] 28); replace B := b_then B bA; replace X := X.next bA; replace Y := Y.next bA; replace CB := CB.later bA; have V5 := hide ((val_made R1 R2).later (b_alloc w5 (.cells #[.int .i64 g5.kind, .string ⟨g5.s.toArray⟩, .slice l5 g5.l.length d5, .slice p5 g5.p.length q5] 28))); have X5 := Bx.made w5 #[.int .i64 g5.kind, .string ⟨g5.s.toArray⟩, .slice l5 g5.l.length d5, .slice p5 g5.p.length q5] 28; clear R1 R2 bb bA T4 z; clear x0 x1 x2 x3 x4 y0 y1 y2 y3 y4; obtain ⟨x0, x1, x2, x3, x4⟩ := cells5 X; obtain ⟨y0, y1, y2, y3, y4⟩ := cells5 Y)
        | (have z := T5; go_at_call 11; refine (pget_any _ bs M2 _ _ _ (CB) Fb Hg6.out Hr6.out).mono ?_; rintro e w6 ⟨l6, d6, p6, q6, rfl, R1, R2, bb, _, _⟩; have bA := bb.alloc bb.size (.cells #[.int .i64 g6.kind, .string ⟨g6.s.toArray⟩, .slice l6 g6.l.length d6, .slice p6 g6.p.length q6] 28); replace B := b_then B bA; replace X := X.next bA; replace Y := Y.next bA; replace CB := CB.later bA; replace X5 := X5.next bA; replace V5 := hide (V5.out.later bA); have V6 := hide ((val_made R1 R2).later (b_alloc w6 (.cells #[.int .i64 g6.kind, .string ⟨g6.s.toArray⟩, .slice l6 g6.l.length d6, .slice p6 g6.p.length q6] 28))); have X6 := Bx.made w6 #[.int .i64 g6.kind, .string ⟨g6.s.toArray⟩, .slice l6 g6.l.length d6, .slice p6 g6.p.length q6] 28; clear R1 R2 bb bA T5 z; clear x0 x1 x2 x3 x4 y0 y1 y2 y3 y4; obtain ⟨x0, x1, x2, x3, x4⟩ := cells5 X; obtain ⟨y0, y1, y2, y3, y4⟩ := cells5 Y)
        | (have z := T6; go_at_call 11; refine (pget_any _ xs M2 _ _ _ (HA0.out.later B) FA Hg7.out Hr7.out).mono ?_; rintro e w7 ⟨l7, d7, p7, q7, rfl, R1, R2, bb, _, _⟩; have bA := bb.alloc bb.size (.cells #[.int .i64 g7.kind, .string ⟨g7.s.toArray⟩, .slice l7 g7.l.length d7, .slice p7 g7.p.length q7] 28); replace B := b_then B bA; replace X := X.next bA; replace Y := Y.next bA; replace CB := CB.later bA; replace X5 := X5.next bA; replace V5 := hide (V5.out.later bA); replace X6 := X6.next bA; replace V6 := hide (V6.out.later bA); have V7 := hide ((val_made R1 R2).later (b_alloc w7 (.cells #[.int .i64 g7.kind, .string ⟨g7.s.toArray⟩, .slice l7 g7.l.length d7, .slice p7 g7.p.length q7] 28))); have X7 := Bx.made w7 #[.int .i64 g7.kind, .string ⟨g7.s.toArray⟩, .slice l7 g7.l.length d7, .slice p7 g7.p.length q7] 28; clear R1 R2 bb bA T6 z; clear x0 x1 x2 x3 x4 y0 y1 y2 y3 y4; obtain ⟨x0, x1, x2, x3, x4⟩ := cells5 X; obtain ⟨y0, y1, y2, y3, y4⟩ := cells5 Y)
        | (have z := T7; go_at_call 23; refine (pbset_any _ _ bs ws M1 v _ (CB) (HV2.out.later B) Fb FV (by omega) (by omega) Hws.out).mono ?_; rintro e w8 ⟨s8, j8, rfl, CA, bb⟩; replace B := b_then B bb; replace X := X.next bb; replace Y := Y.next bb; replace CB := CB.later bb; replace X5 := X5.next bb; replace V5 := hide (V5.out.later bb); replace X6 := X6.next bb; replace V6 := hide (V6.out.later bb); replace X7 := X7.next bb; replace V7 := hide (V7.out.later bb); clear bb T7 z; clear x0 x1 x2 x3 x4 y0 y1 y2 y3 y4; obtain ⟨x0, x1, x2, x3, x4⟩ := cells5 X; obtain ⟨y0, y1, y2, y3, y4⟩ := cells5 Y)
        | (have z := T8; go_at_call 23; refine (pbset_any _ _ bs gs M1 zeroV _ CB ⟨_, _, rfl, .inl ⟨rfl, _, _, rfl⟩, .inl ⟨rfl, _, _, rfl⟩⟩ Fb zero_few (by omega) (by omega) Hgs.out).mono ?_; rintro e w9 ⟨s9, j9, rfl, CG, bb⟩; replace B := b_then B bb; replace X := X.next bb; replace Y := Y.next bb; replace CA := CA.later bb; replace X5 := X5.next bb; replace V5 := hide (V5.out.later bb); replace X6 := X6.next bb; replace V6 := hide (V6.out.later bb); replace X7 := X7.next bb; replace V7 := hide (V7.out.later bb); clear bb T8 z; clear x0 x1 x2 x3 x4 y0 y1 y2 y3 y4; obtain ⟨x0, x1, x2, x3, x4⟩ := cells5 X; obtain ⟨y0, y1, y2, y3, y4⟩ := cells5 Y)
        | (have z := T9; go_at_call 11; refine (pget_any _ gs M1 g0 false _ CG Fg Hg0.out Hr0.out).mono ?_; rintro e w10 ⟨l0, d0, p0, q0, rfl, R1, R2, bb, _, _⟩; have bA := bb.alloc bb.size (.cells #[.int .i64 g0.kind, .string ⟨g0.s.toArray⟩, .slice l0 g0.l.length d0, .slice p0 g0.p.length q0] 28); replace B := b_then B bA; replace X := X.next bA; replace Y := Y.next bA; replace CA := CA.later bA; replace X5 := X5.next bA; replace V5 := hide (V5.out.later bA); replace X6 := X6.next bA; replace V6 := hide (V6.out.later bA); replace X7 := X7.next bA; replace V7 := hide (V7.out.later bA); clear R1 R2 bb bA T9 z; clear x0 x1 x2 x3 x4 y0 y1 y2 y3 y4))
      have K : Td _ w.heap.size (w.heap.size + 1) w5.heap.size w6.heap.size w7.heap.size (.string M1) (.int .i64 k1) (.string S1) (.slice a1 n1 c1) (.slice a2 n2 c2) (.string M2) (.int .i64 k2) (.string S2) (.slice a3 n3 c3) (.slice a4 n4 c4) (.int .i64 g5.kind) (.string ⟨g5.s.toArray⟩) (.slice l5 g5.l.length d5) (.slice p5 g5.p.length q5) (.int .i64 g6.kind) (.string ⟨g6.s.toArray⟩) (.slice l6 g6.l.length d6) (.slice p6 g6.p.length q6) (.int .i64 g7.kind) (.string ⟨g7.s.toArray⟩) (.slice l7 g7.l.length d7) (.slice p7 g7.p.length q7) := ⟨X, Y, X5, X6, X7⟩
      clear X Y X5 X6 X7
      generalize w10.alloc (.cells #[.int .i64 g0.kind, .string ⟨g0.s.toArray⟩, .slice l0 g0.l.length d0, .slice p0 g0.p.length q0] 28) = W3 at *
      obtain ⟨z0, z1, z2, z3, z4, z5, z6, z7, z8, z9, z10, z11, z12, z13, z14, z15, z16, z17, z18, z19, z20, z21⟩ := K.all
      have K0 := K
      replace K := K.drew
      replace B := B.drew
      replace CA := CA.later (b_drew W3)
      replace V5 := hide V5.out.drew
      replace V6 := hide V6.out.drew
      replace V7 := hide V7.out.drew
      cases n with
      | true =>
        have hMM : M1 = M2 := same_array (by rw [← Lib.toList_data, ← Lib.toList_data]; exact eq_of_beq hn)
        clear hvy hn
        subst hMM
        rcases hks with ⟨e1, e2⟩ | ⟨e1, e2 | e2 | e2⟩ <;> subst e1 e2
        all_goals
          refine wp_region_held_drew (S := fun W => W.cell? ⟨w.heap.size, 0, none⟩ = some (.string M1) ∧ W.cell? ⟨w.heap.size, 1, none⟩ = some (.int .i64 k1) ∧ W.cell? ⟨w.heap.size, 2, none⟩ = some (.string S1) ∧ W.cell? ⟨w.heap.size, 3, none⟩ = some (.slice a1 n1 c1) ∧ W.cell? ⟨w.heap.size, 4, none⟩ = some (.slice a2 n2 c2) ∧ W.cell? ⟨w.heap.size + 1, 0, none⟩ = some (.string M1) ∧ W.cell? ⟨w.heap.size + 1, 1, none⟩ = some (.int .i64 k2) ∧ W.cell? ⟨w.heap.size + 1, 2, none⟩ = some (.string S2) ∧ W.cell? ⟨w.heap.size + 1, 3, none⟩ = some (.slice a3 n3 c3) ∧ W.cell? ⟨w.heap.size + 1, 4, none⟩ = some (.slice a4 n4 c4) ∧ W.cell? ⟨w5.heap.size, 0, none⟩ = some (.int .i64 g5.kind) ∧ W.cell? ⟨w5.heap.size, 1, none⟩ = some (.string ⟨g5.s.toArray⟩) ∧ W.cell? ⟨w5.heap.size, 2, none⟩ = some (.slice l5 g5.l.length d5) ∧ W.cell? ⟨w5.heap.size, 3, none⟩ = some (.slice p5 g5.p.length q5) ∧ W.cell? ⟨w6.heap.size, 0, none⟩ = some (.int .i64 g6.kind) ∧ W.cell? ⟨w6.heap.size, 1, none⟩ = some (.string ⟨g6.s.toArray⟩) ∧ W.cell? ⟨w6.heap.size, 2, none⟩ = some (.slice l6 g6.l.length d6) ∧ W.cell? ⟨w6.heap.size, 3, none⟩ = some (.slice p6 g6.p.length q6) ∧ W.cell? ⟨w7.heap.size, 0, none⟩ = some (.int .i64 g7.kind) ∧ W.cell? ⟨w7.heap.size, 1, none⟩ = some (.string ⟨g7.s.toArray⟩) ∧ W.cell? ⟨w7.heap.size, 2, none⟩ = some (.slice l7 g7.l.length d7) ∧ W.cell? ⟨w7.heap.size, 3, none⟩ = some (.slice p7 g7.p.length q7)) (by kernel_rfl) (by with_reducible exact K.all) (fun hHeld => ?_)
          refine wpAnyH_take (i := 0) (oi := ⟨_, _, _, _, _, _⟩) (v := ?_) rfl (by kernel_rfl) (by kernel_rfl) (by kernel_rfl) (fun _ _ _ h => h) (Or.inl ⟨by rfl, ?_⟩) hHeld ?_
          rotate_left
          · intro w hSw; (try dsimp only at hSw); go_simp; try with_reducible rfl
          try simp only [Act.put, List.setIfInBounds_toArray, List.set_cons_zero, List.set_cons_succ]
          refine wpAnyH_take (i := 1) (oi := ⟨_, _, _, _, _, _⟩) (v := ?_) rfl (by kernel_rfl) (by kernel_rfl) (by kernel_rfl) (fun _ _ _ h => h) (Or.inl ⟨by rfl, ?_⟩) hHeld ?_
          rotate_left
          · intro w hSw; (try dsimp only at hSw); go_simp; try with_reducible rfl
          try simp only [Act.put, List.setIfInBounds_toArray, List.set_cons_zero, List.set_cons_succ]
          refine wpAnyH_take (i := 2) (oi := ⟨_, _, _, _, _, _⟩) (v := ?_) rfl (by kernel_rfl) (by kernel_rfl) (by kernel_rfl) (fun _ _ _ h => h) (Or.inl ⟨by rfl, ?_⟩) hHeld ?_
          rotate_left
          · intro w hSw; (try dsimp only at hSw); go_simp; try with_reducible rfl
          try simp only [Act.put, List.setIfInBounds_toArray, List.set_cons_zero, List.set_cons_succ]
          refine wpAnyH_take (i := 3) (oi := ⟨_, _, _, _, _, _⟩) (v := ?_) rfl (by kernel_rfl) (by kernel_rfl) (by kernel_rfl) (fun _ _ _ h => h) (Or.inl ⟨by rfl, ?_⟩) hHeld ?_
          rotate_left
          · intro w hSw; (try dsimp only at hSw); go_simp; try with_reducible rfl
          try simp only [Act.put, List.setIfInBounds_toArray, List.set_cons_zero, List.set_cons_succ]
          refine wpAnyH_take (i := 4) (oi := ⟨_, _, _, _, _, _⟩) (v := ?_) rfl (by kernel_rfl) (by kernel_rfl) (by kernel_rfl) (fun _ _ _ h => h) (Or.inl ⟨by rfl, ?_⟩) hHeld ?_
          rotate_left
          · intro w hSw; (try dsimp only at hSw); go_simp; try with_reducible rfl
          try simp only [Act.put, List.setIfInBounds_toArray, List.set_cons_zero, List.set_cons_succ]
          refine wpAnyH_ready (rs := [5]) (by kernel_rfl) (by simp) ?_
          refine AllReadyH.cons (o := ⟨_, _, _, _, _, _⟩) rfl (fun K' hK' => ?_) AllReadyH.nil
          go_simp
          (have z := U1; go_at_call 25; refine (rcanon_c _ u g5 _ (HV1.out.later B) (by omega) (by omega) Hcu.out).mono ?_; rintro e w11 ⟨l1, d1, p1, q1, rfl, R1, R2, bb, _⟩; replace B := b_then B bb; replace K := K.next bb; replace CA := CA.later bb; replace V5 := hide (V5.out.later bb); replace V6 := hide (V6.out.later bb); replace V7 := hide (V7.out.later bb); have VC := hide (val_made R1 R2); clear R1 R2 bb U1 z)
          clear hHeld
          first | refine hK'.out _ _ ?_ (fun hHeld => ?_) | (go_wp2_with fail; refine hK'.out _ _ ?_ (fun hHeld => ?_))
          · with_reducible exact K.all
          clear hK' K'
          try simp only [Act.put, List.setIfInBounds_toArray, List.set_cons_zero, List.set_cons_succ]
          refine wpAnyH_ready (rs := [6]) (by kernel_rfl) (by simp) ?_
          refine AllReadyH.cons (o := ⟨_, _, _, _, _, _⟩) rfl (fun K' hK' => ?_) AllReadyH.nil
          go_simp
          (have z := U2; go_at_call 13; refine (rvery_any _ _ g5 g5 true _ V5.out VC.out (by omega) (by omega) (by omega) (very_self g5)).mono ?_; rintro e w12 ⟨rfl, bb⟩; replace B := b_then B bb; replace K := K.next bb; replace CA := CA.later bb; replace V6 := hide (V6.out.later bb); replace V7 := hide (V7.out.later bb); clear bb VC V5 U2 z)
          clear hHeld
          first | refine hK'.out _ _ ?_ (fun hHeld => ?_) | (go_wp2_with fail; refine hK'.out _ _ ?_ (fun hHeld => ?_))
          · with_reducible exact K.all
          clear hK' K'
          try simp only [Act.put, List.setIfInBounds_toArray, List.set_cons_zero, List.set_cons_succ]
          refine wpAnyH_take (i := 7) (oi := ⟨_, _, _, _, _, _⟩) (v := ?_) rfl (by kernel_rfl) (by kernel_rfl) (by kernel_rfl) (fun _ _ _ h => h) (Or.inl ⟨by rfl, ?_⟩) hHeld ?_
          rotate_left
          · intro w hSw; (try dsimp only at hSw); go_simp; try with_reducible rfl
          try simp only [Act.put, List.setIfInBounds_toArray, List.set_cons_zero, List.set_cons_succ]
          refine wpAnyH_take (i := 8) (oi := ⟨_, _, _, _, _, _⟩) (v := ?_) rfl (by kernel_rfl) (by kernel_rfl) (by kernel_rfl) (fun _ _ _ h => h) (Or.inl ⟨by rfl, ?_⟩) hHeld ?_
          rotate_left
          · intro w hSw; (try dsimp only at hSw); go_simp; try with_reducible rfl
          try simp only [Act.put, List.setIfInBounds_toArray, List.set_cons_zero, List.set_cons_succ]
          refine wpAnyH_take (i := 9) (oi := ⟨_, _, _, _, _, _⟩) (v := ?_) rfl (by kernel_rfl) (by kernel_rfl) (by kernel_rfl) (fun _ _ _ h => h) (Or.inl ⟨by rfl, ?_⟩) hHeld ?_
          rotate_left
          · intro w hSw; (try dsimp only at hSw); go_simp; try with_reducible rfl
          try simp only [Act.put, List.setIfInBounds_toArray, List.set_cons_zero, List.set_cons_succ]
          refine wpAnyH_take (i := 10) (oi := ⟨_, _, _, _, _, _⟩) (v := ?_) rfl (by kernel_rfl) (by kernel_rfl) (by kernel_rfl) (fun _ _ _ h => h) (Or.inl ⟨by rfl, ?_⟩) hHeld ?_
          rotate_left
          · intro w hSw; (try dsimp only at hSw); go_simp; try with_reducible rfl
          try simp only [Act.put, List.setIfInBounds_toArray, List.set_cons_zero, List.set_cons_succ]
          refine wpAnyH_take (i := 11) (oi := ⟨_, _, _, _, _, _⟩) (v := ?_) rfl (by kernel_rfl) (by kernel_rfl) (by kernel_rfl) (fun _ _ _ h => h) (Or.inl ⟨by rfl, ?_⟩) hHeld ?_
          rotate_left
          · intro w hSw; (try dsimp only at hSw); go_simp; try with_reducible rfl
          try simp only [Act.put, List.setIfInBounds_toArray, List.set_cons_zero, List.set_cons_succ]
          refine wpAnyH_ready (rs := [12]) (by kernel_rfl) (by simp) ?_
          refine AllReadyH.cons (o := ⟨_, _, _, _, _, _⟩) rfl (fun K' hK' => ?_) AllReadyH.nil
          go_simp
          (have z := U3; go_at_call 25; refine (rcanon_q _ u _ _ (HV1.out.later B) (by omega) (by omega) Hgk.out).mono ?_; rintro e w13 ⟨t1, t2, t3, t4, t5, t6, t7, rfl, bb⟩; replace B := b_then B bb; replace K := K.next bb; replace CA := CA.later bb; replace V6 := hide (V6.out.later bb); replace V7 := hide (V7.out.later bb); clear bb U3 z)
          clear hHeld
          first | refine hK'.out _ _ ?_ (fun hHeld => ?_) | (go_wp2_with fail; refine hK'.out _ _ ?_ (fun hHeld => ?_))
          · with_reducible exact K.all
          clear hK' K'
          try simp only [Act.put, List.setIfInBounds_toArray, List.set_cons_zero, List.set_cons_succ]
          refine wpAnyH_take (i := 13) (oi := ⟨_, _, _, _, _, _⟩) (v := ?_) rfl (by kernel_rfl) (by kernel_rfl) (by kernel_rfl) (fun _ _ _ h => h) (Or.inl ⟨by rfl, ?_⟩) hHeld ?_
          rotate_left
          · intro w hSw; (try dsimp only at hSw); go_simp; try with_reducible rfl
          try simp only [Act.put, List.setIfInBounds_toArray, List.set_cons_zero, List.set_cons_succ]
          refine wpAnyH_take (i := 14) (oi := ⟨_, _, _, _, _, _⟩) (v := ?_) rfl (by kernel_rfl) (by kernel_rfl) (by kernel_rfl) (fun _ _ _ h => h) (Or.inl ⟨by rfl, ?_⟩) hHeld ?_
          rotate_left
          · intro w hSw; (try dsimp only at hSw); go_simp; try with_reducible rfl
          try simp only [Act.put, List.setIfInBounds_toArray, List.set_cons_zero, List.set_cons_succ]
          refine wpAnyH_take (i := 15) (oi := ⟨_, _, _, _, _, _⟩) (v := ?_) rfl (by kernel_rfl) (by kernel_rfl) (by kernel_rfl) (fun _ _ _ h => h) (Or.inl ⟨by rfl, ?_⟩) hHeld ?_
          rotate_left
          · intro w hSw; (try dsimp only at hSw); go_simp; try with_reducible rfl
          try simp only [Act.put, List.setIfInBounds_toArray, List.set_cons_zero, List.set_cons_succ]
          refine wpAnyH_take (i := 16) (oi := ⟨_, _, _, _, _, _⟩) (v := ?_) rfl (by kernel_rfl) (by kernel_rfl) (by kernel_rfl) (fun _ _ _ h => h) (Or.inl ⟨by rfl, ?_⟩) hHeld ?_
          rotate_left
          · intro w hSw; (try dsimp only at hSw); go_simp; try with_reducible rfl
          try simp only [Act.put, List.setIfInBounds_toArray, List.set_cons_zero, List.set_cons_succ]
          refine wpAnyH_take (i := 17) (oi := ⟨_, _, _, _, _, _⟩) (v := ?_) rfl (by kernel_rfl) (by kernel_rfl) (by kernel_rfl) (fun _ _ _ h => h) (Or.inl ⟨by rfl, ?_⟩) hHeld ?_
          rotate_left
          · intro w hSw; (try dsimp only at hSw); go_simp; try with_reducible rfl
          try simp only [Act.put, List.setIfInBounds_toArray, List.set_cons_zero, List.set_cons_succ]
          refine wpAnyH_take (i := 18) (oi := ⟨_, _, _, _, _, _⟩) (v := ?_) rfl (by kernel_rfl) (by kernel_rfl) (by kernel_rfl) (fun _ _ _ h => h) (Or.inl ⟨by rfl, ?_⟩) hHeld ?_
          rotate_left
          · intro w hSw; (try dsimp only at hSw); go_simp; try with_reducible rfl
          try simp only [Act.put, List.setIfInBounds_toArray, List.set_cons_zero, List.set_cons_succ]
          refine wpAnyH_take (i := 19) (oi := ⟨_, _, _, _, _, _⟩) (v := ?_) rfl (by kernel_rfl) (by kernel_rfl) (by kernel_rfl) (fun _ _ _ h => h) (Or.inl ⟨by rfl, ?_⟩) hHeld ?_
          rotate_left
          · intro w hSw; (try dsimp only at hSw); go_simp; try with_reducible rfl
          try simp only [Act.put, List.setIfInBounds_toArray, List.set_cons_zero, List.set_cons_succ]
          refine wpAnyH_take (i := 20) (oi := ⟨_, _, _, _, _, _⟩) (v := ?_) rfl (by kernel_rfl) (by kernel_rfl) (by kernel_rfl) (fun _ _ _ h => h) (Or.inl ⟨by rfl, ?_⟩) hHeld ?_
          rotate_left
          · intro w hSw; (try dsimp only at hSw); go_simp; try with_reducible rfl
          try simp only [Act.put, List.setIfInBounds_toArray, List.set_cons_zero, List.set_cons_succ]
          refine wpAnyH_take (i := 21) (oi := ⟨_, _, _, _, _, _⟩) (v := ?_) rfl (by kernel_rfl) (by kernel_rfl) (by kernel_rfl) (fun _ _ _ h => h) (Or.inl ⟨by rfl, ?_⟩) hHeld ?_
          rotate_left
          · intro w hSw; (try dsimp only at hSw); go_simp; try with_reducible rfl
          try simp only [Act.put, List.setIfInBounds_toArray, List.set_cons_zero, List.set_cons_succ]
          refine wpAnyH_take (i := 22) (oi := ⟨_, _, _, _, _, _⟩) (v := ?_) rfl (by kernel_rfl) (by kernel_rfl) (by kernel_rfl) (fun _ _ _ h => h) (Or.inl ⟨by rfl, ?_⟩) hHeld ?_
          rotate_left
          · intro w hSw; (try dsimp only at hSw); go_simp; try with_reducible rfl
          try simp only [Act.put, List.setIfInBounds_toArray, List.set_cons_zero, List.set_cons_succ]
          refine wpAnyH_take (i := 23) (oi := ⟨_, _, _, _, _, _⟩) (v := ?_) rfl (by kernel_rfl) (by kernel_rfl) (by kernel_rfl) (fun _ _ _ h => h) (Or.inl ⟨by rfl, ?_⟩) hHeld ?_
          rotate_left
          · intro w hSw; (try dsimp only at hSw); go_simp; try with_reducible rfl
          try simp only [Act.put, List.setIfInBounds_toArray, List.set_cons_zero, List.set_cons_succ]
          refine wpAnyH_take (i := 24) (oi := ⟨_, _, _, _, _, _⟩) (v := undef) rfl (by kernel_rfl) (by kernel_rfl) (by kernel_rfl) (fun _ _ _ h => h) (Or.inr ⟨by rfl, rfl⟩) hHeld ?_
          try simp only [Act.put, List.setIfInBounds_toArray, List.set_cons_zero, List.set_cons_succ]
          refine wpAnyH_take (i := 25) (oi := ⟨_, _, _, _, _, _⟩) (v := undef) rfl (by kernel_rfl) (by kernel_rfl) (by kernel_rfl) (fun _ _ _ h => h) (Or.inr ⟨by rfl, rfl⟩) hHeld ?_
          try simp only [Act.put, List.setIfInBounds_toArray, List.set_cons_zero, List.set_cons_succ]
          refine wpAnyH_take (i := 26) (oi := ⟨_, _, _, _, _, _⟩) (v := undef) rfl (by kernel_rfl) (by kernel_rfl) (by kernel_rfl) (fun _ _ _ h => h) (Or.inr ⟨by rfl, rfl⟩) hHeld ?_
          try simp only [Act.put, List.setIfInBounds_toArray, List.set_cons_zero, List.set_cons_succ]
          refine wpAnyH_take (i := 27) (oi := ⟨_, _, _, _, _, _⟩) (v := undef) rfl (by kernel_rfl) (by kernel_rfl) (by kernel_rfl) (fun _ _ _ h => h) (Or.inr ⟨by rfl, rfl⟩) hHeld ?_
          try simp only [Act.put, List.setIfInBounds_toArray, List.set_cons_zero, List.set_cons_succ]
          refine wpAnyH_take (i := 28) (oi := ⟨_, _, _, _, _, _⟩) (v := undef) rfl (by kernel_rfl) (by kernel_rfl) (by kernel_rfl) (fun _ _ _ h => h) (Or.inr ⟨by rfl, rfl⟩) hHeld ?_
          try simp only [Act.put, List.setIfInBounds_toArray, List.set_cons_zero, List.set_cons_succ]
          refine wpAnyH_take (i := 29) (oi := ⟨_, _, _, _, _, _⟩) (v := undef) rfl (by kernel_rfl) (by kernel_rfl) (by kernel_rfl) (fun _ _ _ h => h) (Or.inr ⟨by rfl, rfl⟩) hHeld ?_
          try simp only [Act.put, List.setIfInBounds_toArray, List.set_cons_zero, List.set_cons_succ]
          refine wpAnyH_ready (rs := [30]) (by kernel_rfl) (by simp) ?_
          refine AllReadyH.cons (o := ⟨_, _, _, _, _, _⟩) rfl (fun K' hK' => ?_) AllReadyH.nil
          go_simp
          refine hK'.out _ _ hHeld (fun _ => ?_)
          clear hK' K'
          try simp only [Act.put, List.setIfInBounds_toArray, List.set_cons_zero, List.set_cons_succ]
          refine wpAnyH_take (i := 31) (oi := ⟨_, _, _, _, _, _⟩) (v := undef) rfl (by kernel_rfl) (by kernel_rfl) (by kernel_rfl) (fun _ _ _ h => h) (Or.inr ⟨by rfl, rfl⟩) hHeld ?_
          try simp only [Act.put, List.setIfInBounds_toArray, List.set_cons_zero, List.set_cons_succ]
          refine wpAnyH_take (i := 32) (oi := ⟨_, _, _, _, _, _⟩) (v := ?_) rfl (by kernel_rfl) (by kernel_rfl) (by kernel_rfl) (fun _ _ _ h => h) (Or.inl ⟨by rfl, ?_⟩) hHeld ?_
          rotate_left
          · intro w hSw; (try dsimp only at hSw); go_simp; try with_reducible rfl
          try simp only [Act.put, List.setIfInBounds_toArray, List.set_cons_zero, List.set_cons_succ]
          refine wpAnyH_take (i := 33) (oi := ⟨_, _, _, _, _, _⟩) (v := ?_) rfl (by kernel_rfl) (by kernel_rfl) (by kernel_rfl) (fun _ _ _ h => h) (Or.inl ⟨by rfl, ?_⟩) hHeld ?_
          rotate_left
          · intro w hSw; (try dsimp only at hSw); go_simp; try with_reducible rfl
          try simp only [Act.put, List.setIfInBounds_toArray, List.set_cons_zero, List.set_cons_succ]
          refine wpAnyH_take (i := 34) (oi := ⟨_, _, _, _, _, _⟩) (v := ?_) rfl (by kernel_rfl) (by kernel_rfl) (by kernel_rfl) (fun _ _ _ h => h) (Or.inl ⟨by rfl, ?_⟩) hHeld ?_
          rotate_left
          · intro w hSw; (try dsimp only at hSw); go_simp; try with_reducible rfl
          try simp only [Act.put, List.setIfInBounds_toArray, List.set_cons_zero, List.set_cons_succ]
          refine wpAnyH_take (i := 35) (oi := ⟨_, _, _, _, _, _⟩) (v := ?_) rfl (by kernel_rfl) (by kernel_rfl) (by kernel_rfl) (fun _ _ _ h => h) (Or.inl ⟨by rfl, ?_⟩) hHeld ?_
          rotate_left
          · intro w hSw; (try dsimp only at hSw); go_simp; try with_reducible rfl
          try simp only [Act.put, List.setIfInBounds_toArray, List.set_cons_zero, List.set_cons_succ]
          refine wpAnyH_take (i := 36) (oi := ⟨_, _, _, _, _, _⟩) (v := ?_) rfl (by kernel_rfl) (by kernel_rfl) (by kernel_rfl) (fun _ _ _ h => h) (Or.inl ⟨by rfl, ?_⟩) hHeld ?_
          rotate_left
          · intro w hSw; (try dsimp only at hSw); go_simp; try with_reducible rfl
          try simp only [Act.put, List.setIfInBounds_toArray, List.set_cons_zero, List.set_cons_succ]
          refine wpAnyH_take (i := 37) (oi := ⟨_, _, _, _, _, _⟩) (v := ?_) rfl (by kernel_rfl) (by kernel_rfl) (by kernel_rfl) (fun _ _ _ h => h) (Or.inl ⟨by rfl, ?_⟩) hHeld ?_
          rotate_left
          · intro w hSw; (try dsimp only at hSw); go_simp; try with_reducible rfl
          try simp only [Act.put, List.setIfInBounds_toArray, List.set_cons_zero, List.set_cons_succ]
          refine wpAnyH_take (i := 38) (oi := ⟨_, _, _, _, _, _⟩) (v := ?_) rfl (by kernel_rfl) (by kernel_rfl) (by kernel_rfl) (fun _ _ _ h => h) (Or.inl ⟨by rfl, ?_⟩) hHeld ?_
          rotate_left
          · intro w hSw; (try dsimp only at hSw); go_simp; try with_reducible rfl
          try simp only [Act.put, List.setIfInBounds_toArray, List.set_cons_zero, List.set_cons_succ]
          refine wpAnyH_take (i := 39) (oi := ⟨_, _, _, _, _, _⟩) (v := ?_) rfl (by kernel_rfl) (by kernel_rfl) (by kernel_rfl) (fun _ _ _ h => h) (Or.inl ⟨by rfl, ?_⟩) hHeld ?_
          rotate_left
          · intro w hSw; (try dsimp only at hSw); go_simp; try with_reducible rfl
          try simp only [Act.put, List.setIfInBounds_toArray, List.set_cons_zero, List.set_cons_succ]
          refine wpAnyH_take (i := 40) (oi := ⟨_, _, _, _, _, _⟩) (v := ?_) rfl (by kernel_rfl) (by kernel_rfl) (by kernel_rfl) (fun _ _ _ h => h) (Or.inl ⟨by rfl, ?_⟩) hHeld ?_
          rotate_left
          · intro w hSw; (try dsimp only at hSw); go_simp; try with_reducible rfl
          try simp only [Act.put, List.setIfInBounds_toArray, List.set_cons_zero, List.set_cons_succ]
          refine wpAnyH_ready (rs := [41]) (by kernel_rfl) (by simp) ?_
          refine AllReadyH.cons (o := ⟨_, _, _, _, _, _⟩) rfl (fun K' hK' => ?_) AllReadyH.nil
          go_simp
          (go_at_call 23; refine (pbset_any _ _ xs ws M1 v _ (HA0.out.later B) (HV2.out.later B) FA FV (by omega) (by omega) Hws2.out).mono ?_; rintro e w15 ⟨s15, j15, rfl, CD, bb⟩; replace B := b_then B bb; replace K := K.next bb; replace CA := CA.later bb; clear bb)
          clear hHeld
          first | refine hK'.out _ _ ?_ (fun hHeld => ?_) | (go_wp2_with fail; refine hK'.out _ _ ?_ (fun hHeld => ?_))
          · with_reducible exact K.all
          clear hK' K'
          try simp only [Act.put, List.setIfInBounds_toArray, List.set_cons_zero, List.set_cons_succ]
          refine wpAnyH_ready (rs := [42]) (by kernel_rfl) (by simp) ?_
          refine AllReadyH.cons (o := ⟨_, _, _, _, _, _⟩) rfl (fun K' hK' => ?_) AllReadyH.nil
          go_simp
          (go_at_call 17; refine (bvery_any _ _ ws ws true _ CA CD Fas Fas (veryB_self _)).mono ?_; rintro e w16 ⟨rfl, bb⟩; replace B := b_then B bb; replace K := K.next bb; clear bb)
          clear hHeld
          first | refine hK'.out _ _ ?_ (fun hHeld => ?_) | (go_wp2_with fail; refine hK'.out _ _ ?_ (fun hHeld => ?_))
          · with_reducible exact K.all
          clear hK' K'
          try simp only [Act.put, List.setIfInBounds_toArray, List.set_cons_zero, List.set_cons_succ]
          refine wpAnyH_take (i := 43) (oi := ⟨_, _, _, _, _, _⟩) (v := ?_) rfl (by kernel_rfl) (by kernel_rfl) (by kernel_rfl) (fun _ _ _ h => h) (Or.inl ⟨by rfl, ?_⟩) hHeld ?_
          rotate_left
          · intro w hSw; (try dsimp only at hSw); go_simp; try with_reducible rfl
          try simp only [Act.put, List.setIfInBounds_toArray, List.set_cons_zero, List.set_cons_succ]
          refine wpAnyH_take (i := 44) (oi := ⟨_, _, _, _, _, _⟩) (v := ?_) rfl (by kernel_rfl) (by kernel_rfl) (by kernel_rfl) (fun _ _ _ h => h) (Or.inl ⟨by rfl, ?_⟩) hHeld ?_
          rotate_left
          · intro w hSw; (try dsimp only at hSw); go_simp; try with_reducible rfl
          try simp only [Act.put, List.setIfInBounds_toArray, List.set_cons_zero, List.set_cons_succ]
          refine wpAnyH_take (i := 45) (oi := ⟨_, _, _, _, _, _⟩) (v := ?_) rfl (by kernel_rfl) (by kernel_rfl) (by kernel_rfl) (fun _ _ _ h => h) (Or.inl ⟨by rfl, ?_⟩) hHeld ?_
          rotate_left
          · intro w hSw; (try dsimp only at hSw); go_simp; try with_reducible rfl
          try simp only [Act.put, List.setIfInBounds_toArray, List.set_cons_zero, List.set_cons_succ]
          refine wpAnyH_take (i := 46) (oi := ⟨_, _, _, _, _, _⟩) (v := ?_) rfl (by kernel_rfl) (by kernel_rfl) (by kernel_rfl) (fun _ _ _ h => h) (Or.inl ⟨by rfl, ?_⟩) hHeld ?_
          rotate_left
          · intro w hSw; (try dsimp only at hSw); go_simp; try with_reducible rfl
          try simp only [Act.put, List.setIfInBounds_toArray, List.set_cons_zero, List.set_cons_succ]
          refine wpAnyH_take (i := 47) (oi := ⟨_, _, _, _, _, _⟩) (v := ?_) rfl (by kernel_rfl) (by kernel_rfl) (by kernel_rfl) (fun _ _ _ h => h) (Or.inl ⟨by rfl, ?_⟩) hHeld ?_
          rotate_left
          · intro w hSw; (try dsimp only at hSw); go_simp; try with_reducible rfl
          try simp only [Act.put, List.setIfInBounds_toArray, List.set_cons_zero, List.set_cons_succ]
          refine wpAnyH_take (i := 48) (oi := ⟨_, _, _, _, _, _⟩) (v := ?_) rfl (by kernel_rfl) (by kernel_rfl) (by kernel_rfl) (fun _ _ _ h => h) (Or.inl ⟨by rfl, ?_⟩) hHeld ?_
          rotate_left
          · intro w hSw; (try dsimp only at hSw); go_simp; try with_reducible rfl
          try simp only [Act.put, List.setIfInBounds_toArray, List.set_cons_zero, List.set_cons_succ]
          refine wpAnyH_done (by kernel_rfl) ?_ _
          go_wp2
          go_ret
          exact ⟨rfl, B⟩
      | false =>
        obtain ⟨hg, hr⟩ := hvy rfl
        subst hr
        have Hvy := hide (show veryV g6 g7 = true by rw [hg]; exact very_self g7)
        clear hvy hg
        rcases hks with ⟨e1, e2⟩ | ⟨e1, e2 | e2 | e2⟩ <;> subst e1 e2
        all_goals
          go_region_held3 (fun W => W.cell? ⟨w.heap.size, 0, none⟩ = some (.string M1) ∧ W.cell? ⟨w.heap.size, 1, none⟩ = some (.int .i64 k1) ∧ W.cell? ⟨w.heap.size, 2, none⟩ = some (.string S1) ∧ W.cell? ⟨w.heap.size, 3, none⟩ = some (.slice a1 n1 c1) ∧ W.cell? ⟨w.heap.size, 4, none⟩ = some (.slice a2 n2 c2) ∧ W.cell? ⟨w.heap.size + 1, 0, none⟩ = some (.string M2) ∧ W.cell? ⟨w.heap.size + 1, 1, none⟩ = some (.int .i64 k2) ∧ W.cell? ⟨w.heap.size + 1, 2, none⟩ = some (.string S2) ∧ W.cell? ⟨w.heap.size + 1, 3, none⟩ = some (.slice a3 n3 c3) ∧ W.cell? ⟨w.heap.size + 1, 4, none⟩ = some (.slice a4 n4 c4) ∧ W.cell? ⟨w5.heap.size, 0, none⟩ = some (.int .i64 g5.kind) ∧ W.cell? ⟨w5.heap.size, 1, none⟩ = some (.string ⟨g5.s.toArray⟩) ∧ W.cell? ⟨w5.heap.size, 2, none⟩ = some (.slice l5 g5.l.length d5) ∧ W.cell? ⟨w5.heap.size, 3, none⟩ = some (.slice p5 g5.p.length q5) ∧ W.cell? ⟨w6.heap.size, 0, none⟩ = some (.int .i64 g6.kind) ∧ W.cell? ⟨w6.heap.size, 1, none⟩ = some (.string ⟨g6.s.toArray⟩) ∧ W.cell? ⟨w6.heap.size, 2, none⟩ = some (.slice l6 g6.l.length d6) ∧ W.cell? ⟨w6.heap.size, 3, none⟩ = some (.slice p6 g6.p.length q6) ∧ W.cell? ⟨w7.heap.size, 0, none⟩ = some (.int .i64 g7.kind) ∧ W.cell? ⟨w7.heap.size, 1, none⟩ = some (.string ⟨g7.s.toArray⟩) ∧ W.cell? ⟨w7.heap.size, 2, none⟩ = some (.slice l7 g7.l.length d7) ∧ W.cell? ⟨w7.heap.size, 3, none⟩ = some (.slice p7 g7.p.length q7)) (first | with_reducible exact K.all | with_reducible exact K0.all | with_reducible exact K.drew.all)
            (first
            | (have z := U1; go_at_call 25; refine (rcanon_c _ u g5 _ (HV1.out.later B) (by omega) (by omega) Hcu.out).mono ?_; rintro e w11 ⟨l1, d1, p1, q1, rfl, R1, R2, bb, _⟩; replace B := b_then B bb; replace K := K.next bb; replace CA := CA.later bb; replace V5 := hide (V5.out.later bb); replace V6 := hide (V6.out.later bb); replace V7 := hide (V7.out.later bb); have VC := hide (val_made R1 R2); clear R1 R2 bb U1 z)
            | (have z := U2; go_at_call 13; refine (rvery_any _ _ g5 g5 true _ V5.out VC.out (by omega) (by omega) (by omega) (very_self g5)).mono ?_; rintro e w12 ⟨rfl, bb⟩; replace B := b_then B bb; replace K := K.next bb; replace CA := CA.later bb; replace V6 := hide (V6.out.later bb); replace V7 := hide (V7.out.later bb); clear bb VC V5 U2 z)
            | (have z := U3; go_at_call 25; refine (rcanon_q _ u _ _ (HV1.out.later B) (by omega) (by omega) Hgk.out).mono ?_; rintro e w13 ⟨t1, t2, t3, t4, t5, t6, t7, rfl, bb⟩; replace B := b_then B bb; replace K := K.next bb; replace CA := CA.later bb; replace V6 := hide (V6.out.later bb); replace V7 := hide (V7.out.later bb); clear bb U3 z)
            | (have z := U4; go_at_call 13; refine (rvery_any _ _ g6 g7 true _ V6.out V7.out (by omega) (by omega) (by omega) Hvy.out).mono ?_; rintro e w14 ⟨rfl, bb⟩; replace B := b_then B bb; replace K := K.next bb; replace CA := CA.later bb; clear bb U4 z)
            | (go_at_call 23; refine (pbset_any _ _ xs ws M1 v _ (HA0.out.later B) (HV2.out.later B) FA FV (by omega) (by omega) Hws2.out).mono ?_; rintro e w15 ⟨s15, j15, rfl, CD, bb⟩; replace B := b_then B bb; replace K := K.next bb; replace CA := CA.later bb; clear bb)
            | (go_at_call 17; refine (bvery_any _ _ ws ws true _ CA CD Fas Fas (veryB_self _)).mono ?_; rintro e w16 ⟨rfl, bb⟩; replace B := b_then B bb; replace K := K.next bb; clear bb))
          go_wp2
          go_ret
          exact ⟨rfl, B⟩
end Go.Proofs.Ytgnccmmbpgnamaa
