/-
  WALKS: the laws BindTells, BindSets (layer 9).
-/
import Derived.Test.YtgnccmmbpgnamaaQ0
namespace Go.Proofs.Ytgnccmmbpgnamaa
open Go.RowKit

theorem veryB_self (a : List Bd) : veryB a a = true := (veryB_iff a a).2 rfl
theorem very_self (a : Vl) : veryV a a = true := (very_iff a a).2 rfl
/-- two values' boxes, the second one behind the first -/
theorem val_made {W : World} {la pa : Option Addr} {lc pc : Nat} {c : Vl} (h1 : StrsAt W (.slice la c.l.length lc) c.l) (h2 : PairsAt W (.slice pa c.p.length pc) c.p) : VlAt W (.agg #[.int .i64 c.kind, .string ⟨c.s.toArray⟩, .slice la c.l.length lc, .slice pa c.p.length pc]) c := ⟨_, _, rfl, h1, h2⟩
theorem b_then {w W W' : World} (B : Below w.heap.size w W) (bb : Below W.heap.size W W') : Below w.heap.size w W' := B.trans (bb.mono B.size)
theorem texts_is (zs ys : List (List UInt8)) (u v : Value) (r : Bool) (w : World) (hmax : zs.length ≤ 1000000000000) (h1 : StrsAt w u zs) (h2 : StrsAt w v ys) (hr : decide (zs = ys) = r) : Calls Try.prog 14 #[u, v] w fun e w' => e = .returned (.bool r) ∧ Below w.heap.size w w' := by
  subst hr; exact texts_any zs ys u v w hmax h1 h2
set_option maxRecDepth 20000 in
set_option maxHeartbeats 8000000 in
theorem tells_walk (va vb : Value) (xs ys : List Bd) (s : ByteArray) (w : World) (HA : BindsAt w va xs) (HB : BindsAt w vb ys) (WA : WideB xs) (WB : WideB ys) : Calls Try.prog 3 #[va, vb, .string s] w fun e w' => e = .returned (.bool true) ∧ Below w.heap.size w w' := by
  have B := Below.refl w.heap.size w
  have HA0 := hide HA
  have HB0 := hide HB
  obtain ⟨aa, ac, rfl⟩ := HA.form
  obtain ⟨ba, bc, rfl⟩ := HB.form
  have T1 : Hid True := trivial
  have T2 : Hid True := trivial
  clear HA HB
  cases ha : fewB xs with
  | false =>
    have Ha := hide ha
    clear ha
    go_enter Try.func3, Try.ntmps3
    go_wp2_with (first
      | (go_at_call 9; refine (awake_any _).mono ?_; rintro e w1 ⟨rfl, bb⟩; replace B := bb; clear bb)
      | (go_at_call 10; refine (bfew_is _ xs false _ (HA0.out.later B) WA Ha.out).mono ?_; rintro e w2 ⟨rfl, bb⟩; replace B := b_then B bb; clear bb))
    go_ret
    exact ⟨rfl, B⟩
  | true =>
    have Ha := hide ha
    have FA := fd_of ha
    clear ha
    cases hb : fewB ys with
    | false =>
      have Hb := hide hb
      clear hb
      go_enter Try.func3, Try.ntmps3
      go_wp2_with (first
        | (go_at_call 9; refine (awake_any _).mono ?_; rintro e w1 ⟨rfl, bb⟩; replace B := bb; clear bb)
        | (have z := T1; go_at_call 10; refine (bfew_is _ xs true _ (HA0.out.later B) WA Ha.out).mono ?_; rintro e w2 ⟨rfl, bb⟩; replace B := b_then B bb; clear bb T1 z)
        | (have z := T2; go_at_call 10; refine (bfew_is _ ys false _ (HB0.out.later B) WB Hb.out).mono ?_; rintro e w2 ⟨rfl, bb⟩; replace B := b_then B bb; clear bb T2 z))
      go_ret
      exact ⟨rfl, B⟩
    | true =>
      have Hb := hide hb
      have FB := fd_of hb
      clear hb
      by_cases hs : 200 < s.size
      · go_enter Try.func3, Try.ntmps3
        go_wp2_with (first
          | (go_at_call 9; refine (awake_any _).mono ?_; rintro e w1 ⟨rfl, bb⟩; replace B := bb; clear bb)
          | (have z := T1; go_at_call 10; refine (bfew_is _ xs true _ (HA0.out.later B) WA Ha.out).mono ?_; rintro e w2 ⟨rfl, bb⟩; replace B := b_then B bb; clear bb T1 z)
          | (have z := T2; go_at_call 10; refine (bfew_is _ ys true _ (HB0.out.later B) WB Hb.out).mono ?_; rintro e w2 ⟨rfl, bb⟩; replace B := b_then B bb; clear bb T2 z))
        go_ret
        exact ⟨rfl, B⟩
      · obtain ⟨c, hc⟩ : ∃ c, getV xs s.data.toList = c := ⟨_, rfl⟩
        obtain ⟨r, hr⟩ : ∃ r, isV xs s.data.toList = r := ⟨_, rfl⟩
        obtain ⟨t, ht⟩ : ∃ t, sameB xs ys = t := ⟨_, rfl⟩
        have hcl : FewV c := by rw [← hc]; exact get_few FA.all _
        have hcl1 := hcl.l
        have hcl2 := hcl.p
        have hnm := names_len xs
        have hxl := FA.len
        have Hc := hide hc
        have Hr := hide hr
        have Ht := hide ht
        have Hnm := hide (show (namesV xs).length ≤ 1000000000000 by omega)
        clear hc hr ht hcl hnm hxl
        cases r
        all_goals cases t
        all_goals
          go_enter Try.func3, Try.ntmps3
          go_wp2_with (first
            | (go_at_call 9; refine (awake_any _).mono ?_; rintro e w1 ⟨rfl, bb⟩; replace B := bb; clear bb)
            | (have z := T1; go_at_call 10; refine (bfew_is _ xs true _ (HA0.out.later B) WA Ha.out).mono ?_; rintro e w2 ⟨rfl, bb⟩; replace B := b_then B bb; clear bb T1 z)
            | (have z := T2; go_at_call 10; refine (bfew_is _ ys true _ (HB0.out.later B) WB Hb.out).mono ?_; rintro e w2 ⟨rfl, bb⟩; replace B := b_then B bb; clear bb T2 z)
            | (go_at_call 11; refine (pget_any _ xs s c _ _ (HA0.out.later B) FA Hc.out Hr.out).mono ?_; rintro e w3 ⟨l1, d1, p1, q1, rfl, R1, R2, bb, _, _⟩; replace B := (b_then B bb).alloc (b_then B bb).size (.cells #[.int .i64 c.kind, .string ⟨c.s.toArray⟩, .slice l1 c.l.length d1, .slice p1 c.p.length q1] 28); have V1 := hide ((val_made R1 R2).later (b_alloc w3 (.cells #[.int .i64 c.kind, .string ⟨c.s.toArray⟩, .slice l1 c.l.length d1, .slice p1 c.p.length q1] 28))); have X1 := Bx.made w3 #[.int .i64 c.kind, .string ⟨c.s.toArray⟩, .slice l1 c.l.length d1, .slice p1 c.p.length q1] 28; clear R1 R2 bb)
            | (go_at_call 12; refine (rget_any _ xs s c _ _ (HA0.out.later B) FA Hc.out Hr.out).mono ?_; rintro e w4 ⟨l2, d2, p2, q2, rfl, R1, R2, bb, _, _⟩; have bA := bb.alloc bb.size (.cells #[.int .i64 c.kind, .string ⟨c.s.toArray⟩, .slice l2 c.l.length d2, .slice p2 c.p.length q2] 28); replace B := b_then B bA; replace V1 := hide (V1.out.later bA); replace X1 := X1.next bA; have V2 := hide ((val_made R1 R2).later (b_alloc w4 (.cells #[.int .i64 c.kind, .string ⟨c.s.toArray⟩, .slice l2 c.l.length d2, .slice p2 c.p.length q2] 28))); have X2 := Bx.made w4 #[.int .i64 c.kind, .string ⟨c.s.toArray⟩, .slice l2 c.l.length d2, .slice p2 c.p.length q2] 28; obtain ⟨x0, x1, x2, x3⟩ := cells4 X1; obtain ⟨y0, y1, y2, y3⟩ := cells4 X2; clear R1 R2 bb bA)
            | (go_at_call 13; refine (rvery_any _ _ c c true _ V1.out V2.out (by omega) (by omega) (by omega) (very_self c)).mono ?_; rintro e w5 ⟨rfl, bb⟩; replace B := b_then B bb; clear bb)
            | (go_at_call 15; refine (pnames_any _ xs _ (HA0.out.later B) FA).mono ?_; rintro e w6 ⟨n1, m1, rfl, N1, bb⟩; replace B := b_then B bb; clear bb)
            | (go_at_call 16; refine (rnames_any _ xs _ (HA0.out.later B) FA).mono ?_; rintro e w7 ⟨n2, m2, rfl, N2, bb⟩; replace B := b_then B bb; replace N1 := N1.later bb; clear bb)
            | (go_at_call 14; refine (texts_is (namesV xs) (namesV xs) _ _ true _ Hnm.out N1 N2 (by simp)).mono ?_; rintro e w8 ⟨rfl, bb⟩; replace B := b_then B bb; clear bb)
            | (go_at_call 18; refine (pbcanon_any _ xs _ (HA0.out.later B) FA).mono ?_; rintro e w9 ⟨k1, j1, rfl, C1, bb⟩; replace B := b_then B bb; clear bb)
            | (go_at_call 19; refine (rbcanon_any _ xs _ (HA0.out.later B) FA).mono ?_; rintro e w10 ⟨k2, j2, rfl, C2, bb⟩; replace B := b_then B bb; replace C1 := C1.later bb; clear bb)
            | (go_at_call 17; refine (bvery_any _ _ (canonB xs) (canonB xs) true _ C1 C2 FA.canon FA.canon (veryB_self _)).mono ?_; rintro e w11 ⟨rfl, bb⟩; replace B := b_then B bb; clear bb)
            | (go_at_call 20; refine (psame_any _ _ xs ys _ _ (HA0.out.later B) (HB0.out.later B) FA FB Ht.out).mono ?_; rintro e w12 ⟨rfl, bb⟩; replace B := b_then B bb; clear bb)
            | (go_at_call 21; refine (rbsame_any _ _ xs ys _ _ (HA0.out.later B) (HB0.out.later B) FA FB Ht.out).mono ?_; rintro e w13 ⟨rfl, bb⟩; replace B := b_then B bb; clear bb))
          go_ret
          exact ⟨rfl, B⟩
set_option maxRecDepth 20000 in
set_option maxHeartbeats 8000000 in
theorem sets_walk (va x : Value) (xs : List Bd) (s : ByteArray) (u : Vl) (w : World) (HA : BindsAt w va xs) (HX : VlAt w x u) (WA : WideB xs) (WU : WideV u) : Calls Try.prog 4 #[va, .string s, x] w fun e w' => e = .returned (.bool true) ∧ Below w.heap.size w w' := by
  have HA0 := hide HA
  have HX0 := hide HX
  obtain ⟨aa, ac, rfl⟩ := HA.form
  obtain ⟨sl, sp, rfl, g1, g2⟩ := HX
  obtain ⟨s1, t1, rfl⟩ := g1.form
  obtain ⟨s2, t2, rfl⟩ := g2.form
  obtain ⟨k, hk⟩ : ∃ k, u.kind = k := ⟨_, rfl⟩
  obtain ⟨S, hS⟩ : ∃ S : ByteArray, (⟨u.s.toArray⟩ : ByteArray) = S := ⟨_, rfl⟩
  obtain ⟨m1, hm1⟩ : ∃ m, u.l.length = m := ⟨_, rfl⟩
  obtain ⟨m2, hm2⟩ : ∃ m, u.p.length = m := ⟨_, rfl⟩
  rw [hk, hS, hm1, hm2] at HX0 ⊢
  have X := Bx.made w #[.int .i64 k, .string S, .slice s1 m1 t1, .slice s2 m2 t2] 28
  have B := b_alloc w (.cells #[.int .i64 k, .string S, .slice s1 m1 t1, .slice s2 m2 t2] 28)
  clear HA g1 g2 hk hS hm1 hm2
  obtain ⟨x0, x1, x2, x3⟩ := cells4 X
  cases ha : fewB xs with
  | false =>
    have Ha := hide ha
    clear ha
    go_enter Try.func4, Try.ntmps4
    go_wp2_with (first
      | (go_at_call 9; refine (awake_any _).mono ?_; rintro e w1 ⟨rfl, bb⟩; replace B := b_then B bb; clear bb)
      | (go_at_call 10; refine (bfew_is _ xs false _ (HA0.out.later B) WA Ha.out).mono ?_; rintro e w2 ⟨rfl, bb⟩; replace B := b_then B bb; clear bb))
    go_ret
    exact ⟨rfl, B⟩
  | true =>
    have Ha := hide ha
    have FA := fd_of ha
    have hl := (fewB_of ha).1
    clear ha
    by_cases hs : 200 < s.size
    · go_enter Try.func4, Try.ntmps4
      go_wp2_with (first
        | (go_at_call 9; refine (awake_any _).mono ?_; rintro e w1 ⟨rfl, bb⟩; replace B := b_then B bb; clear bb)
        | (go_at_call 10; refine (bfew_is _ xs true _ (HA0.out.later B) WA Ha.out).mono ?_; rintro e w2 ⟨rfl, bb⟩; replace B := b_then B bb; clear bb))
      go_ret
      exact ⟨rfl, B⟩
    · cases hu : fewV u with
      | false =>
        have Hu := hide hu
        clear hu
        go_enter Try.func4, Try.ntmps4
        go_wp2_with (first
          | (go_at_call 9; refine (awake_any _).mono ?_; rintro e w1 ⟨rfl, bb⟩; replace X := X.next bb; obtain ⟨y0, y1, y2, y3⟩ := cells4 X; replace B := b_then B bb; clear bb)
          | (go_at_call 10; refine (bfew_is _ xs true _ (HA0.out.later B) WA Ha.out).mono ?_; rintro e w2 ⟨rfl, bb⟩; replace X := X.next bb; obtain ⟨z0, z1, z2, z3⟩ := cells4 X; replace B := b_then B bb; clear bb)
          | (go_at_call 22; refine (few_w _ u false _ (HX0.out.later B) WU Hu.out).mono ?_; rintro e w3 ⟨rfl, bb⟩; replace B := b_then B bb; clear bb))
        go_ret
        exact ⟨rfl, B⟩
      | true =>
        have Hu := hide hu
        have FU := few_of hu
        clear hu
        obtain ⟨cs, hcs⟩ : ∃ cs, setB xs s.data.toList u = cs := ⟨_, rfl⟩
        have Fc : Fd cs := by rw [← hcs]; exact (set_fd FA FU (by rw [← size_list]; omega) (by omega)).canon
        have Hcs := hide hcs
        clear hcs
        go_enter Try.func4, Try.ntmps4
        go_wp2_with (first
          | (go_at_call 9; refine (awake_any _).mono ?_; rintro e w1 ⟨rfl, bb⟩; replace X := X.next bb; obtain ⟨y0, y1, y2, y3⟩ := cells4 X; replace B := b_then B bb; clear bb)
          | (go_at_call 10; refine (bfew_is _ xs true _ (HA0.out.later B) WA Ha.out).mono ?_; rintro e w2 ⟨rfl, bb⟩; replace X := X.next bb; obtain ⟨z0, z1, z2, z3⟩ := cells4 X; replace B := b_then B bb; clear bb)
          | (go_at_call 22; refine (few_w _ u true _ (HX0.out.later B) WU Hu.out).mono ?_; rintro e w3 ⟨rfl, bb⟩; replace X := X.next bb; replace B := b_then B bb; clear bb))
        obtain ⟨u0, u1, u2, u3⟩ := cells4 X
        go_region_held3 (fun W => W.cell? ⟨w.heap.size, 0, none⟩ = some (.int .i64 k) ∧ W.cell? ⟨w.heap.size, 1, none⟩ = some (.string S) ∧ W.cell? ⟨w.heap.size, 2, none⟩ = some (.slice s1 m1 t1) ∧ W.cell? ⟨w.heap.size, 3, none⟩ = some (.slice s2 m2 t2)) (first | with_reducible exact cells4 X | with_reducible exact cells4 X.drew)
          (first
            | (go_at_call 23; refine (pbset_any _ _ xs cs s u _ (HA0.out.later (by first | with_reducible exact B | with_reducible exact B.drew)) (HX0.out.later (by first | with_reducible exact B | with_reducible exact B.drew)) FA FU (by omega) (by omega) Hcs.out).mono ?_; rintro e w4 ⟨k1, j1, rfl, C1, bb⟩; (first | with_reducible (replace X := X.next bb) | with_reducible (replace X := X.drew.next bb)); (first | with_reducible (replace B := b_then B bb) | with_reducible (replace B := b_then B.drew bb)); clear bb)
            | (go_at_call 24; refine (rbset_any _ _ xs cs s u _ (HA0.out.later B) (HX0.out.later B) FA FU (by omega) (by omega) Hcs.out).mono ?_; rintro e w5 ⟨k2, j2, rfl, C2, bb⟩; replace X := X.next bb; replace C1 := C1.later bb; replace B := b_then B bb; clear bb)
            | (go_at_call 17; refine (bvery_any _ _ cs cs true _ C1 C2 Fc Fc (veryB_self _)).mono ?_; rintro e w6 ⟨rfl, bb⟩; replace X := X.next bb; replace B := b_then B bb; clear bb))
        go_wp2
        go_ret
        exact ⟨rfl, B⟩
end Go.Proofs.Ytgnccmmbpgnamaa
