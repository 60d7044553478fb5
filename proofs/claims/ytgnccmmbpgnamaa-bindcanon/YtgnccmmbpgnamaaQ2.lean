/-
  WALKS: the law BindCanon (layer 9).
-/
import Derived.Test.YtgnccmmbpgnamaaQ1
namespace Go.Proofs.Ytgnccmmbpgnamaa
open Go.RowKit

theorem geq_string (t : TypeId) (a b : ByteArray) : binOp .geq t (.string a) (.string b) = pure (.bool !(Op.bytesLess a.toList b.toList)) := by simp [binOp, Op.stringOp]
attribute [local go_sem] geq_string
theorem rises_at : ∀ {l : List (List UInt8)}, Rises l → ∀ i (h : i + 1 < l.length), ltB l[i] l[i + 1] = true
  | x :: y :: r, h, 0, _ => h.1 y (List.mem_cons_self ..)
  | x :: r, h, i + 1, g => by
    have := rises_at h.2 i (by simpa using g)
    simpa using this
theorem canonB_at (xs : List Bd) (i : Nat) (h : i < (canonB xs).length) : (canonB xs)[i].1 = (namesV xs)[i]'(by rw [← canonB_len]; exact h) := by simp [canonB]
theorem canon_lt (xs : List Bd) (p : Nat) (h : p + 1 < (canonB xs).length) : ltB (canonB xs)[p].1 (canonB xs)[p + 1].1 = true := by
  rw [canonB_at, canonB_at]
  exact rises_at (names_rise xs) p _
theorem canon_kind (xs : List Bd) (i : Nat) (h : i < (canonB xs).length) : ((canonB xs)[i].2.kind == 0) = false := by
  obtain ⟨h1, h2, _, _⟩ := canon_all (List.getElem_mem h)
  rw [beq_eq_false_iff_ne]
  intro e
  rw [← h1, kind_defined, h2] at e
  cases e
theorem ltB_asym {x y : List UInt8} (h : ltB x y = true) : ltB y x = false := by
  cases h2 : ltB y x with
  | false => rfl
  | true =>
    have := ltB_trans x y x h h2
    rw [ltB_irr] at this; cases this
set_option maxRecDepth 20000 in
set_option maxHeartbeats 8000000 in
theorem canon_walk (va vb : Value) (xs ys : List Bd) (w : World) (HA : BindsAt w va xs) (HB : BindsAt w vb ys) (WA : WideB xs) (WB : WideB ys) : Calls Try.prog 6 #[va, vb] w fun e w' => e = .returned (.bool true) ∧ Below w.heap.size w w' := by
  have B := Below.refl w.heap.size w
  have HA0 := hide HA
  have HB0 := hide HB
  obtain ⟨aa, ac, rfl⟩ := HA.form
  obtain ⟨ba, bc, rfl⟩ := HB.form
  have T1 : Hid True := trivial
  have T2 : Hid True := trivial
  clear HA HB
  cases ha : fewB xs with
  | false =>
    have Ha := hide ha
    clear ha
    go_enter Try.func6, Try.ntmps6
    go_wp2_with (first
      | (go_at_call 9; refine (awake_any _).mono ?_; rintro e w1 ⟨rfl, bb⟩; replace B := bb; clear bb)
      | (go_at_call 10; refine (bfew_is _ xs false _ (HA0.out.later B) WA Ha.out).mono ?_; rintro e w2 ⟨rfl, bb⟩; replace B := b_then B bb; clear bb))
    go_ret
    exact ⟨rfl, B⟩
  | true =>
    have Ha := hide ha
    have FA := fd_of ha
    clear ha
    cases hb : fewB ys with
    | false =>
      have Hb := hide hb
      clear hb
      go_enter Try.func6, Try.ntmps6
      go_wp2_with (first
        | (go_at_call 9; refine (awake_any _).mono ?_; rintro e w1 ⟨rfl, bb⟩; replace B := bb; clear bb)
        | (have z := T1; go_at_call 10; refine (bfew_is _ xs true _ (HA0.out.later B) WA Ha.out).mono ?_; rintro e w2 ⟨rfl, bb⟩; replace B := b_then B bb; clear bb T1 z)
        | (have z := T2; go_at_call 10; refine (bfew_is _ ys false _ (HB0.out.later B) WB Hb.out).mono ?_; rintro e w2 ⟨rfl, bb⟩; replace B := b_then B bb; clear bb T2 z))
      go_ret
      exact ⟨rfl, B⟩
    | true =>
      have Hb := hide hb
      have FB := fd_of hb
      clear hb
      obtain ⟨cs, hcs⟩ : ∃ cs, canonB xs = cs := ⟨_, rfl⟩
      obtain ⟨ds, hds⟩ : ∃ ds, canonB ys = ds := ⟨_, rfl⟩
      obtain ⟨t, ht⟩ : ∃ t, sameB xs ys = t := ⟨_, rfl⟩
      have Fc : Fd cs := by rw [← hcs]; exact FA.canon
      have Fd' : Fd ds := by rw [← hds]; exact FB.canon
      have hcc : canonB cs = cs := by rw [← hcs]; exact canonB_canon xs
      have hsc : sameB xs cs = true := sameB_of (by rw [hcc, hcs])
      have hvd : veryB cs ds = t := by rw [← ht, ← hcs, ← hds]; rfl
      have hnl : (namesV xs).length = cs.length := by rw [← hcs, canonB_len]
      have hlt := hide (fun p (h : p + 1 < cs.length) => show ltB cs[p].1 cs[p + 1].1 = true by subst hcs; exact canon_lt xs p h)
      have hkd := hide (fun i (h : i < cs.length) => show (cs[i].2.kind == 0) = false by subst hcs; exact canon_kind xs i h)
      have hml := Fc.len
      obtain ⟨m, hm⟩ : ∃ m, cs.length = m := ⟨_, rfl⟩
      rw [hm] at hnl hml
      have Hm := hide hm
      have Hcs := hide hcs
      have Hds := hide hds
      have Ht := hide ht
      have Hcc := hide hcc
      have Hsc := hide hsc
      have Hvd := hide hvd
      have Hnl := hide hnl
      have CA := hide (fun W (BW : Below w.heap.size w W) => (pbcanon_is _ xs cs W (HA0.out.later BW) FA hcs))
      have T3 : Hid True := trivial
      have T4 : Hid True := trivial
      have T5 : Hid True := trivial
      have T6 : Hid True := trivial
      have T7 : Hid True := trivial
      have T8 : Hid True := trivial
      have T9 : Hid True := trivial
      clear hcs hds ht hcc hsc hvd hnl hm
      go_enter Try.func6, Try.ntmps6
      go_wp2_with (first
        | (go_at_call 9; refine (awake_any _).mono ?_; rintro e w1 ⟨rfl, bb⟩; replace B := bb; clear bb)
        | (have z := T1; go_at_call 10; refine (bfew_is _ xs true _ (HA0.out.later B) WA Ha.out).mono ?_; rintro e w2 ⟨rfl, bb⟩; replace B := b_then B bb; clear bb T1 z)
        | (have z := T2; go_at_call 10; refine (bfew_is _ ys true _ (HB0.out.later B) WB Hb.out).mono ?_; rintro e w2 ⟨rfl, bb⟩; replace B := b_then B bb; clear bb T2 z)
        | (have z := T3; go_at_call 18; refine (CA.out _ B).mono ?_; rintro e w3 ⟨k1, j1, rfl, C1, bb⟩; rw [Hm.out] at C1 ⊢; replace B := b_then B bb; clear bb T3 z))
      have HC := hide C1
      have HB3 := hide B
      clear C1 B
      go_loopw [7] (fun i wr => ∃ q : Nat, q ≤ m ∧ i = .int .i64 q ∧ Below w3.heap.size w3 wr) (fun i _ => m - (intOf i).toNat)
      case atStart => exact ⟨0, Nat.zero_le _, rfl, Below.refl _ _⟩
      case round =>
        obtain ⟨q, hq, rfl, Bw⟩ := hrel
        have B := b_then HB3.out Bw
        by_cases hlm : q < m
        · have hqc : q < cs.length := by rw [Hm.out]; exact hlm
          obtain ⟨b, off, cap, kd, M, S, sl, sp, ea, hb, c0, c1, _, _, _, hv, hM⟩ := (HC.out.later Bw).one q hqc
          rw [Hm.out] at ea
          cases ea
          have hkq := hkd.out q hqc
          obtain ⟨_, _, ev, _, _⟩ := hv
          cases ev
          have h0 : (0 : Int) ≤ q := by omega
          have h1 : (q : Int) < m := by omega
          by_cases hq0 : q = 0
          · subst hq0
            clear hM
            go_wp2
            go_quiet ((fail))
            go_wp2
            go_roundw
            case rel => exact ⟨1, by omega, by go_num, b_then Bw (b_drewN _ nq)⟩
            case measure => simp [intOf]; omega
          · obtain ⟨p, hp⟩ : ∃ p, q = p + 1 := ⟨q - 1, by omega⟩
            have hpc : p < cs.length := by omega
            obtain ⟨b', off', cap', kd', M', S', sl', sp', ea', hb', d0, _, _, _, _, _, hM'⟩ := (HC.out.later Bw).one p hpc
            rw [Hm.out] at ea'
            cases ea'
            have hl := hlt.out p (by omega)
            have hw1 : IntKind.i64.wrap ((q : Int) - 1) = (p : Int) := by rw [IntKind.wrap_i64]; omega
            have hqp : (0 : Int) < q := by omega
            have hqd : decide (0 < q) = true := by simp; omega
            have g0 : (0 : Int) ≤ p := by omega
            have g1 : (p : Int) < m := by omega
            have hbl : Op.bytesLess M'.toList M.toList = true := by
              rw [Lib.toList_data, Lib.toList_data, hM', hM, bytes_lt]
              subst hp
              exact hl
            clear hM hM' hl hp hq0
            go_wp2
            go_quiet ((fail))
            go_wp2
            go_roundw
            case rel => exact ⟨q + 1, by omega, by go_num, b_then Bw (b_drewN _ nq)⟩
            case measure => simp [intOf]; omega
        · skip
          cases t
          all_goals
            go_wp2_with (first
              | (have z := T4; go_at_call 18; refine (pbcanon_is _ cs cs _ (HC.out.later Bw) Fc Hcc.out).mono ?_; rintro e w4 ⟨k4, j4, rfl, C4, bb⟩; rw [Hm.out] at C4 ⊢; replace B := b_then B bb; replace Bw := b_then Bw bb; clear bb T4 z)
              | (have z := T6; go_at_call 17; refine (bvery_any _ _ cs cs true _ C4 (HC.out.later Bw) Fc Fc (veryB_self _)).mono ?_; rintro e w5 ⟨rfl, bb⟩; replace B := b_then B bb; replace Bw := b_then Bw bb; clear bb T6 z)
              | (have z := T8; go_at_call 20; refine (psame_any _ _ xs cs true _ (HA0.out.later B) (HC.out.later Bw) FA Fc Hsc.out).mono ?_; rintro e w6 ⟨rfl, bb⟩; replace B := b_then B bb; replace Bw := b_then Bw bb; clear bb T8 z)
              | (have z := T9; go_at_call 20; refine (psame_any _ _ xs ys _ _ (HA0.out.later B) (HB0.out.later B) FA FB Ht.out).mono ?_; rintro e w7 ⟨rfl, bb⟩; replace B := b_then B bb; replace Bw := b_then Bw bb; clear bb T9 z)
              | (have z := T5; go_at_call 18; refine (pbcanon_is _ ys ds _ (HB0.out.later B) FB Hds.out).mono ?_; rintro e w8 ⟨k8, j8, rfl, C8, bb⟩; replace B := b_then B bb; replace Bw := b_then Bw bb; clear bb T5 z)
              | (have z := T7; go_at_call 17; refine (bvery_any _ _ cs ds _ _ (HC.out.later Bw) C8 Fc Fd' Hvd.out).mono ?_; rintro e w9 ⟨rfl, bb⟩; replace B := b_then B bb; replace Bw := b_then Bw bb; clear bb T7 z)
              | (go_at_call 15; refine (pnames_any _ xs _ (HA0.out.later B) FA).mono ?_; rintro e w10 ⟨n1, m1, rfl, N1, bb⟩; rw [Hnl.out]; replace B := b_then B bb; clear bb))
            go_ret
            exact ⟨rfl, B⟩
end Go.Proofs.Ytgnccmmbpgnamaa
