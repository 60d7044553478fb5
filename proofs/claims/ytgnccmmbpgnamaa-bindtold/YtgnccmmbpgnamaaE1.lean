/-
  WALKS: the reference's Very of layer 8, of any two values.
-/
import Derived.Test.YtgnccmmbpgnamaaD3
namespace Go.Proofs.Ytgnccmmbpgnamaa
open Go.RowKit

theorem take_eq_snoc {α : Type} {a b : List α} {q : Nat} (ha : q < a.length) (hb : q < b.length) (h : a.take q = b.take q) : a.take (q + 1) = b.take (q + 1) ↔ a[q] = b[q] := by
  have e1 := List.take_succ_eq_append_getElem ha
  have e2 := List.take_succ_eq_append_getElem hb
  rw [e1, e2, h, List.append_right_inj, List.cons.injEq]
  simp
theorem very_kind {a b : Vl} (h : a.kind ≠ b.kind) : veryV a b = false := by simp [veryV, h]
theorem very_s {a b : Vl} (h : a.s ≠ b.s) : veryV a b = false := by simp [veryV, h]
theorem very_p {a b : Vl} (h : a.p ≠ b.p) : veryV a b = false := by simp [veryV, h]
theorem very_l {a b : Vl} (h1 : a.kind = b.kind) (h2 : a.s = b.s) (h3 : a.p = b.p) : veryV a b = decide (a.l = b.l) := by simp [veryV, h1, h2, h3]
set_option maxRecDepth 20000 in
set_option maxHeartbeats 4000000 in
theorem rvery_any (x y : Value) (a b : Vl) (r : Bool) (w : World) (HA : VlAt w x a) (HB : VlAt w y b) (hl : a.l.length ≤ 1000000) (hp : a.p.length ≤ 1000000) (hpb : b.p.length ≤ 1000000) (hr : veryV a b = r) :
    Calls Try.prog 13 #[x, y] w fun e w' => e = .returned (.bool r) ∧ Below w.heap.size w w' := by
  have hg := guard39
  obtain ⟨al, ap, rfl, A1, A2⟩ := HA
  obtain ⟨bl, bp, rfl, B1, B2⟩ := HB
  obtain ⟨alo, alc, rfl⟩ := A1.form
  obtain ⟨apo, apc, rfl⟩ := A2.form
  obtain ⟨blo, blc, rfl⟩ := B1.form
  obtain ⟨bpo, bpc, rfl⟩ := B2.form
  obtain ⟨m, hm⟩ : ∃ m, a.p.length = m := ⟨_, rfl⟩
  obtain ⟨m', hm'⟩ : ∃ m, b.p.length = m := ⟨_, rfl⟩
  rw [hm] at A2 hp ⊢
  rw [hm'] at B2 hpb ⊢
  have Hm := hide hm
  have Hm' := hide hm'
  clear hm hm'
  have hss : (⟨a.s.toArray⟩ : ByteArray) = ⟨b.s.toArray⟩ ↔ a.s = b.s := by
    constructor
    · intro h
      have := congrArg (fun z : ByteArray => z.data.toList) h
      simpa using this
    · intro h; rw [h]
  have hse := arr_eq (x := a.s) (y := b.s)
  obtain ⟨S, hS⟩ : ∃ S : ByteArray, (⟨a.s.toArray⟩ : ByteArray) = S := ⟨_, rfl⟩
  obtain ⟨S', hS'⟩ : ∃ S : ByteArray, (⟨b.s.toArray⟩ : ByteArray) = S := ⟨_, rfl⟩
  rw [hS, hS'] at hss hse ⊢
  obtain ⟨k, hk⟩ : ∃ k, a.kind = k := ⟨_, rfl⟩
  obtain ⟨k', hk'⟩ : ∃ k, b.kind = k := ⟨_, rfl⟩
  rw [hk, hk']
  have K := Jx.made w #[.int .i64 k, .string S, .slice alo a.l.length alc, .slice apo m apc] #[.int .i64 k', .string S', .slice blo b.l.length blc, .slice bpo m' bpc]
  obtain ⟨W0, hW0⟩ : ∃ W0, (w.alloc (.cells #[.int .i64 k, .string S, .slice alo a.l.length alc, .slice apo m apc] 28)).alloc (.cells #[.int .i64 k', .string S', .slice blo b.l.length blc, .slice bpo m' bpc] 28) = W0 := ⟨_, rfl⟩
  rw [hW0] at K
  have B0 := K.bel
  replace A1 := hide (A1.later K.bel)
  replace A2 := hide (A2.later K.bel)
  replace B1 := hide (B1.later K.bel)
  replace B2 := hide (B2.later K.bel)
  obtain ⟨x0, x1, x2, x3, y0, y1, y2, y3⟩ := K.all
  have Hss := hide hss
  have Hse := hide hse
  have Hk := hide hk
  have Hk' := hide hk'
  have Hr := hide hr
  clear hss hse hk hk' hr hS hS'
  by_cases hpl : m = m'
  · subst hpl
    go_enter Try.func13, Try.ntmps13
    go_wp2
    clear x0 x1 x2 x3 y0 y1 y2 y3 hW0
    go_loopw [5] (fun i wr => ∃ q : Nat, q ≤ m ∧ i = .int .i64 q ∧ a.p.take q = b.p.take q ∧ Jx w wr #[.int .i64 k, .string S, .slice alo a.l.length alc, .slice apo m apc] #[.int .i64 k', .string S', .slice blo b.l.length blc, .slice bpo m bpc] ∧ Below W0.heap.size W0 wr) (fun i _ => m - (intOf i).toNat)
    case atStart => exact ⟨0, Nat.zero_le _, rfl, rfl, K, Below.refl _ _⟩
    case round =>
      clear K
      obtain ⟨q, hq, rfl, htk, K, Bw⟩ := hrel
      obtain ⟨x0, x1, x2, x3, y0, y1, y2, y3⟩ := K.all
      by_cases hlm : q < m
      · have hlt : q < a.p.length := by rw [Hm.out]; exact hlm
        have hlt' : q < b.p.length := by rw [Hm'.out]; exact hlm
        obtain ⟨ba, oa, ca, ea, hba, ga1, ga2⟩ := (A2.out.later Bw).at q hlt
        obtain ⟨bb, ob, cb, eb, hbb, gb1, gb2⟩ := (B2.out.later Bw).at q hlt'
        rw [Hm.out] at ea
        rw [Hm'.out] at eb
        cases ea
        cases eb
        have hsn := take_eq_snoc hlt hlt' htk
        have e1 := arr_eq (x := a.p[q].1) (y := b.p[q].1)
        have e2 := arr_eq (x := a.p[q].2) (y := b.p[q].2)
        obtain ⟨N1, hN1⟩ : ∃ N : ByteArray, (⟨a.p[q].1.toArray⟩ : ByteArray) = N := ⟨_, rfl⟩
        obtain ⟨N2, hN2⟩ : ∃ N : ByteArray, (⟨a.p[q].2.toArray⟩ : ByteArray) = N := ⟨_, rfl⟩
        obtain ⟨M1, hM1⟩ : ∃ N : ByteArray, (⟨b.p[q].1.toArray⟩ : ByteArray) = N := ⟨_, rfl⟩
        obtain ⟨M2, hM2⟩ : ∃ N : ByteArray, (⟨b.p[q].2.toArray⟩ : ByteArray) = N := ⟨_, rfl⟩
        rw [hN1] at ga1 e1
        rw [hN2] at ga2 e2
        rw [hM1] at gb1 e1
        rw [hM2] at gb2 e2
        have he := fun W => eq39 N1 M1 N2 M2 W
        simp only [e1, e2] at he
        have h0 : (0 : Int) ≤ q := by omega
        have h1 : (q : Int) < m := by omega
        by_cases hpq : a.p[q] = b.p[q]
        · have he' : ∀ W, (Op.equalIn 10000 48 (.agg #[.string N1, .string N2]) (.agg #[.string M1, .string M2])).run Try.prog W = .ok true W := by
            intro W
            rw [he W, hpq]; simp
          have Hnx := hide (hsn.2 hpq)
          clear hsn hN1 hN2 hM1 hM2 htk hpq e1 e2 he hlt hlt'
          go_wp2
          go_quiet ((fail))
          go_wp2
          go_roundw
          case rel => exact ⟨q + 1, by omega, by go_num, Hnx.out, K.next (b_drewN _ nq), Bw.trans ((b_drewN _ nq).mono Bw.size)⟩
          case measure => simp [intOf]; omega
        · have he' : ∀ W, (Op.equalIn 10000 48 (.agg #[.string N1, .string N2]) (.agg #[.string M1, .string M2])).run Try.prog W = .ok false W := by
            intro W
            rw [he W]
            have : ¬ (a.p[q].1 = b.p[q].1 ∧ a.p[q].2 = b.p[q].2) := fun h => hpq (Prod.ext h.1 h.2)
            by_cases g1 : a.p[q].1 = b.p[q].1
            · have g2 : ¬ a.p[q].2 = b.p[q].2 := fun g2 => this ⟨g1, g2⟩
              simp [g2]
            · simp [g1]
          have hf : r = false := by
            rw [← Hr.out]
            apply very_p
            intro e
            apply hpq
            simp [e]
          have Hf := hide hf
          clear hsn hN1 hN2 hM1 hM2 htk hpq e1 e2 he hf hlt hlt'
          go_wp2
          go_quiet ((fail))
          go_wp2
          go_ret
          exact ⟨ret_bool Hf.out.symm, (K.next (b_drewN _ nq)).bel⟩
      · have hpe : a.p = b.p := by
          rw [List.take_of_length_le (by rw [Hm.out]; omega), List.take_of_length_le (by rw [Hm'.out]; omega)] at htk
          exact htk
        have Hpe := hide hpe
        clear htk hpe
        by_cases hkk : k = k'
        · subst hkk
          by_cases hs : a.s = b.s
          · have hSS := Hss.out.2 hs
            subst hSS
            have hv : r = decide (a.l = b.l) := by rw [← Hr.out]; exact very_l (Hk.out.trans Hk'.out.symm) hs Hpe.out
            have Hv := hide hv
            clear hs hv
            go_wp2_with (go_at_call 14; refine (texts_any a.l b.l _ _ _ (by omega) (A1.out.later Bw) (B1.out.later Bw)).mono ?_; rintro e w2 ⟨rfl, b2⟩)
            go_ret
            exact ⟨ret_bool Hv.out.symm, (K.next b2).bel⟩
          · have hf : r = false := by rw [← Hr.out]; exact very_s hs
            have hsf : (S.toList == S'.toList) = false := by rw [Hse.out]; simp [hs]
            have Hf := hide hf
            clear hs hf
            go_wp2
            go_ret
            exact ⟨ret_bool Hf.out.symm, K.bel⟩
        · have hf : r = false := by rw [← Hr.out]; exact very_kind (by rw [Hk.out, Hk'.out]; exact hkk)
          have hkf : (k == k') = false := by simp [hkk]
          have Hf := hide hf
          clear hf
          go_wp2
          go_ret
          exact ⟨ret_bool Hf.out.symm, K.bel⟩
  · have hlen : ((m : Int) == (m' : Int)) = false := by rw [beq_eq_false_iff_ne]; omega
    have hf : r = false := by
      rw [← Hr.out]
      apply very_p
      intro e; exact hpl (by rw [← Hm.out, ← Hm'.out, e])
    have Hf := hide hf
    clear hf
    go_enter Try.func13, Try.ntmps13
    go_wp2
    go_ret
    exact ⟨ret_bool Hf.out.symm, by first | exact B0 | (rw [hW0]; exact B0)⟩
end Go.Proofs.Ytgnccmmbpgnamaa
