/-
  WALKS: the reference's Valid, Very (layer 8).
-/
import Derived.Test.YtikhggdigndhoaaV10
import Derived.Test.YtikhggdigndhoaaV3
import Derived.Test.YtikhggdigndhoaauW8
import Derived.Laws.StructEq
namespace Go.Proofs.Ytikhggdigndhoaa
open Go.RowKit
open Go.Proofs.Ytikhggdigndhoaau (validB blen begin_any)

def validT (y : List UInt8) : Bool := validB y
theorem rvalid_one (s : ByteArray) (b : Bool) (w : World) (hs : s.size ≤ 17592186044415) (h : validT s.data.toList = b) : Calls Try.prog 31 #[.string s] w fun e w' => e = .returned (.bool b) ∧ Below w.heap.size w w' := by
  have hb : ((blen s.data.toList : Int) == (s.size : Int)) = b := by
    rw [← h]; unfold validT validB
    rw [Bool.eq_iff_iff]; simp only [beq_iff_eq, decide_eq_true_eq, size_list]; omega
  go_enter Try.func31, Try.ntmps31
  go_wp2_with (go_at_call 42; refine (begin_any _ _ hs).mono ?_; rintro e w1 ⟨v, rfl, _, bb⟩)
  go_ret
  exact ⟨rfl, bb⟩
def validV (v : Vl) : Bool := (textsV v).all validT
set_option maxRecDepth 20000 in
set_option maxHeartbeats 4000000 in
theorem rvalid_any (x : Value) (v : Vl) (w : World) (H : VlAt w x v) (hl : v.l.length ≤ 1000) (hp : v.p.length ≤ 1000) (hts : ∀ y ∈ textsV v, y.length ≤ 10000) :
    Calls Try.prog 19 #[x] w fun e w' => e = .returned (.bool (validV v)) ∧ Below w.heap.size w w' := by
  have H0 := hide H
  obtain ⟨sl, sp, rfl, _, _⟩ := H
  obtain ⟨S, hS⟩ : ∃ S : ByteArray, (⟨v.s.toArray⟩ : ByteArray) = S := ⟨_, rfl⟩
  obtain ⟨k, hk⟩ : ∃ k, v.kind = k := ⟨_, rfl⟩
  rw [hS, hk] at H0 ⊢
  have hv : validV v = (textsV v).all validT := rfl
  obtain ⟨ts, ht⟩ : ∃ ts, textsV v = ts := ⟨_, rfl⟩
  have hln : ts.length ≤ 2000 := by rw [← ht]; exact texts_len v hl hp
  have Ht := hide ht
  rw [ht] at hv hts
  rw [hv]
  have Hts := hide hts
  clear hS hk ht hv hts
  have X0 := Bx.made w #[.int .i64 k, .string S, sl, sp] 25
  have B0 := b_alloc w (.cells #[.int .i64 k, .string S, sl, sp] 25)
  obtain ⟨W0, hW0⟩ : ∃ W0, w.alloc (.cells #[.int .i64 k, .string S, sl, sp] 25) = W0 := ⟨_, rfl⟩
  rw [hW0] at X0 B0
  obtain ⟨c0, c1, c2, c3⟩ := cells4 X0
  go_enter Try.func19, Try.ntmps19
  go_wp2_with (go_at_call 11; refine (rtexts_is _ v ts _ (H0.out.later B0) hl hp Ht.out).mono ?_; rintro e w1 ⟨ta, tc, rfl, T1, bb⟩)
  replace bb := B0.trans (bb.mono B0.size)
  clear c0 c1 c2 c3 hW0
  go_loopw [4] (fun i wr => ∃ q : Nat, q ≤ ts.length ∧ i = .int .i64 q ∧ (ts.take q).all validT = true ∧ StrsAt wr (.slice ta ts.length tc) ts ∧ Below w.heap.size w wr) (fun i _ => ts.length - (intOf i).toNat)
  case atStart => exact ⟨0, Nat.zero_le _, rfl, by simp, T1, bb⟩
  case round =>
    clear T1 bb X0 B0 H0
    obtain ⟨q, hq, rfl, hall, T, B⟩ := hrel
    by_cases hlt : q < ts.length
    · obtain ⟨b, off, cap, e, hb, g1⟩ := T.at q hlt
      cases e
      have hsn := all_snoc validT ts q hlt
      rw [hall, Bool.true_and] at hsn
      have hbad := all_not validT ts q ts.length hlt hlt
      rw [List.take_length] at hbad
      have hy := Hts.out _ (List.getElem_mem hlt)
      obtain ⟨y, ey⟩ : ∃ y, ts[q] = y := ⟨_, rfl⟩
      rw [ey] at g1 hsn hbad hy
      obtain ⟨N, hN⟩ : ∃ N : ByteArray, (⟨y.toArray⟩ : ByteArray) = N := ⟨_, rfl⟩
      have hNd : N.data.toList = y := by rw [← hN]
      have hNs : N.size ≤ 17592186044415 := by rw [← hN]; show y.toArray.size ≤ _; simp; omega
      rw [hN] at g1
      have Hsn := hide hsn
      have Hbad := hide hbad
      have HNd := hide hNd
      clear hsn hbad ey hN hNd hy hall
      cases hv : validT y with
      | true =>
        have Hv : Hid (validT N.data.toList = true) := by rw [HNd.out]; exact hide hv
        have Hs2 : Hid ((ts.take (q + 1)).all validT = true) := by rw [Hsn.out, hv]; exact hide rfl
        clear hv Hbad Hsn
        go_wp2_with (go_at_call 31; refine (rvalid_one _ true _ hNs Hv.out).mono ?_; rintro e w2 ⟨rfl, bb⟩)
        go_roundw
        case rel => exact ⟨q + 1, by omega, by go_num, Hs2.out, T.later bb, B.trans (bb.mono B.size)⟩
        case measure => simp [intOf]; omega
      | false =>
        have Hv : Hid (validT N.data.toList = false) := by rw [HNd.out]; exact hide hv
        have Hb : Hid (ts.all validT = false) := hide (Hbad.out hv)
        clear hv Hbad Hsn
        go_wp2_with (go_at_call 31; refine (rvalid_one _ false _ hNs Hv.out).mono ?_; rintro e w2 ⟨rfl, bb⟩)
        go_ret
        exact ⟨ret_bool Hb.out.symm, B.trans (bb.mono B.size)⟩
    · have hend : ts.all validT = true := by rw [List.take_of_length_le (by omega)] at hall; exact hall
      have Hend := hide hend
      clear hend hall
      go_wp2
      go_ret
      exact ⟨ret_bool Hend.out.symm, B⟩
theorem rvalid_is (x : Value) (v : Vl) (r : Bool) (w : World) (H : VlAt w x v) (hl : v.l.length ≤ 1000) (hp : v.p.length ≤ 1000) (hts : ∀ y ∈ textsV v, y.length ≤ 10000) (h : validV v = r) :
    Calls Try.prog 19 #[x] w fun e w' => e = .returned (.bool r) ∧ Below w.heap.size w w' := by
  subst h; exact rvalid_any x v w H hl hp hts

theorem fields39 : Try.prog.underlying 39 = some (.struct (Try.prog.fieldsOf 39)) := by
  unfold Program.fieldsOf; rw [Try.underlying39]
theorem held39 : Try.prog.stoodInHeld 39 = false := by kernel_rfl
theorem guard39 : Try.prog.eqGuardType Try.prog.depth 39 = false := by kernel_rfl
theorem eq39 (a a' b b' : ByteArray) (w : World) : (Op.equalIn 10000 39 (.agg #[.string a, .string b]) (.agg #[.string a', .string b'])).run Try.prog w = .ok (a.toList == a'.toList && b.toList == b'.toList) w := by
  rw [show (10000 : Nat) = 9999 + 1 from rfl, run_equalIn_struct w 9999 39 _ _ fields39 held39]
  unfold Program.fieldsOf
  rw [Try.underlying39]
  go_simp
  by_cases h1 : a.toList = a'.toList <;> by_cases h2 : b.toList = b'.toList <;> simp [h1, h2]
theorem eq39_same (a b : ByteArray) (w : World) : (Op.equalIn 10000 39 (.agg #[.string a, .string b]) (.agg #[.string a, .string b])).run Try.prog w = .ok true w := by
  rw [eq39]; simp
set_option maxRecDepth 20000 in
set_option maxHeartbeats 4000000 in
/-- two values that are the same -/
theorem very_any (x y : Value) (v : Vl) (w : World) (HA : VlAt w x v) (HB : VlAt w y v) (hl : v.l.length ≤ 1000000) (hp : v.p.length ≤ 1000000) :
    Calls Try.prog 15 #[x, y] w fun e w' => e = .returned (.bool true) ∧ Below w.heap.size w w' := by
  have hg := guard39
  have he := eq39_same
  obtain ⟨al, ap, rfl, A1, A2⟩ := HA
  obtain ⟨bl, bp, rfl, B1, B2⟩ := HB
  obtain ⟨alo, alc, rfl⟩ := A1.form
  obtain ⟨apo, apc, rfl⟩ := A2.form
  obtain ⟨blo, blc, rfl⟩ := B1.form
  obtain ⟨bpo, bpc, rfl⟩ := B2.form
  obtain ⟨S, hS⟩ : ∃ S : ByteArray, (⟨v.s.toArray⟩ : ByteArray) = S := ⟨_, rfl⟩
  rw [hS]
  clear hS
  obtain ⟨k, hk⟩ : ∃ k, v.kind = k := ⟨_, rfl⟩
  rw [hk]
  clear hk
  have K := Jx.made w #[.int .i64 k, .string S, .slice alo v.l.length alc, .slice apo v.p.length apc] #[.int .i64 k, .string S, .slice blo v.l.length blc, .slice bpo v.p.length bpc]
  obtain ⟨W0, hW0⟩ : ∃ W0, (w.alloc (.cells #[.int .i64 k, .string S, .slice alo v.l.length alc, .slice apo v.p.length apc] 25)).alloc (.cells #[.int .i64 k, .string S, .slice blo v.l.length blc, .slice bpo v.p.length bpc] 25) = W0 := ⟨_, rfl⟩
  rw [hW0] at K
  replace A1 := hide (A1.later K.bel)
  replace A2 := hide (A2.later K.bel)
  replace B1 := hide (B1.later K.bel)
  replace B2 := hide (B2.later K.bel)
  obtain ⟨x0, x1, x2, x3, y0, y1, y2, y3⟩ := K.all
  go_enter Try.func15, Try.ntmps15
  go_wp2
  clear x0 x1 x2 x3 y0 y1 y2 y3 hW0
  go_loopw [5] (fun i wr => ∃ q : Nat, q ≤ v.p.length ∧ i = .int .i64 q ∧ Jx w wr #[.int .i64 k, .string S, .slice alo v.l.length alc, .slice apo v.p.length apc] #[.int .i64 k, .string S, .slice blo v.l.length blc, .slice bpo v.p.length bpc] ∧ Below W0.heap.size W0 wr) (fun i _ => v.p.length - (intOf i).toNat)
  case atStart => exact ⟨0, Nat.zero_le _, rfl, K, Below.refl _ _⟩
  case round =>
    clear K
    obtain ⟨q, hq, rfl, K, Bw⟩ := hrel
    obtain ⟨x0, x1, x2, x3, y0, y1, y2, y3⟩ := K.all
    by_cases hlt : q < v.p.length
    · obtain ⟨ba, oa, ca, ea, hba, ga1, ga2⟩ := (A2.out.later Bw).at q hlt
      obtain ⟨bb, ob, cb, eb, hbb, gb1, gb2⟩ := (B2.out.later Bw).at q hlt
      cases ea
      cases eb
      obtain ⟨N1, hN1⟩ : ∃ N : ByteArray, (⟨v.p[q].1.toArray⟩ : ByteArray) = N := ⟨_, rfl⟩
      obtain ⟨N2, hN2⟩ : ∃ N : ByteArray, (⟨v.p[q].2.toArray⟩ : ByteArray) = N := ⟨_, rfl⟩
      rw [hN1] at ga1 gb1
      rw [hN2] at ga2 gb2
      clear hN1 hN2
      have h0 : (0 : Int) ≤ q := by omega
      have h1 : (q : Int) < v.p.length := by omega
      go_wp2
      go_quiet ((fail))
      go_wp2
      go_roundw
      case rel => exact ⟨q + 1, by omega, by go_num, K.next (b_drewN _ nq), Bw.trans ((b_drewN _ nq).mono Bw.size)⟩
      case measure => simp [intOf]; omega
    · go_wp2_with (go_at_call 13; refine (texts_any v.l v.l _ _ _ (by omega) (A1.out.later Bw) (B1.out.later Bw)).mono ?_; rintro e w2 ⟨rfl, b2⟩)
      go_ret
      exact ⟨ret_bool (by simp), (K.next b2).bel⟩
end Go.Proofs.Ytikhggdigndhoaa
