/-
  TEXTS JOINED: U9, Q1.
-/
import Derived.Test.YtpfcfadbilaleaaQ08
import Derived.Test.YtpfcfadbilaleaaQ09
import Derived.Test.YtpfcfadbilaleaaQ14
/-
  SMALL FORMS that the laws of layer 11 use.
-/
namespace Go.Proofs.Ytpfcfadbilaleaa
open Go.RowKit

theorem rcanon_o (x : Value) (v c : Vl) (k : Int) (X : ByteArray) (w : World) (H : VlAt w x v) (hl : v.l.length ≤ 1000) (hp : v.p.length ≤ 1000) (hc : canonV v = c) (hk : c.kind = k) (hX : (⟨c.s.toArray⟩ : ByteArray) = X) :
    Calls Try.prog 19 #[x] w fun e w' => ∃ la lc pa pc, e = .returned (.agg #[.int .i64 k, .string X, .slice la c.l.length lc, .slice pa c.p.length pc]) ∧ StrsAt w' (.slice la c.l.length lc) c.l ∧ PairsAt w' (.slice pa c.p.length pc) c.p ∧ Below w.heap.size w w' ∧ Newly w.heap.size (.slice la c.l.length lc) ∧ Newly w.heap.size (.slice pa c.p.length pc) := by
  subst hc hk hX; exact rcanon_any x v w H hl hp
theorem text_kind {v : Vl} (hk : v.kind = 1) : textsV v = [v.s] := by unfold textsV; rw [if_pos hk]
theorem ne_some (x : ByteArray) (h : 0 < x.size) : (!x.toList.isEmpty) = true := by
  rw [Lib.toList_data, list_one x h]; rfl
theorem ne_none (x : ByteArray) (h : ¬ 0 < x.size) : (!x.toList.isEmpty) = false := by
  rw [Lib.toList_data, list_none x h]; rfl
theorem dec_is (s : ByteArray) (v : Value) (w : World) (hs : s.size ≤ 1000000) (h : decR (decL s.data.toList) = v) :
    Calls Try.prog 17 #[.string s] w fun e w' => e = .returned v ∧ Below w.heap.size w w' := by subst h; exact dec_any s w hs
end Go.Proofs.Ytpfcfadbilaleaa
/-
  WALKS: the program's count, at, Defined, rank, cmp's Compare, Clone (layer 8).
-/
namespace Go.Proofs.Ytpfcfadbilaleaa
open Go.RowKit

def countV (v : Vl) : Nat := (textsV v).length
set_option maxRecDepth 20000 in
theorem count_is (v : Vl) : countV v = if v.kind = 1 then 1 else if v.kind = 2 then v.l.length else if v.kind = 3 then 2 * v.p.length else 0 := by
  unfold countV textsV
  by_cases h1 : v.kind = 1
  · simp [h1]
  · by_cases h2 : v.kind = 2
    · simp [h2]
    · by_cases h3 : v.kind = 3
      · simp [h3, flat_len]
      · simp [h1, h2, h3]
set_option maxRecDepth 20000 in
theorem flat_at : ∀ (p : List (List UInt8 × List UInt8)) (k : Nat) (h : k / 2 < p.length), (flatP p)[k]? = some (if k % 2 = 0 then p[k / 2].1 else p[k / 2].2)
  | a :: r, 0, _ => rfl
  | a :: r, 1, _ => rfl
  | a :: r, k + 2, h => by
    have h2 : k / 2 < r.length := by simp at h; omega
    have ih := flat_at r k h2
    have e1 : (k + 2) / 2 = k / 2 + 1 := by omega
    have e2 : (k + 2) % 2 = k % 2 := by omega
    show (a.1 :: a.2 :: flatP r)[k + 2]? = _
    rw [List.getElem?_cons_succ, List.getElem?_cons_succ, ih, e2]
    simp only [e1, List.getElem_cons_succ]
set_option maxRecDepth 20000 in
set_option maxHeartbeats 4000000 in
theorem count_any (x : Value) (v : Vl) (w : World) (H : VlAt w x v) (hp : v.p.length ≤ 1000000) : Calls Try.prog 47 #[x] w fun e w' => e = .returned (.int .i64 (countV v)) ∧ Below w.heap.size w w' := by
  obtain ⟨sl, sp, rfl, h1, h2⟩ := H
  obtain ⟨la, lc, rfl⟩ := h1.form
  obtain ⟨pa, pc, rfl⟩ := h2.form
  obtain ⟨S, hS⟩ : ∃ S : ByteArray, (⟨v.s.toArray⟩ : ByteArray) = S := ⟨_, rfl⟩
  rw [hS, count_is]
  obtain ⟨k, hk⟩ : ∃ k, v.kind = k := ⟨_, rfl⟩
  rw [hk]
  clear hS hk h1 h2
  have B0 := b_alloc w (.cells #[.int .i64 k, .string S, .slice la v.l.length lc, .slice pa v.p.length pc] 27)
  by_cases h1 : k = 1
  · subst h1
    go_enter Try.func47, Try.ntmps47
    go_wp2
    go_ret
    exact ⟨rfl, B0⟩
  · have h1f : (k == 1) = false := by simp [h1]
    by_cases h2 : k = 2
    · subst h2
      go_enter Try.func47, Try.ntmps47
      go_wp2
      go_ret
      exact ⟨rfl, B0⟩
    · have h2f : (k == 2) = false := by simp [h2]
      by_cases h3 : k = 3
      · subst h3
        go_enter Try.func47, Try.ntmps47
        go_wp2
        go_ret
        exact ⟨ret_int (by simp), B0⟩
      · have h3f : (k == 3) = false := by simp [h3]
        go_enter Try.func47, Try.ntmps47
        go_wp2
        go_ret
        exact ⟨ret_int (by simp), B0⟩
set_option maxRecDepth 20000 in
set_option maxHeartbeats 4000000 in
theorem at_any (x : Value) (v : Vl) (k : Nat) (N : ByteArray) (w : World) (H : VlAt w x v) (hl : v.l.length ≤ 1000000) (hp : v.p.length ≤ 1000000) (hk : k < countV v) (hN : ⟨((textsV v).getD k []).toArray⟩ = N) : Calls Try.prog 72 #[x, .int .i64 k] w fun e w' => e = .returned (.string N) ∧ Below w.heap.size w w' := by
  subst hN
  obtain ⟨sl, sp, rfl, h1, h2⟩ := H
  obtain ⟨la, lc, rfl⟩ := h1.form
  obtain ⟨pa, pc, rfl⟩ := h2.form
  have hkl : (k : Int) ≤ 2000000 := by rw [count_is] at hk; split at hk <;> (try split at hk) <;> (try split at hk) <;> omega
  have ht : textsV v = if v.kind = 1 then [v.s] else if v.kind = 2 then v.l else if v.kind = 3 then flatP v.p else [] := rfl
  rw [count_is] at hk
  obtain ⟨S, hS⟩ : ∃ S : ByteArray, (⟨v.s.toArray⟩ : ByteArray) = S := ⟨_, rfl⟩
  rw [hS]
  obtain ⟨q, hq⟩ : ∃ k, v.kind = k := ⟨_, rfl⟩
  rw [hq] at hk ht
  rw [hq]
  have HS := hide hS
  clear hq hS
  have B0 := b_alloc w (.cells #[.int .i64 q, .string S, .slice la v.l.length lc, .slice pa v.p.length pc] 27)
  obtain ⟨N, hN⟩ : ∃ N : ByteArray, (⟨((textsV v).getD k []).toArray⟩ : ByteArray) = N := ⟨_, rfl⟩
  rw [hN]
  have h0 : (0 : Int) ≤ k := by omega
  by_cases e2 : q = 2
  · subst e2
    simp only [show ¬ ((2 : Int) = 1) by omega, if_false, if_true] at hk ht
    obtain ⟨b, off, cap, e, hb, g1⟩ := h1.at k hk
    cases e
    rw [ht] at hN
    have e1 : v.l.getD k [] = v.l[k] := by simp [hk]
    rw [e1] at hN
    rw [hN] at g1
    have g2 := (B0.cell (p := ⟨b, off + k, none⟩) hb).trans g1
    have hlt : (k : Int) < v.l.length := by omega
    clear hN e1 ht g1 h1 h2 HS
    go_enter Try.func72, Try.ntmps72
    go_wp2
    go_ret
    exact ⟨rfl, B0⟩
  · have e2f : (q == 2) = false := by simp [e2]
    by_cases e3 : q = 3
    · subst e3
      simp only [show ¬ ((3 : Int) = 1) by omega, show ¬ ((3 : Int) = 2) by omega, if_false, if_true] at hk ht
      have hk2 : k / 2 < v.p.length := by omega
      obtain ⟨b, off, cap, e, hb, g1, g2⟩ := h2.at (k / 2) hk2
      cases e
      have hf := flat_at v.p k hk2
      rw [ht, List.getD_eq_getElem?_getD, hf] at hN
      have hlt : ((k / 2 : Nat) : Int) < v.p.length := by omega
      have hq2 : (k : Int) / 2 = ((k / 2 : Nat) : Int) := by omega
      by_cases hm : k % 2 = 0
      · have hm2 : (k : Int) % 2 = 0 := by omega
        simp only [hm, if_true, Option.getD_some] at hN
        rw [hN] at g1
        have g3 := (B0.cell (p := ⟨b, off + k / 2 * 2, none⟩) hb).trans g1
        clear hN ht g1 g2 h1 h2 HS hf
        obtain ⟨j, hj⟩ : ∃ j, k / 2 = j := ⟨_, rfl⟩
        rw [hj] at g3 hlt hq2
        clear hj hk2
        go_enter Try.func72, Try.ntmps72
        go_wp2
        go_ret
        exact ⟨rfl, B0⟩
      · have hm2 : (k : Int) % 2 = 1 := by omega
        simp only [hm, if_false, Option.getD_some] at hN
        rw [hN] at g2
        have g3 := (B0.cell (p := ⟨b, off + k / 2 * 2 + 1, none⟩) hb).trans g2
        clear hN ht g1 g2 h1 h2 HS hf
        obtain ⟨j, hj⟩ : ∃ j, k / 2 = j := ⟨_, rfl⟩
        rw [hj] at g3 hlt hq2
        clear hj hk2
        go_enter Try.func72, Try.ntmps72
        go_wp2
        go_ret
        exact ⟨rfl, B0⟩
    · have e3f : (q == 3) = false := by simp [e3]
      by_cases e1 : q = 1
      · subst e1
        simp only [if_true] at hk ht
        have hk0 : k = 0 := by omega
        subst hk0
        rw [ht] at hN
        have : S = N := by rw [← hN, ← HS.out]; rfl
        subst this
        clear hN ht h1 h2 HS
        go_enter Try.func72, Try.ntmps72
        go_wp2
        go_ret
        exact ⟨rfl, B0⟩
      · simp only [e1, e2, e3, if_false] at hk
        omega
set_option maxRecDepth 20000 in
theorem clone_any (s : ByteArray) (w : World) (hlim : s.size ≤ 281474976710656) : Calls Try.prog 60 #[.string s] w fun e w' => e = .returned (.string s) ∧ Below w.heap.size w w' := by
  go_enter Try.func60, Try.ntmps60
  go_wp2_with (go_at_call 81; refine (stringslite_Clone _ _ hlim).mono ?_)
  rintro e w' ⟨rfl, h⟩
  go_wp2
  go_ret
  exact ⟨rfl, h⟩
set_option maxRecDepth 20000 in
theorem defined_is (v : Vl) : definedV v = decide (0 < countV v) := rfl
set_option maxRecDepth 20000 in
theorem defined_any (x : Value) (v : Vl) (d : Bool) (w : World) (H : VlAt w x v) (hp : v.p.length ≤ 1000000) (hd : definedV v = d) : Calls Try.prog 24 #[x] w fun e w' => e = .returned (.bool d) ∧ Below w.heap.size w w' := by
  have H0 := hide H
  obtain ⟨sl, sp, rfl, h1, h2⟩ := H
  obtain ⟨S, hS⟩ : ∃ S : ByteArray, (⟨v.s.toArray⟩ : ByteArray) = S := ⟨_, rfl⟩
  obtain ⟨k, hk⟩ : ∃ k, v.kind = k := ⟨_, rfl⟩
  rw [hS, hk] at H0 ⊢
  rw [defined_is] at hd
  have Hd := hide hd
  clear hS hk hd h1 h2
  have B0 := b_alloc w (.cells #[.int .i64 k, .string S, sl, sp] 27)
  go_enter Try.func24, Try.ntmps24
  go_wp2_with (go_at_call 47; refine (count_any _ v _ (H0.out.later B0) hp).mono ?_; rintro e w1 ⟨rfl, bb⟩)
  go_ret
  exact ⟨ret_bool (by simpa using Hd.out), B0.trans (bb.mono B0.size)⟩
end Go.Proofs.Ytpfcfadbilaleaa
