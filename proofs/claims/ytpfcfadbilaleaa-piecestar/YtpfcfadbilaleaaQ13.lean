/-
  TEXTS JOINED: uW8.
-/
import Derived.OpenShut
import Derived.Test.YtpfcfadbilaleaaQ02
import Derived.Test.YtpfcfadbilaleaaQ07
/-
  WALKS: the reference's Begin, Chars and Prefix.
-/
namespace Go.Proofs.Ytpfcfadbilaleaau
open Go.RowKit
open Go.Lib (encodeRune)
set_option maxRecDepth 20000 in
theorem first_is (s : ByteArray) (w : World) (c n : Int) (hs : s.size ≤ 9223372036854775807) (hc : firstC s.data.toList = c) (hn : (firstN s.data.toList : Int) = n) :
    Calls Try.prog 79 #[.string s] w fun e w' => e = .returned (.tuple #[.int .i64 c, .int .i64 n]) ∧ Below w.heap.size w w' := by
  subst hc hn
  exact first_any s w hs
set_option maxRecDepth 20000 in
theorem first_bad {t : List UInt8} (h : badL t = true) : firstC t = 0 ∧ firstN t = 0 := by simp [firstC, firstN, h]
set_option maxRecDepth 20000 in
theorem first_good {t : List UInt8} (hne : t ≠ []) (h : badL t = false) : firstC t = ((Lib.decodeL t).1 : Int) ∧ firstN t = (Lib.decodeL t).2 := by simp [firstC, firstN, h, hne]

set_option maxRecDepth 20000 in
theorem own_later {W w1 : World} {base : Nat} {v : Value} {n : Nat} {xs : List Value} (h : W.ownsRow base 3 1 v n xs) (b : Below W.heap.size W w1) : w1.ownsRow base 3 1 v n xs := by
  refine ⟨h.1, ?_⟩
  rcases h.2 with k | ⟨g, cap, cur, e1, e2, e3, e4⟩
  · exact .inl k
  · exact .inr ⟨g, cap, cur, e1, e2, (b.block g (lt_of_block e3)).trans e3, e4⟩
set_option maxRecDepth 20000 in
theorem begin_own {w W w1 : World} {v : Value} {n : Nat} {xs : List Value} {o : Obj} (hB : Below w.heap.size w W) (hown : W.ownsRow w.heap.size 3 1 v n xs) (hg : (W.alloc o).grownBy w1 v.ownBlock) : Below w.heap.size w w1 :=
  (hB.alloc hB.size o).grown hg (by have := hB.size; simp; omega) (fun k hk => (hown.lt k hk).1)

set_option maxRecDepth 20000 in
set_option maxHeartbeats 1000000 in
theorem begin_any (s : ByteArray) (w : World) (hs : s.size ≤ 17592186044415) :
    Calls Try.prog 56 #[.string s] w fun e w' => ∃ v, e = .returned (.tuple #[v, .int .i64 (blen s.data.toList)]) ∧ w'.ownsRow w.heap.size 3 1 v (chars s.data.toList).length ((chars s.data.toList).map (Value.int .i64)) ∧ Below w.heap.size w w' := by
  obtain ⟨i0, hi, hz0, hz1, hz2⟩ := info_parts info3
  go_enter Try.func56, Try.ntmps56
  go_wp2
  go_loopw [4, 5] (fun v a wr => ∃ (cs : List Int) (t : List UInt8) (vo : Option Addr) (vc : Nat), v = .slice vo cs.length vc ∧ a = .int .i64 (textL cs).length ∧ s.data.toList = textL cs ++ t ∧ allMay cs = true ∧ wr.ownsRow w.heap.size 3 1 v cs.length (cs.map (Value.int .i64)) ∧ Below w.heap.size w wr) (fun _ a _ => s.size - (intOf a).toNat)
  case atStart => exact ⟨[], s.data.toList, none, 0, rfl, rfl, rfl, rfl, World.ownsRow_nil _ _ _ _, Below.refl _ _⟩
  case round =>
    obtain ⟨cs, t, vo, vc, rfl, rfl, hst, hm, hown, hB⟩ := hrel
    have hlen : s.size = (textL cs).length + t.length := by
      have := congrArg List.length hst
      simpa using this
    have hcl := (textL_len cs).1
    generalize hpe : (textL cs).length = pos at hlen hcl ⊢
    have hdr : s.data.toList.drop pos = t := by rw [hst, ← hpe, List.drop_left]
    have hrest : (s.extract pos s.size).data.toList = t := by rw [extract_rest, hdr]
    have Hst := hide hst
    have Hpe := hide hpe
    have Hrest := hide hrest
    have Hlen := hide hlen
    clear hst hdr hpe hrest hlen
    by_cases hp : pos < s.size
    · have hne : t ≠ [] := by intro h; have := Hlen.out; rw [h] at this; simp at this; omega
      cases hb : badL t with
      | true =>
        have hf := first_bad hb
        have Hf : Hid (firstC (s.extract pos s.size).data.toList = 0 ∧ ((firstN (s.extract pos s.size).data.toList : Nat) : Int) = 0) := by
          rw [Hrest.out]; exact ⟨hf.1, by rw [hf.2]; rfl⟩
        have Hb := hide hb
        clear hb hf hne
        go_wp2_with (go_at_call 79; refine (first_is _ _ 0 0 (by simp; omega) Hf.out.1 Hf.out.2).mono ?_; rintro e w1 ⟨rfl, b1⟩)
        go_ret2
        obtain ⟨hc1, hc2⟩ := chars_at Hst.out hm (.inr Hb.out)
        refine ⟨_, by rw [hc2, Hpe.out]; rfl, ?_, hB.trans (b1.mono hB.size)⟩
        rw [hc1]
        exact own_later hown b1
      | false =>
        have hf := first_good hne hb
        have hg := dec_good t hne hb
        have hm1 := dec_may t
        have hw := enc_len ((Lib.decodeL t).1 : Int)
        rw [hg.2] at hw
        generalize hd1 : (Lib.decodeL t).1 = c at hf hg hm1 hw
        generalize hd2 : (Lib.decodeL t).2 = m at hf hg hw
        have Hf : Hid (firstC (s.extract pos s.size).data.toList = (c : Int) ∧ ((firstN (s.extract pos s.size).data.toList : Nat) : Int) = (m : Int)) := by
          rw [Hrest.out]; exact ⟨hf.1, by rw [hf.2]⟩
        have hcb := (mayB_iff c).1 hm1
        have hc0 := hcb.1
        have hc1 := hcb.2.1
        have hst2 : s.data.toList = textL (cs ++ [(c : Int)]) ++ t.drop m := by
          rw [textL_append, textL_one, List.append_assoc, ← hg.1]; exact Hst.out
        have hm2 : allMay (cs ++ [(c : Int)]) = true := by
          rw [allMay_append, hm, allMay_cons, hm1]; rfl
        have hpos2 : (textL (cs ++ [(c : Int)])).length = pos + m := by
          rw [textL_append, textL_one, List.length_append, Hpe.out, hg.2]
        have hle2 : pos + m ≤ s.size := by
          have := congrArg List.length hst2
          rw [List.length_append, hpos2] at this
          simp at this
          omega
        have hm1' : ¬ ((m : Int) = 0) := by omega
        have Hst2 := hide hst2
        have Hpos2 := hide hpos2
        clear hst2 hpos2 hf hg hb hm1 hcb hd1 hd2 hne
        go_wp2_with (first | (go_at_call 79; refine (first_is _ _ c m (by simp; omega) Hf.out.1 Hf.out.2).mono ?_; rintro e w1 ⟨rfl, b1⟩; have hown1 := own_later hown b1; have hB1 := hB.trans (b1.mono hB.size)) | (at_builtin; refine wpList_append_own _ rfl _ _ 87 rfl w.heap.size 3 i0 (.int .i64 0) 1 8 Try.underlying87 hi hz0 hz1 hz2 rfl (by decide) _ _ _ rfl (hown1.alloc _) ⟨w1.heap.size, 0, none⟩ 1 1 [.int .i64 (c : Int)] rfl rfl ?c1 ?c2 ?c3 ?c4 ?c5 ?_))
        case c1 =>
          intro j u hj
          match j, hj with
          | 0, hj => simp at hj; subst hj; simp [Addr.add]
        case c2 => intro u hu; simp at hu; subst hu; rfl
        case c3 => unfold maxLen; omega
        case c4 => omega
        case c5 => have := hB1.size; simp; omega
        · intro v' w2 hown' hgrow _
          have hB2 := begin_own hB1 hown1 hgrow
          have hvs' : ∃ a c', v' = .slice a (cs.length + 1) c' := by
            rcases hown'.2 with ⟨_, h⟩ | ⟨g, cap, cur, rfl, _⟩
            · omega
            · exact ⟨_, _, rfl⟩
          obtain ⟨va', vc', hv'⟩ := hvs'
          rw [hv'] at hown' ⊢
          have Hown := hide hown'
          clear hown' hgrow hown hown1 hv'
          go_wp2
          go_roundw
          case rel => exact ⟨cs ++ [(c : Int)], t.drop m, va', vc', by simp, by rw [Hpos2.out]; go_num, Hst2.out, hm2, by rw [mapsnoc, List.length_append, List.length_singleton]; exact Hown.out, hB2⟩
          case measure => simp [intOf]; omega
    · have ht : t = [] := List.eq_nil_of_length_eq_zero (by have := Hlen.out; omega)
      have Ht := hide ht
      clear ht
      go_wp2
      go_ret2
      obtain ⟨hc1, hc2⟩ := chars_at Hst.out hm (.inl Ht.out)
      refine ⟨_, by rw [hc2, Hpe.out]; rfl, ?_, hB⟩
      rw [hc1]
      exact hown
end Go.Proofs.Ytpfcfadbilaleaau
