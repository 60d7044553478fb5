/-
  TEXTS JOINED: U7, U8, L1, L2, L4, L3, L5, L6.
-/
import Derived.Test.YtpfcfadbilaleaaQ14
import Derived.Test.YtpfcfadbilaleaaQ15
import Derived.Test.YtpfcfadbilaleaaQ22
import Derived.Test.YtpfcfadbilaleaaQ23
import Derived.Test.YtpfcfadbilaleaaQ24
/-
  WALKS: a style (layer 11): the text of a value.
-/
namespace Go.Proofs.Ytpfcfadbilaleaa
open Go.RowKit
open Go.Proofs.Ytpfcfadbilaleaau (prefL prefL_le prefix_any)
set_option linter.unusedVariables false

/-- the three boxes of put -/
structure Pu (w W : World) (b : Nat) (FA SA EA : ByteArray) (nd kp : Bool) (nm : ByteArray) (m : Int) (st : Bool) (kd : Int) (S : ByteArray) (sl sp : Value) : Prop where
  sty : Sy w W b w.heap.size FA SA EA nd kp
  spec : Bx W (w.heap.size + 1) #[.string nm, .int .i64 m, .bool st] 23
  val : Bx W (w.heap.size + 1 + 1) #[.int .i64 kd, .string S, sl, sp] 27
section
variable {w W W' : World} {b : Nat} {FA SA EA : ByteArray} {nd kp : Bool} {nm : ByteArray} {m : Int} {st : Bool} {kd : Int} {S : ByteArray} {sl sp : Value}
theorem Pu.made (R : Bx w b #[.string FA, .string SA, .bool nd, .string EA, .bool kp] 37) : Pu w (((w.alloc (.cells #[.string FA, .string SA, .bool nd, .string EA, .bool kp, .func (.func 44) #[] #[.pointer (some ⟨b, 0, none⟩)]] 53)).alloc (.cells #[.string nm, .int .i64 m, .bool st] 23)).alloc (.cells #[.int .i64 kd, .string S, sl, sp] 27)) b FA SA EA nd kp nm m st kd S sl sp :=
  ⟨((Sy.made R).alloc _).alloc _, by have := (Bx.made (w.alloc (.cells #[.string FA, .string SA, .bool nd, .string EA, .bool kp, .func (.func 44) #[] #[.pointer (some ⟨b, 0, none⟩)]] 53)) #[.string nm, .int .i64 m, .bool st] 23).later (.cells #[.int .i64 kd, .string S, sl, sp] 27); simpa using this,
    by have := Bx.made ((w.alloc (.cells #[.string FA, .string SA, .bool nd, .string EA, .bool kp, .func (.func 44) #[] #[.pointer (some ⟨b, 0, none⟩)]] 53)).alloc (.cells #[.string nm, .int .i64 m, .bool st] 23)) #[.int .i64 kd, .string S, sl, sp] 27; simpa using this⟩
theorem Pu.next (h : Pu w W b FA SA EA nd kp nm m st kd S sl sp) (bb : Below W.heap.size W W') : Pu w W' b FA SA EA nd kp nm m st kd S sl sp := ⟨h.sty.next bb, h.spec.next bb, h.val.next bb⟩
theorem Pu.all (h : Pu w W b FA SA EA nd kp nm m st kd S sl sp) : W.cell? ⟨w.heap.size, 0, none⟩ = some (.string FA) ∧ W.cell? ⟨w.heap.size, 1, none⟩ = some (.string SA) ∧ W.cell? ⟨w.heap.size, 2, none⟩ = some (.bool nd) ∧ W.cell? ⟨w.heap.size, 3, none⟩ = some (.string EA) ∧ W.cell? ⟨w.heap.size, 4, none⟩ = some (.bool kp) ∧ W.cell? ⟨w.heap.size, 5, none⟩ = some (.func (.func 44) #[] #[.pointer (some ⟨b, 0, none⟩)]) ∧ W.cell? ⟨w.heap.size + 1, 0, none⟩ = some (.string nm) ∧ W.cell? ⟨w.heap.size + 1 + 1, 0, none⟩ = some (.int .i64 kd) ∧ W.cell? ⟨w.heap.size + 1 + 1, 1, none⟩ = some (.string S) ∧ W.cell? ⟨w.heap.size + 1 + 1, 2, none⟩ = some sl ∧ W.cell? ⟨w.heap.size + 1 + 1, 3, none⟩ = some sp := by
  obtain ⟨h0, h1, h2, h3, h4, h5⟩ := h.sty.all
  obtain ⟨v0, v1, v2, v3⟩ := cells4 h.val
  exact ⟨h0, h1, h2, h3, h4, h5, h.spec.cell 0 _ rfl, v0, v1, v2, v3⟩
end
theorem text_it (r : Rl) (nm : ByteArray) (m : Int) (st : Bool) (s : List UInt8) : textP r (spA nm m st) s = itL r.named r.keep r.empty nm.data.toList (if 0 < m then prefL s m else s) := rfl
set_option maxRecDepth 20000 in
set_option maxHeartbeats 4000000 in
theorem put_text (b : Nat) (r : Rl) (FA SA EA : ByteArray) (nd kp : Bool) (nm : ByteArray) (m : Int) (st : Bool) (x : Value) (v : Vl) (J : ByteArray) (w : World) (R0 : Bx w b #[.string FA, .string SA, .bool nd, .string EA, .bool kp] 37) (H : VlAt w x v) (hl : v.l.length ≤ 1000) (hp : v.p.length ≤ 1000) (hts : ∀ y ∈ textsV v, y.length ≤ 10000) (hnm : nm.size ≤ 10000)
    (hS : SA.data.toList = r.sep) (hE : EA.data.toList = r.empty) (hn : r.named = nd) (hk : r.keep = kp) (he : EA.size ≤ 1) (hsa : SA.size ≤ 1) (hm : 0 ≤ m) (kd : v.kind = 1) (hJ : J.data.toList = tellP r (spA nm m st) v) :
    Calls Try.prog 26 #[.agg #[.string FA, .string SA, .bool nd, .string EA, .bool kp, .func (.func 44) #[] #[.pointer (some ⟨b, 0, none⟩)]], .agg #[.string nm, .int .i64 m, .bool st], x] w fun e w' => e = .returned (.string J) ∧ Below w.heap.size w w' := by
  have H0 := hide H
  obtain ⟨sl, sp, rfl, Hl, Hp⟩ := H
  obtain ⟨la, lc, rfl⟩ := Hl.form
  obtain ⟨pa, pc, rfl⟩ := Hp.form
  obtain ⟨S, hSS⟩ : ∃ S : ByteArray, (⟨v.s.toArray⟩ : ByteArray) = S := ⟨_, rfl⟩
  have hSd : S.data.toList = v.s := by rw [← hSS]
  rw [hSS, kd] at H0 ⊢
  have P0 : Pu w _ b FA SA EA nd kp nm m st 1 S (.slice la v.l.length lc) (.slice pa v.p.length pc) := Pu.made R0
  obtain ⟨W0, hW0⟩ : ∃ W0, ((w.alloc (.cells #[.string FA, .string SA, .bool nd, .string EA, .bool kp, .func (.func 44) #[] #[.pointer (some ⟨b, 0, none⟩)]] 53)).alloc (.cells #[.string nm, .int .i64 m, .bool st] 23)).alloc (.cells #[.int .i64 1, .string S, .slice la v.l.length lc, .slice pa v.p.length pc] 27) = W0 := ⟨_, rfl⟩
  rw [hW0] at P0
  obtain ⟨ln, hln⟩ : ∃ n, v.l.length = n := ⟨_, rfl⟩
  obtain ⟨pn, hpn⟩ : ∃ n, v.p.length = n := ⟨_, rfl⟩
  have hsl : S.size ≤ 10000 := by rw [size_list, hSd]; exact hts _ (by unfold textsV; rw [if_pos kd]; exact List.mem_singleton_self _)
  have hJ2 : J.data.toList = itL nd kp EA.data.toList nm.data.toList (if 0 < m then prefL S.data.toList m else S.data.toList) := by
    rw [hJ, hE, hSd, ← hn, ← hk, ← text_it]; unfold tellP; rw [if_pos kd]
  have HC : ∀ W, Below W0.heap.size W0 W → Calls Try.prog 50 #[.agg #[.string FA, .string SA, .bool nd, .string EA, .bool kp, .func (.func 44) #[] #[.pointer (some ⟨b, 0, none⟩)]], .agg #[.string nm, .int .i64 m, .bool st], .string S] W fun e w' => e = .returned (.string J) ∧ Below W.heap.size W w' := fun W hW => by
    by_cases hm0 : m = 0
    · rw [if_neg (by omega)] at hJ2
      exact text_no b FA SA EA nd kp nm m st S J W (P0.next hW).sty.rule hsl hnm he hm0 hJ2
    · rw [if_pos (by omega)] at hJ2
      exact text_yes b FA SA EA nd kp nm m st S J W (P0.next hW).sty.rule hsl hnm he hm0 hJ2
  have HC' := hide (HC W0 (Below.refl _ _))
  obtain ⟨y0, y1, y2, y3, y4, y5, n0, v0, v1, v2, v3⟩ := P0.all
  have s1 := P0.spec.cell 1 _ rfl
  have s2 := P0.spec.cell 2 _ rfl
  clear hSS hSd R0 Hl Hp hJ hJ2 HC kd hS hE hn hk hln hpn H0 hts hl hp
  go_enter Try.func26, Try.ntmps26
  go_wp2_with (go_at_call 50; refine HC'.out.mono ?_; rintro e w1 ⟨rfl, bb⟩)
  go_ret
  exact ⟨rfl, b_then P0.sty.bel bb⟩
set_option maxRecDepth 20000 in
set_option maxHeartbeats 4000000 in
theorem put_flat (b : Nat) (r : Rl) (FA SA EA : ByteArray) (nd kp : Bool) (nm : ByteArray) (m : Int) (x : Value) (v : Vl) (J : ByteArray) (w : World) (R0 : Bx w b #[.string FA, .string SA, .bool nd, .string EA, .bool kp] 37) (H : VlAt w x v) (hl : v.l.length ≤ 1000) (hp : v.p.length ≤ 1000) (hts : ∀ y ∈ textsV v, y.length ≤ 10000) (hnm : nm.size ≤ 10000)
    (hS : SA.data.toList = r.sep) (hE : EA.data.toList = r.empty) (hn : r.named = nd) (hk : r.keep = kp) (he : EA.size ≤ 1) (hsa : SA.size ≤ 1) (kd : ¬ v.kind = 1) (hJ : J.data.toList = tellP r (spA nm m false) v) :
    Calls Try.prog 26 #[.agg #[.string FA, .string SA, .bool nd, .string EA, .bool kp, .func (.func 44) #[] #[.pointer (some ⟨b, 0, none⟩)]], .agg #[.string nm, .int .i64 m, .bool false], x] w fun e w' => e = .returned (.string J) ∧ Below w.heap.size w w' := by
  have H0 := hide H
  have hkf : (v.kind == 1) = false := by simp [kd]
  obtain ⟨sl, sp, rfl, Hl, Hp⟩ := H
  obtain ⟨la, lc, rfl⟩ := Hl.form
  obtain ⟨pa, pc, rfl⟩ := Hp.form
  obtain ⟨S, hSS⟩ : ∃ S : ByteArray, (⟨v.s.toArray⟩ : ByteArray) = S := ⟨_, rfl⟩
  have hSd : S.data.toList = v.s := by rw [← hSS]
  obtain ⟨kk, hkk⟩ : ∃ k, v.kind = k := ⟨_, rfl⟩
  rw [hkk] at hkf kd
  rw [hSS, hkk] at H0 ⊢
  have P0 : Pu w _ b FA SA EA nd kp nm m false kk S (.slice la v.l.length lc) (.slice pa v.p.length pc) := Pu.made R0
  obtain ⟨W0, hW0⟩ : ∃ W0, ((w.alloc (.cells #[.string FA, .string SA, .bool nd, .string EA, .bool kp, .func (.func 44) #[] #[.pointer (some ⟨b, 0, none⟩)]] 53)).alloc (.cells #[.string nm, .int .i64 m, .bool false] 23)).alloc (.cells #[.int .i64 kk, .string S, .slice la v.l.length lc, .slice pa v.p.length pc] 27) = W0 := ⟨_, rfl⟩
  rw [hW0] at P0
  obtain ⟨ln, hln⟩ : ∃ n, v.l.length = n := ⟨_, rfl⟩
  obtain ⟨pn, hpn⟩ : ∃ n, v.p.length = n := ⟨_, rfl⟩
  obtain ⟨ts, htt⟩ : ∃ ts, textsV v = ts := ⟨_, rfl⟩
  have htn : ts.length ≤ 2000 := by rw [← htt]; exact texts_len v hl hp
  have hJ2 : Hid (J.data.toList = (if nd then nm.data.toList ++ [61] else []) ++ joinL [44] (ts.map (encL kp))) := by
    show J.data.toList = _
    rw [hJ, ← htt, ← hn, ← hk]; unfold tellP; rw [if_neg (by rw [hkk]; exact kd)]; rfl
  have HC := hide (texts_any' _ v ts W0.drew (H0.out.later (P0.sty.drew).bel) (by omega) (by omega) (fun y hy => by have := hts y hy; omega) htt)
  have htb : ∀ y ∈ ts, y.length ≤ 10000 := by rw [← htt]; exact hts
  have Htb := hide htb
  have HS : Hid (∀ W, Below W0.heap.size W0 W → W.cell? ⟨w.heap.size, 0, none⟩ = some (.string FA) ∧ W.cell? ⟨w.heap.size, 1, none⟩ = some (.string SA) ∧ W.cell? ⟨w.heap.size, 2, none⟩ = some (.bool nd) ∧ W.cell? ⟨w.heap.size, 3, none⟩ = some (.string EA) ∧ W.cell? ⟨w.heap.size, 4, none⟩ = some (.bool kp) ∧ W.cell? ⟨w.heap.size, 5, none⟩ = some (.func (.func 44) #[] #[.pointer (some ⟨b, 0, none⟩)]) ∧ W.cell? ⟨w.heap.size + 1, 0, none⟩ = some (.string nm) ∧ W.cell? ⟨w.heap.size + 1 + 1, 0, none⟩ = some (.int .i64 kk) ∧ W.cell? ⟨w.heap.size + 1 + 1, 1, none⟩ = some (.string S) ∧ W.cell? ⟨w.heap.size + 1 + 1, 2, none⟩ = some (.slice la ln lc) ∧ W.cell? ⟨w.heap.size + 1 + 1, 3, none⟩ = some (.slice pa pn pc)) := fun W hW => by rw [← hln, ← hpn]; exact (P0.next hW).all
  have d0 : Below W0.heap.size W0 W0.drew := (Below.refl _ W0).drew
  have s2 := P0.spec.cell 2 _ rfl
  have v0 := P0.val.cell 0 _ rfl
  rw [hln, hpn] at HC hW0 ⊢
  clear hSS hSd R0 Hl Hp hJ hS hE hn hk H0 hts hl hp htt htb hln hpn hkk kd
  go_enter Try.func26, Try.ntmps26
  go_wp2
  go_region_held3 (fun W => W.cell? ⟨w.heap.size, 0, none⟩ = some (.string FA) ∧ W.cell? ⟨w.heap.size, 1, none⟩ = some (.string SA) ∧ W.cell? ⟨w.heap.size, 2, none⟩ = some (.bool nd) ∧ W.cell? ⟨w.heap.size, 3, none⟩ = some (.string EA) ∧ W.cell? ⟨w.heap.size, 4, none⟩ = some (.bool kp) ∧ W.cell? ⟨w.heap.size, 5, none⟩ = some (.func (.func 44) #[] #[.pointer (some ⟨b, 0, none⟩)]) ∧ W.cell? ⟨w.heap.size + 1, 0, none⟩ = some (.string nm) ∧ W.cell? ⟨w.heap.size + 1 + 1, 0, none⟩ = some (.int .i64 kk) ∧ W.cell? ⟨w.heap.size + 1 + 1, 1, none⟩ = some (.string S) ∧ W.cell? ⟨w.heap.size + 1 + 1, 2, none⟩ = some (.slice la ln lc) ∧ W.cell? ⟨w.heap.size + 1 + 1, 3, none⟩ = some (.slice pa pn pc)) (first | with_reducible exact HS.out _ k2 | with_reducible exact HS.out _ k1 | with_reducible exact HS.out _ d0)
    (first
      | (go_at_call 52; refine HC.out.mono ?_; rintro e w1 ⟨ta, tc, rfl, T1, _, b1⟩; have k1 := d0.trans b1)
      | (go_at_call 51; refine (together_is b FA SA EA nd kp nm _ ts J _ (P0.next k1).sty.rule T1 htn Htb.out hnm hJ2.out).mono ?_; rintro e w2 ⟨rfl, b2⟩; have k2 := b_then k1 b2))
  all_goals go_wp2
  all_goals go_ret
  all_goals exact ⟨rfl, b_then P0.sty.bel k2⟩
set_option maxRecDepth 20000 in
set_option maxHeartbeats 4000000 in
theorem put_list (b : Nat) (r : Rl) (FA SA EA : ByteArray) (nd kp : Bool) (nm : ByteArray) (m : Int) (x : Value) (v : Vl) (J : ByteArray) (w : World) (R0 : Bx w b #[.string FA, .string SA, .bool nd, .string EA, .bool kp] 37) (H : VlAt w x v) (hl : v.l.length ≤ 1000) (hp : v.p.length ≤ 1000) (hts : ∀ y ∈ textsV v, y.length ≤ 10000) (hnm : nm.size ≤ 10000)
    (hS : SA.data.toList = r.sep) (hE : EA.data.toList = r.empty) (hn : r.named = nd) (hk : r.keep = kp) (he : EA.size ≤ 1) (hsa : SA.size ≤ 1) (kd : v.kind = 2) (hJ : J.data.toList = tellP r (spA nm m true) v) :
    Calls Try.prog 26 #[.agg #[.string FA, .string SA, .bool nd, .string EA, .bool kp, .func (.func 44) #[] #[.pointer (some ⟨b, 0, none⟩)]], .agg #[.string nm, .int .i64 m, .bool true], x] w fun e w' => e = .returned (.string J) ∧ Below w.heap.size w w' := by
  have H0 := hide H
  obtain ⟨sl, sp, rfl, Hl, Hp⟩ := H
  obtain ⟨la, lc, rfl⟩ := Hl.form
  obtain ⟨pa, pc, rfl⟩ := Hp.form
  obtain ⟨S, hSS⟩ : ∃ S : ByteArray, (⟨v.s.toArray⟩ : ByteArray) = S := ⟨_, rfl⟩
  have hSd : S.data.toList = v.s := by rw [← hSS]
  rw [hSS, kd] at H0 ⊢
  have P0 : Pu w _ b FA SA EA nd kp nm m true 2 S (.slice la v.l.length lc) (.slice pa v.p.length pc) := Pu.made R0
  obtain ⟨W0, hW0⟩ : ∃ W0, ((w.alloc (.cells #[.string FA, .string SA, .bool nd, .string EA, .bool kp, .func (.func 44) #[] #[.pointer (some ⟨b, 0, none⟩)]] 53)).alloc (.cells #[.string nm, .int .i64 m, .bool true] 23)).alloc (.cells #[.int .i64 2, .string S, .slice la v.l.length lc, .slice pa v.p.length pc] 27) = W0 := ⟨_, rfl⟩
  rw [hW0] at P0
  obtain ⟨ln, hln⟩ : ∃ n, v.l.length = n := ⟨_, rfl⟩
  obtain ⟨pn, hpn⟩ : ∃ n, v.p.length = n := ⟨_, rfl⟩
  have ht : textsV v = v.l := by unfold textsV; rw [if_neg (by omega), if_pos kd]
  have HJ2 : Hid (J.data.toList = joinL SA.data.toList (v.l.map (itL nd kp EA.data.toList nm.data.toList))) := by
    show J.data.toList = _
    rw [hJ, hS, hE, ← hn, ← hk]; unfold tellP listP; rw [if_neg (by omega), if_pos kd]; rfl
  have HC := hide (list_is b FA SA EA nd kp nm _ v.l J W0 P0.sty.rule (Hl.later P0.sty.bel) hl (by rw [← ht]; exact hts) hnm he hsa HJ2.out)
  obtain ⟨y0, y1, y2, y3, y4, y5, n0, v0, v1, v2, v3⟩ := P0.all
  have s2 := P0.spec.cell 2 _ rfl
  rw [hln] at HC v2
  rw [hpn] at v3
  rw [hln, hpn] at hW0 ⊢
  clear hSS hSd R0 Hl Hp hJ HJ2 kd hS hE hn hk hln hpn H0 hts hl hp ht
  go_enter Try.func26, Try.ntmps26
  go_wp2_with (go_at_call 53; refine HC.out.mono ?_; rintro e w1 ⟨rfl, bb⟩)
  go_ret
  exact ⟨rfl, b_then P0.sty.bel bb⟩
set_option maxRecDepth 20000 in
set_option maxHeartbeats 4000000 in
theorem put_pairs (b : Nat) (r : Rl) (FA SA EA : ByteArray) (nd kp : Bool) (nm : ByteArray) (m : Int) (x : Value) (v : Vl) (J : ByteArray) (w : World) (R0 : Bx w b #[.string FA, .string SA, .bool nd, .string EA, .bool kp] 37) (H : VlAt w x v) (hl : v.l.length ≤ 1000) (hp : v.p.length ≤ 1000) (hts : ∀ y ∈ textsV v, y.length ≤ 10000) (hnm : nm.size ≤ 10000)
    (hS : SA.data.toList = r.sep) (hE : EA.data.toList = r.empty) (hn : r.named = nd) (hk : r.keep = kp) (he : EA.size ≤ 1) (hsa : SA.size ≤ 1) (kd : v.kind = 3) (hJ : J.data.toList = tellP r (spA nm m true) v) :
    Calls Try.prog 26 #[.agg #[.string FA, .string SA, .bool nd, .string EA, .bool kp, .func (.func 44) #[] #[.pointer (some ⟨b, 0, none⟩)]], .agg #[.string nm, .int .i64 m, .bool true], x] w fun e w' => e = .returned (.string J) ∧ Below w.heap.size w w' := by
  have H0 := hide H
  obtain ⟨sl, sp, rfl, Hl, Hp⟩ := H
  obtain ⟨la, lc, rfl⟩ := Hl.form
  obtain ⟨pa, pc, rfl⟩ := Hp.form
  obtain ⟨S, hSS⟩ : ∃ S : ByteArray, (⟨v.s.toArray⟩ : ByteArray) = S := ⟨_, rfl⟩
  have hSd : S.data.toList = v.s := by rw [← hSS]
  rw [hSS, kd] at H0 ⊢
  have P0 : Pu w _ b FA SA EA nd kp nm m true 3 S (.slice la v.l.length lc) (.slice pa v.p.length pc) := Pu.made R0
  obtain ⟨W0, hW0⟩ : ∃ W0, ((w.alloc (.cells #[.string FA, .string SA, .bool nd, .string EA, .bool kp, .func (.func 44) #[] #[.pointer (some ⟨b, 0, none⟩)]] 53)).alloc (.cells #[.string nm, .int .i64 m, .bool true] 23)).alloc (.cells #[.int .i64 3, .string S, .slice la v.l.length lc, .slice pa v.p.length pc] 27) = W0 := ⟨_, rfl⟩
  rw [hW0] at P0
  obtain ⟨ln, hln⟩ : ∃ n, v.l.length = n := ⟨_, rfl⟩
  obtain ⟨pn, hpn⟩ : ∃ n, v.p.length = n := ⟨_, rfl⟩
  have ht : textsV v = flatP v.p := by unfold textsV; rw [if_neg (by omega), if_neg (by omega), if_pos kd]
  have htp : ∀ y ∈ v.p, y.1.length ≤ 10000 ∧ y.2.length ≤ 10000 := fun y hy => by
    have hf : y.1 ∈ flatP v.p ∧ y.2 ∈ flatP v.p := by
      unfold flatP
      exact ⟨List.mem_flatMap.2 ⟨y, hy, by simp⟩, List.mem_flatMap.2 ⟨y, hy, by simp⟩⟩
    rw [← ht] at hf
    exact ⟨hts _ hf.1, hts _ hf.2⟩
  have HJ2 : Hid (J.data.toList = joinL SA.data.toList (v.p.map (itQ nd kp EA.data.toList))) := by
    show J.data.toList = _
    rw [hJ, hS, hE, ← hn, ← hk]; unfold tellP listP; rw [if_neg (show ¬ v.kind = 1 by omega), if_neg (show ¬ v.kind = 2 by omega)]; rfl
  have HC := hide (pairs_is b FA SA EA nd kp _ v.p J W0 P0.sty.rule (Hp.later P0.sty.bel) hp htp he hsa HJ2.out)
  obtain ⟨y0, y1, y2, y3, y4, y5, n0, v0, v1, v2, v3⟩ := P0.all
  have s2 := P0.spec.cell 2 _ rfl
  rw [hpn] at HC v3
  rw [hln] at v2
  rw [hln, hpn] at hW0 ⊢
  clear hSS hSd R0 Hl Hp hJ HJ2 kd hS hE hn hk hln hpn H0 hts hl hp ht htp
  go_enter Try.func26, Try.ntmps26
  go_wp2_with (go_at_call 54; refine HC.out.mono ?_; rintro e w1 ⟨rfl, bb⟩)
  go_ret
  exact ⟨rfl, b_then P0.sty.bel bb⟩
end Go.Proofs.Ytpfcfadbilaleaa
/-
  WALKS: the program's One and Named (layer 11).
-/
namespace Go.Proofs.Ytpfcfadbilaleaa
open Go.RowKit
set_option linter.unusedVariables false

/-- what lies in memory once the style is made -/
structure Oq (w W : World) (sb k : Nat) (FA SA EA : ByteArray) (nd kp : Bool) (nm : ByteArray) (m : Int) (st : Bool) (kd : Int) (S : ByteArray) (sl sp : Value) : Prop where
  sty : Sy w W sb k FA SA EA nd kp
  spec : Bx W w.heap.size #[.string nm, .int .i64 m, .bool st] 23
  val : Bx W (w.heap.size + 1) #[.int .i64 kd, .string S, sl, sp] 27
section
variable {w W W' : World} {sb k : Nat} {FA SA EA : ByteArray} {nd kp : Bool} {nm : ByteArray} {m : Int} {st : Bool} {kd : Int} {S : ByteArray} {sl sp : Value}
theorem Oq.made (B0 : Below w.heap.size w W) (X : Bx W w.heap.size #[.string nm, .int .i64 m, .bool st] 23) (V : Bx W (w.heap.size + 1) #[.int .i64 kd, .string S, sl, sp] 27) (R : Bx W sb #[.string FA, .string SA, .bool nd, .string EA, .bool kp] 37) :
    Oq w (W.alloc (.cells #[.string FA, .string SA, .bool nd, .string EA, .bool kp, .func (.func 44) #[] #[.pointer (some ⟨sb, 0, none⟩)]] 53)) sb W.heap.size FA SA EA nd kp nm m st kd S sl sp :=
  ⟨⟨b_more B0 _, Bx.made W _ _, R.later _⟩, X.later _, V.later _⟩
theorem Oq.next (h : Oq w W sb k FA SA EA nd kp nm m st kd S sl sp) (bb : Below W.heap.size W W') : Oq w W' sb k FA SA EA nd kp nm m st kd S sl sp := ⟨h.sty.next bb, h.spec.next bb, h.val.next bb⟩
theorem Oq.some (h : Oq w W sb k FA SA EA nd kp nm m st kd S sl sp) : W.cell? ⟨w.heap.size, 0, none⟩ = some (.string nm) ∧ W.cell? ⟨w.heap.size, 1, none⟩ = some (.int .i64 m) ∧ W.cell? ⟨w.heap.size, 2, none⟩ = some (.bool st) ∧ W.cell? ⟨w.heap.size + 1, 0, none⟩ = some (.int .i64 kd) ∧ W.cell? ⟨w.heap.size + 1, 1, none⟩ = some (.string S) ∧ W.cell? ⟨w.heap.size + 1, 2, none⟩ = some sl ∧ W.cell? ⟨w.heap.size + 1, 3, none⟩ = some sp := by
  obtain ⟨a, b, c⟩ := cells3 h.spec
  obtain ⟨d, e, f, g⟩ := cells4 h.val
  exact ⟨a, b, c, d, e, f, g⟩
end
/-- what put tells of a value that is defined -/
theorem pput_is (b : Nat) (r : Rl) (FA SA EA : ByteArray) (nd kp : Bool) (nm : ByteArray) (m : Int) (st : Bool) (x : Value) (v : Vl) (J : ByteArray) (w : World) (R0 : Bx w b #[.string FA, .string SA, .bool nd, .string EA, .bool kp] 37) (H : VlAt w x v) (hl : v.l.length ≤ 1000) (hp : v.p.length ≤ 1000) (hts : ∀ y ∈ textsV v, y.length ≤ 10000) (hnm : nm.size ≤ 10000)
    (hS : SA.data.toList = r.sep) (hE : EA.data.toList = r.empty) (hn : r.named = nd) (hk : r.keep = kp) (he : EA.size ≤ 1) (hsa : SA.size ≤ 1) (hm : 0 ≤ m) (hd : definedV v = true) (hJ : J.data.toList = tellP r (spA nm m st) v) :
    Calls Try.prog 26 #[.agg #[.string FA, .string SA, .bool nd, .string EA, .bool kp, .func (.func 44) #[] #[.pointer (some ⟨b, 0, none⟩)]], .agg #[.string nm, .int .i64 m, .bool st], x] w fun e w' => e = .returned (.string J) ∧ Below w.heap.size w w' := by
  by_cases h1 : v.kind = 1
  · exact put_text b r FA SA EA nd kp nm m st x v J w R0 H hl hp hts hnm hS hE hn hk he hsa hm h1 hJ
  · cases st with
    | false => exact put_flat b r FA SA EA nd kp nm m x v J w R0 H hl hp hts hnm hS hE hn hk he hsa h1 hJ
    | true =>
      by_cases h2 : v.kind = 2
      · exact put_list b r FA SA EA nd kp nm m x v J w R0 H hl hp hts hnm hS hE hn hk he hsa h2 hJ
      · have h3 : v.kind = 3 := by
          rcases kinds_of v with ⟨h, _⟩ | ⟨_, _, h⟩
          · rw [h] at hd; cases hd
          · omega
        exact put_pairs b r FA SA EA nd kp nm m x v J w R0 H hl hp hts hnm hS hE hn hk he hsa h3 hJ
set_option maxRecDepth 20000 in
set_option maxHeartbeats 4000000 in
theorem pone_no (n : Int) (nm : ByteArray) (m : Int) (st : Bool) (x : Value) (v : Vl) (w : World) (h0 : 0 ≤ n) (h1 : n ≤ 255) (H : VlAt w x v) (ho : opZ n.toNat = false) :
    Calls Try.prog 10 #[.int .u8 n, .agg #[.string nm, .int .i64 m, .bool st], x] w fun e w' => e = .returned (.tuple #[.string ⟨#[]⟩, .bool false, .int .i64 1]) ∧ Below w.heap.size w w' := by
  obtain ⟨sl, sp, rfl, _, _⟩ := H
  have B0 := b_more (b_alloc w (.cells #[.string nm, .int .i64 m, .bool st] 23)) (.cells #[.int .i64 v.kind, .string ⟨v.s.toArray⟩, sl, sp] 27)
  have HP := hide (fun W => pof_no n W h0 h1 ho)
  clear ho
  go_enter Try.func10, Try.ntmps10
  go_wp2_with (go_at_call 22; refine (style_is n _ _ _ _ _ _ _ HP.out).mono ?_; rintro e w1 ⟨sb, rfl, G, bb⟩)
  go_ret3
  exact ⟨rfl, b_more (b_then B0 bb) _⟩
set_option maxRecDepth 20000 in
set_option maxHeartbeats 4000000 in
theorem pone_bad (n : Int) (nm : ByteArray) (m : Int) (st : Bool) (x : Value) (v : Vl) (w : World) (h0 : 0 ≤ n) (H : VlAt w x v) (hl : v.l.length ≤ 1000) (hp : v.p.length ≤ 1000) (hts : ∀ y ∈ textsV v, y.length ≤ 10000) (hnm : nm.size ≤ 10000) (ho : opZ n.toNat = true) (hm : mayX (spA nm m st) = false) :
    Calls Try.prog 10 #[.int .u8 n, .agg #[.string nm, .int .i64 m, .bool st], x] w fun e w' => e = .returned (.tuple #[.string ⟨#[]⟩, .bool false, .int .i64 1]) ∧ Below w.heap.size w w' := by
  have H0 := hide H
  obtain ⟨sl, sp, rfl, _, _⟩ := H
  obtain ⟨S, hSS⟩ : ∃ S : ByteArray, (⟨v.s.toArray⟩ : ByteArray) = S := ⟨_, rfl⟩
  obtain ⟨kd, hkd⟩ : ∃ k, v.kind = k := ⟨_, rfl⟩
  rw [hSS, hkd] at H0 ⊢
  obtain ⟨r, hr⟩ : ∃ r, rlN n.toNat = r := ⟨_, rfl⟩
  have hse : r.sep.length = 1 ∧ r.empty.length ≤ 1 := by rw [← hr]; exact (rule_small ho).2
  obtain ⟨FA, hFA⟩ : ∃ FA : ByteArray, (⟨r.first.toArray⟩ : ByteArray) = FA := ⟨_, rfl⟩
  obtain ⟨SA, hSA⟩ : ∃ SA : ByteArray, (⟨r.sep.toArray⟩ : ByteArray) = SA := ⟨_, rfl⟩
  obtain ⟨EA, hEA⟩ : ∃ EA : ByteArray, (⟨r.empty.toArray⟩ : ByteArray) = EA := ⟨_, rfl⟩
  obtain ⟨nd, hnd⟩ : ∃ b, r.named = b := ⟨_, rfl⟩
  obtain ⟨kp, hkp⟩ : ∃ b, r.keep = b := ⟨_, rfl⟩
  have hrv : rlV r = .agg #[.string FA, .string SA, .bool nd, .string EA, .bool kp] := by unfold rlV; rw [hFA, hSA, hEA, hnd, hkp]
  have HS : Hid (SA.data.toList = r.sep) := by rw [← hSA]; exact rfl
  have HE : Hid (EA.data.toList = r.empty) := by rw [← hEA]; exact rfl
  have hsa : SA.size ≤ 1 := by rw [size_list, HS.out]; omega
  have hea : EA.size ≤ 1 := by rw [size_list, HE.out]; omega
  have HP := hide (fun W => pof_yes n FA SA EA nd kp W h0 ho (by rw [hr]; exact hrv))
  have HM := hide hm
  clear hm
  have Hnd := hide hnd
  have Hkp := hide hkp
  have Hts := hide hts
  have B0 := b_more (b_alloc w (.cells #[.string nm, .int .i64 m, .bool st] 23)) (.cells #[.int .i64 kd, .string S, sl, sp] 27)
  have X0 := (Bx.made w #[.string nm, .int .i64 m, .bool st] 23).later (.cells #[.int .i64 kd, .string S, sl, sp] 27)
  have V0 := Bx.made (w.alloc (.cells #[.string nm, .int .i64 m, .bool st] 23)) #[.int .i64 kd, .string S, sl, sp] 27
  rw [show (w.alloc (.cells #[.string nm, .int .i64 m, .bool st] 23)).heap.size = w.heap.size + 1 by simp] at V0
  clear hrv hSA hEA hFA hnd hkp hSS hkd hts ho hr
  go_enter Try.func10, Try.ntmps10
  go_wp2_with (first
    | (go_at_call 22; refine (style_is n FA SA EA nd kp true _ HP.out).mono ?_; rintro e w1 ⟨sb, rfl, G, bb⟩; have P := Oq.made (b_then B0 bb) (X0.next bb) (V0.next bb) G; obtain ⟨s0, s1, s2, v0, v1, v2, v3⟩ := P.some)
    | (go_at_call 23; refine (pxmay_is nm m st false _ (by omega) HM.out).mono ?_; rintro e w2 ⟨rfl, b2⟩; replace P := P.next b2; clear s0 s1 s2 v0 v1 v2 v3; obtain ⟨s0, s1, s2, v0, v1, v2, v3⟩ := P.some)
    )
  go_ret3
  exact ⟨rfl, P.sty.bel⟩
set_option maxRecDepth 20000 in
set_option maxHeartbeats 4000000 in
theorem pone_none (n : Int) (nm : ByteArray) (m : Int) (st : Bool) (x : Value) (v : Vl) (w : World) (h0 : 0 ≤ n) (H : VlAt w x v) (hl : v.l.length ≤ 1000) (hp : v.p.length ≤ 1000) (hts : ∀ y ∈ textsV v, y.length ≤ 10000) (hnm : nm.size ≤ 10000) (ho : opZ n.toNat = true) (hm : mayX (spA nm m st) = true) (hd : definedV v = false) :
    Calls Try.prog 10 #[.int .u8 n, .agg #[.string nm, .int .i64 m, .bool st], x] w fun e w' => e = .returned (.tuple #[.string ⟨#[]⟩, .bool false, .int .i64 0]) ∧ Below w.heap.size w w' := by
  have H0 := hide H
  obtain ⟨sl, sp, rfl, _, _⟩ := H
  obtain ⟨S, hSS⟩ : ∃ S : ByteArray, (⟨v.s.toArray⟩ : ByteArray) = S := ⟨_, rfl⟩
  obtain ⟨kd, hkd⟩ : ∃ k, v.kind = k := ⟨_, rfl⟩
  rw [hSS, hkd] at H0 ⊢
  obtain ⟨r, hr⟩ : ∃ r, rlN n.toNat = r := ⟨_, rfl⟩
  have hse : r.sep.length = 1 ∧ r.empty.length ≤ 1 := by rw [← hr]; exact (rule_small ho).2
  obtain ⟨FA, hFA⟩ : ∃ FA : ByteArray, (⟨r.first.toArray⟩ : ByteArray) = FA := ⟨_, rfl⟩
  obtain ⟨SA, hSA⟩ : ∃ SA : ByteArray, (⟨r.sep.toArray⟩ : ByteArray) = SA := ⟨_, rfl⟩
  obtain ⟨EA, hEA⟩ : ∃ EA : ByteArray, (⟨r.empty.toArray⟩ : ByteArray) = EA := ⟨_, rfl⟩
  obtain ⟨nd, hnd⟩ : ∃ b, r.named = b := ⟨_, rfl⟩
  obtain ⟨kp, hkp⟩ : ∃ b, r.keep = b := ⟨_, rfl⟩
  have hrv : rlV r = .agg #[.string FA, .string SA, .bool nd, .string EA, .bool kp] := by unfold rlV; rw [hFA, hSA, hEA, hnd, hkp]
  have HS : Hid (SA.data.toList = r.sep) := by rw [← hSA]; exact rfl
  have HE : Hid (EA.data.toList = r.empty) := by rw [← hEA]; exact rfl
  have hsa : SA.size ≤ 1 := by rw [size_list, HS.out]; omega
  have hea : EA.size ≤ 1 := by rw [size_list, HE.out]; omega
  have HP := hide (fun W => pof_yes n FA SA EA nd kp W h0 ho (by rw [hr]; exact hrv))
  have HM := hide hm
  clear hm
  have HD := hide hd
  clear hd
  have Hnd := hide hnd
  have Hkp := hide hkp
  have Hts := hide hts
  have B0 := b_more (b_alloc w (.cells #[.string nm, .int .i64 m, .bool st] 23)) (.cells #[.int .i64 kd, .string S, sl, sp] 27)
  have X0 := (Bx.made w #[.string nm, .int .i64 m, .bool st] 23).later (.cells #[.int .i64 kd, .string S, sl, sp] 27)
  have V0 := Bx.made (w.alloc (.cells #[.string nm, .int .i64 m, .bool st] 23)) #[.int .i64 kd, .string S, sl, sp] 27
  rw [show (w.alloc (.cells #[.string nm, .int .i64 m, .bool st] 23)).heap.size = w.heap.size + 1 by simp] at V0
  clear hrv hSA hEA hFA hnd hkp hSS hkd hts ho hr
  go_enter Try.func10, Try.ntmps10
  go_wp2_with (first
    | (go_at_call 22; refine (style_is n FA SA EA nd kp true _ HP.out).mono ?_; rintro e w1 ⟨sb, rfl, G, bb⟩; have P := Oq.made (b_then B0 bb) (X0.next bb) (V0.next bb) G; obtain ⟨s0, s1, s2, v0, v1, v2, v3⟩ := P.some)
    | (go_at_call 23; refine (pxmay_is nm m st true _ (by omega) HM.out).mono ?_; rintro e w2 ⟨rfl, b2⟩; replace P := P.next b2; clear s0 s1 s2 v0 v1 v2 v3; obtain ⟨s0, s1, s2, v0, v1, v2, v3⟩ := P.some)
    | (go_at_call 24; refine (defined_any _ v false _ (H0.out.later P.sty.bel) (by omega) HD.out).mono ?_; rintro e w3 ⟨rfl, b3⟩; replace P := P.next b3; clear s0 s1 s2 v0 v1 v2 v3; obtain ⟨s0, s1, s2, v0, v1, v2, v3⟩ := P.some)
    )
  go_ret3
  exact ⟨rfl, P.sty.bel⟩
set_option maxRecDepth 20000 in
set_option maxHeartbeats 4000000 in
theorem pone_prefix (n : Int) (nm : ByteArray) (m : Int) (st : Bool) (x : Value) (v : Vl) (w : World) (h0 : 0 ≤ n) (H : VlAt w x v) (hl : v.l.length ≤ 1000) (hp : v.p.length ≤ 1000) (hts : ∀ y ∈ textsV v, y.length ≤ 10000) (hnm : nm.size ≤ 10000) (ho : opZ n.toNat = true) (hm : mayX (spA nm m st) = true) (hd : definedV v = true) (hm0 : 0 < m) (hk1 : ¬ v.kind = 1) :
    Calls Try.prog 10 #[.int .u8 n, .agg #[.string nm, .int .i64 m, .bool st], x] w fun e w' => e = .returned (.tuple #[.string ⟨#[]⟩, .bool false, .int .i64 4]) ∧ Below w.heap.size w w' := by
  have H0 := hide H
  obtain ⟨sl, sp, rfl, _, _⟩ := H
  obtain ⟨S, hSS⟩ : ∃ S : ByteArray, (⟨v.s.toArray⟩ : ByteArray) = S := ⟨_, rfl⟩
  obtain ⟨kd, hkd⟩ : ∃ k, v.kind = k := ⟨_, rfl⟩
  rw [hSS, hkd] at H0 ⊢
  obtain ⟨r, hr⟩ : ∃ r, rlN n.toNat = r := ⟨_, rfl⟩
  have hse : r.sep.length = 1 ∧ r.empty.length ≤ 1 := by rw [← hr]; exact (rule_small ho).2
  obtain ⟨FA, hFA⟩ : ∃ FA : ByteArray, (⟨r.first.toArray⟩ : ByteArray) = FA := ⟨_, rfl⟩
  obtain ⟨SA, hSA⟩ : ∃ SA : ByteArray, (⟨r.sep.toArray⟩ : ByteArray) = SA := ⟨_, rfl⟩
  obtain ⟨EA, hEA⟩ : ∃ EA : ByteArray, (⟨r.empty.toArray⟩ : ByteArray) = EA := ⟨_, rfl⟩
  obtain ⟨nd, hnd⟩ : ∃ b, r.named = b := ⟨_, rfl⟩
  obtain ⟨kp, hkp⟩ : ∃ b, r.keep = b := ⟨_, rfl⟩
  have hrv : rlV r = .agg #[.string FA, .string SA, .bool nd, .string EA, .bool kp] := by unfold rlV; rw [hFA, hSA, hEA, hnd, hkp]
  have HS : Hid (SA.data.toList = r.sep) := by rw [← hSA]; exact rfl
  have HE : Hid (EA.data.toList = r.empty) := by rw [← hEA]; exact rfl
  have hsa : SA.size ≤ 1 := by rw [size_list, HS.out]; omega
  have hea : EA.size ≤ 1 := by rw [size_list, HE.out]; omega
  have HP := hide (fun W => pof_yes n FA SA EA nd kp W h0 ho (by rw [hr]; exact hrv))
  rw [hkd] at hk1
  have hm1 : ¬ m = 0 := by omega
  have hm2 : (m == 0) = false := by simp [hm1]
  have hk2 : (kd == 1) = false := by simp [hk1]
  have hm3 : (m != 0) = true := by simp [hm1]
  have hk3 : (kd != 1) = true := by simp [hk1]
  have HM := hide hm
  clear hm
  have HD := hide hd
  clear hd
  have Hnd := hide hnd
  have Hkp := hide hkp
  have Hts := hide hts
  have B0 := b_more (b_alloc w (.cells #[.string nm, .int .i64 m, .bool st] 23)) (.cells #[.int .i64 kd, .string S, sl, sp] 27)
  have X0 := (Bx.made w #[.string nm, .int .i64 m, .bool st] 23).later (.cells #[.int .i64 kd, .string S, sl, sp] 27)
  have V0 := Bx.made (w.alloc (.cells #[.string nm, .int .i64 m, .bool st] 23)) #[.int .i64 kd, .string S, sl, sp] 27
  rw [show (w.alloc (.cells #[.string nm, .int .i64 m, .bool st] 23)).heap.size = w.heap.size + 1 by simp] at V0
  clear hrv hSA hEA hFA hnd hkp hSS hkd hts ho hr
  go_enter Try.func10, Try.ntmps10
  go_wp2_with (first
    | (go_at_call 22; refine (style_is n FA SA EA nd kp true _ HP.out).mono ?_; rintro e w1 ⟨sb, rfl, G, bb⟩; have P := Oq.made (b_then B0 bb) (X0.next bb) (V0.next bb) G; obtain ⟨s0, s1, s2, v0, v1, v2, v3⟩ := P.some)
    | (go_at_call 23; refine (pxmay_is nm m st true _ (by omega) HM.out).mono ?_; rintro e w2 ⟨rfl, b2⟩; replace P := P.next b2; clear s0 s1 s2 v0 v1 v2 v3; obtain ⟨s0, s1, s2, v0, v1, v2, v3⟩ := P.some)
    | (go_at_call 24; refine (defined_any _ v true _ (H0.out.later P.sty.bel) (by omega) HD.out).mono ?_; rintro e w3 ⟨rfl, b3⟩; replace P := P.next b3; clear s0 s1 s2 v0 v1 v2 v3; obtain ⟨s0, s1, s2, v0, v1, v2, v3⟩ := P.some)
    )
  go_ret3
  exact ⟨rfl, P.sty.bel⟩
set_option maxRecDepth 20000 in
set_option maxHeartbeats 4000000 in
theorem pone_utf0 (n : Int) (nm : ByteArray) (m : Int) (st : Bool) (x : Value) (v : Vl) (w : World) (h0 : 0 ≤ n) (H : VlAt w x v) (hl : v.l.length ≤ 1000) (hp : v.p.length ≤ 1000) (hts : ∀ y ∈ textsV v, y.length ≤ 10000) (hnm : nm.size ≤ 10000) (ho : opZ n.toNat = true) (hm : mayX (spA nm m st) = true) (hd : definedV v = true) (hv : validV v = false) (hm0 : m = 0) :
    Calls Try.prog 10 #[.int .u8 n, .agg #[.string nm, .int .i64 m, .bool st], x] w fun e w' => e = .returned (.tuple #[.string ⟨#[]⟩, .bool false, .int .i64 3]) ∧ Below w.heap.size w w' := by
  have H0 := hide H
  obtain ⟨sl, sp, rfl, _, _⟩ := H
  obtain ⟨S, hSS⟩ : ∃ S : ByteArray, (⟨v.s.toArray⟩ : ByteArray) = S := ⟨_, rfl⟩
  obtain ⟨kd, hkd⟩ : ∃ k, v.kind = k := ⟨_, rfl⟩
  rw [hSS, hkd] at H0 ⊢
  obtain ⟨r, hr⟩ : ∃ r, rlN n.toNat = r := ⟨_, rfl⟩
  have hse : r.sep.length = 1 ∧ r.empty.length ≤ 1 := by rw [← hr]; exact (rule_small ho).2
  obtain ⟨FA, hFA⟩ : ∃ FA : ByteArray, (⟨r.first.toArray⟩ : ByteArray) = FA := ⟨_, rfl⟩
  obtain ⟨SA, hSA⟩ : ∃ SA : ByteArray, (⟨r.sep.toArray⟩ : ByteArray) = SA := ⟨_, rfl⟩
  obtain ⟨EA, hEA⟩ : ∃ EA : ByteArray, (⟨r.empty.toArray⟩ : ByteArray) = EA := ⟨_, rfl⟩
  obtain ⟨nd, hnd⟩ : ∃ b, r.named = b := ⟨_, rfl⟩
  obtain ⟨kp, hkp⟩ : ∃ b, r.keep = b := ⟨_, rfl⟩
  have hrv : rlV r = .agg #[.string FA, .string SA, .bool nd, .string EA, .bool kp] := by unfold rlV; rw [hFA, hSA, hEA, hnd, hkp]
  have HS : Hid (SA.data.toList = r.sep) := by rw [← hSA]; exact rfl
  have HE : Hid (EA.data.toList = r.empty) := by rw [← hEA]; exact rfl
  have hsa : SA.size ≤ 1 := by rw [size_list, HS.out]; omega
  have hea : EA.size ≤ 1 := by rw [size_list, HE.out]; omega
  have HP := hide (fun W => pof_yes n FA SA EA nd kp W h0 ho (by rw [hr]; exact hrv))
  subst hm0
  have HM := hide hm
  clear hm
  have HD := hide hd
  clear hd
  have HV := hide hv
  clear hv
  have Hnd := hide hnd
  have Hkp := hide hkp
  have Hts := hide hts
  have B0 := b_more (b_alloc w (.cells #[.string nm, .int .i64 0, .bool st] 23)) (.cells #[.int .i64 kd, .string S, sl, sp] 27)
  have X0 := (Bx.made w #[.string nm, .int .i64 0, .bool st] 23).later (.cells #[.int .i64 kd, .string S, sl, sp] 27)
  have V0 := Bx.made (w.alloc (.cells #[.string nm, .int .i64 0, .bool st] 23)) #[.int .i64 kd, .string S, sl, sp] 27
  rw [show (w.alloc (.cells #[.string nm, .int .i64 0, .bool st] 23)).heap.size = w.heap.size + 1 by simp] at V0
  clear hrv hSA hEA hFA hnd hkp hSS hkd hts ho hr
  go_enter Try.func10, Try.ntmps10
  go_wp2_with (first
    | (go_at_call 22; refine (style_is n FA SA EA nd kp true _ HP.out).mono ?_; rintro e w1 ⟨sb, rfl, G, bb⟩; have P := Oq.made (b_then B0 bb) (X0.next bb) (V0.next bb) G; obtain ⟨s0, s1, s2, v0, v1, v2, v3⟩ := P.some)
    | (go_at_call 23; refine (pxmay_is nm 0 st true _ (by omega) HM.out).mono ?_; rintro e w2 ⟨rfl, b2⟩; replace P := P.next b2; clear s0 s1 s2 v0 v1 v2 v3; obtain ⟨s0, s1, s2, v0, v1, v2, v3⟩ := P.some)
    | (go_at_call 24; refine (defined_any _ v true _ (H0.out.later P.sty.bel) (by omega) HD.out).mono ?_; rintro e w3 ⟨rfl, b3⟩; replace P := P.next b3; clear s0 s1 s2 v0 v1 v2 v3; obtain ⟨s0, s1, s2, v0, v1, v2, v3⟩ := P.some)
    | (go_at_call 25; refine (pvalid_any _ v false _ (H0.out.later P.sty.bel) (by omega) (by omega) (fun y hy => by have := Hts.out y hy; omega) HV.out).mono ?_; rintro e w4 ⟨rfl, b4⟩; replace P := P.next b4; clear s0 s1 s2 v0 v1 v2 v3; obtain ⟨s0, s1, s2, v0, v1, v2, v3⟩ := P.some; obtain ⟨y0, y1, y2, y3, y4, y5⟩ := P.sty.all)
    )
  go_ret3
  exact ⟨rfl, P.sty.bel⟩
set_option maxRecDepth 20000 in
set_option maxHeartbeats 4000000 in
theorem pone_utf1 (n : Int) (nm : ByteArray) (m : Int) (st : Bool) (x : Value) (v : Vl) (w : World) (h0 : 0 ≤ n) (H : VlAt w x v) (hl : v.l.length ≤ 1000) (hp : v.p.length ≤ 1000) (hts : ∀ y ∈ textsV v, y.length ≤ 10000) (hnm : nm.size ≤ 10000) (ho : opZ n.toNat = true) (hm : mayX (spA nm m st) = true) (hd : definedV v = true) (hv : validV v = false) (hm0 : ¬ m = 0) (hk1 : v.kind = 1) :
    Calls Try.prog 10 #[.int .u8 n, .agg #[.string nm, .int .i64 m, .bool st], x] w fun e w' => e = .returned (.tuple #[.string ⟨#[]⟩, .bool false, .int .i64 3]) ∧ Below w.heap.size w w' := by
  have H0 := hide H
  obtain ⟨sl, sp, rfl, _, _⟩ := H
  obtain ⟨S, hSS⟩ : ∃ S : ByteArray, (⟨v.s.toArray⟩ : ByteArray) = S := ⟨_, rfl⟩
  obtain ⟨kd, hkd⟩ : ∃ k, v.kind = k := ⟨_, rfl⟩
  rw [hSS, hkd] at H0 ⊢
  obtain ⟨r, hr⟩ : ∃ r, rlN n.toNat = r := ⟨_, rfl⟩
  have hse : r.sep.length = 1 ∧ r.empty.length ≤ 1 := by rw [← hr]; exact (rule_small ho).2
  obtain ⟨FA, hFA⟩ : ∃ FA : ByteArray, (⟨r.first.toArray⟩ : ByteArray) = FA := ⟨_, rfl⟩
  obtain ⟨SA, hSA⟩ : ∃ SA : ByteArray, (⟨r.sep.toArray⟩ : ByteArray) = SA := ⟨_, rfl⟩
  obtain ⟨EA, hEA⟩ : ∃ EA : ByteArray, (⟨r.empty.toArray⟩ : ByteArray) = EA := ⟨_, rfl⟩
  obtain ⟨nd, hnd⟩ : ∃ b, r.named = b := ⟨_, rfl⟩
  obtain ⟨kp, hkp⟩ : ∃ b, r.keep = b := ⟨_, rfl⟩
  have hrv : rlV r = .agg #[.string FA, .string SA, .bool nd, .string EA, .bool kp] := by unfold rlV; rw [hFA, hSA, hEA, hnd, hkp]
  have HS : Hid (SA.data.toList = r.sep) := by rw [← hSA]; exact rfl
  have HE : Hid (EA.data.toList = r.empty) := by rw [← hEA]; exact rfl
  have hsa : SA.size ≤ 1 := by rw [size_list, HS.out]; omega
  have hea : EA.size ≤ 1 := by rw [size_list, HE.out]; omega
  have HP := hide (fun W => pof_yes n FA SA EA nd kp W h0 ho (by rw [hr]; exact hrv))
  have hk2 : kd = 1 := hkd.symm.trans hk1
  subst hk2
  clear hk1
  have HM := hide hm
  clear hm
  have HD := hide hd
  clear hd
  have HV := hide hv
  clear hv
  have Hnd := hide hnd
  have Hkp := hide hkp
  have Hts := hide hts
  have B0 := b_more (b_alloc w (.cells #[.string nm, .int .i64 m, .bool st] 23)) (.cells #[.int .i64 1, .string S, sl, sp] 27)
  have X0 := (Bx.made w #[.string nm, .int .i64 m, .bool st] 23).later (.cells #[.int .i64 1, .string S, sl, sp] 27)
  have V0 := Bx.made (w.alloc (.cells #[.string nm, .int .i64 m, .bool st] 23)) #[.int .i64 1, .string S, sl, sp] 27
  rw [show (w.alloc (.cells #[.string nm, .int .i64 m, .bool st] 23)).heap.size = w.heap.size + 1 by simp] at V0
  clear hrv hSA hEA hFA hnd hkp hSS hkd hts ho hr
  go_enter Try.func10, Try.ntmps10
  go_wp2_with (first
    | (go_at_call 22; refine (style_is n FA SA EA nd kp true _ HP.out).mono ?_; rintro e w1 ⟨sb, rfl, G, bb⟩; have P := Oq.made (b_then B0 bb) (X0.next bb) (V0.next bb) G; obtain ⟨s0, s1, s2, v0, v1, v2, v3⟩ := P.some)
    | (go_at_call 23; refine (pxmay_is nm m st true _ (by omega) HM.out).mono ?_; rintro e w2 ⟨rfl, b2⟩; replace P := P.next b2; clear s0 s1 s2 v0 v1 v2 v3; obtain ⟨s0, s1, s2, v0, v1, v2, v3⟩ := P.some)
    | (go_at_call 24; refine (defined_any _ v true _ (H0.out.later P.sty.bel) (by omega) HD.out).mono ?_; rintro e w3 ⟨rfl, b3⟩; replace P := P.next b3; clear s0 s1 s2 v0 v1 v2 v3; obtain ⟨s0, s1, s2, v0, v1, v2, v3⟩ := P.some)
    | (go_at_call 25; refine (pvalid_any _ v false _ (H0.out.later P.sty.bel) (by omega) (by omega) (fun y hy => by have := Hts.out y hy; omega) HV.out).mono ?_; rintro e w4 ⟨rfl, b4⟩; replace P := P.next b4; clear s0 s1 s2 v0 v1 v2 v3; obtain ⟨s0, s1, s2, v0, v1, v2, v3⟩ := P.some; obtain ⟨y0, y1, y2, y3, y4, y5⟩ := P.sty.all)
    )
  go_ret3
  exact ⟨rfl, P.sty.bel⟩
set_option maxRecDepth 20000 in
set_option maxHeartbeats 4000000 in
theorem pone_yes0 (n : Int) (nm : ByteArray) (m : Int) (st : Bool) (x : Value) (v : Vl) (T : ByteArray) (w : World) (h0 : 0 ≤ n) (H : VlAt w x v) (hl : v.l.length ≤ 1000) (hp : v.p.length ≤ 1000) (hts : ∀ y ∈ textsV v, y.length ≤ 10000) (hnm : nm.size ≤ 10000) (ho : opZ n.toNat = true) (hmm : 0 ≤ m) (hm : mayX (spA nm m st) = true) (hd : definedV v = true) (hv : validV v = true) (hm0 : m = 0) (hT : T.data.toList = tellP (rlN n.toNat) (spA nm m st) v) :
    Calls Try.prog 10 #[.int .u8 n, .agg #[.string nm, .int .i64 m, .bool st], x] w fun e w' => e = .returned (.tuple #[.string T, .bool true, .int .i64 0]) ∧ Below w.heap.size w w' := by
  have H0 := hide H
  obtain ⟨sl, sp, rfl, _, _⟩ := H
  obtain ⟨S, hSS⟩ : ∃ S : ByteArray, (⟨v.s.toArray⟩ : ByteArray) = S := ⟨_, rfl⟩
  obtain ⟨kd, hkd⟩ : ∃ k, v.kind = k := ⟨_, rfl⟩
  rw [hSS, hkd] at H0 ⊢
  obtain ⟨r, hr⟩ : ∃ r, rlN n.toNat = r := ⟨_, rfl⟩
  have hse : r.sep.length = 1 ∧ r.empty.length ≤ 1 := by rw [← hr]; exact (rule_small ho).2
  obtain ⟨FA, hFA⟩ : ∃ FA : ByteArray, (⟨r.first.toArray⟩ : ByteArray) = FA := ⟨_, rfl⟩
  obtain ⟨SA, hSA⟩ : ∃ SA : ByteArray, (⟨r.sep.toArray⟩ : ByteArray) = SA := ⟨_, rfl⟩
  obtain ⟨EA, hEA⟩ : ∃ EA : ByteArray, (⟨r.empty.toArray⟩ : ByteArray) = EA := ⟨_, rfl⟩
  obtain ⟨nd, hnd⟩ : ∃ b, r.named = b := ⟨_, rfl⟩
  obtain ⟨kp, hkp⟩ : ∃ b, r.keep = b := ⟨_, rfl⟩
  have hrv : rlV r = .agg #[.string FA, .string SA, .bool nd, .string EA, .bool kp] := by unfold rlV; rw [hFA, hSA, hEA, hnd, hkp]
  have HS : Hid (SA.data.toList = r.sep) := by rw [← hSA]; exact rfl
  have HE : Hid (EA.data.toList = r.empty) := by rw [← hEA]; exact rfl
  have hsa : SA.size ≤ 1 := by rw [size_list, HS.out]; omega
  have hea : EA.size ≤ 1 := by rw [size_list, HE.out]; omega
  have HP := hide (fun W => pof_yes n FA SA EA nd kp W h0 ho (by rw [hr]; exact hrv))
  rw [hr] at hT
  have HT := hide hT
  have HMm : Hid (0 ≤ m) := hmm
  subst hm0
  have HM := hide hm
  clear hm
  have HD := hide hd
  clear hd
  have HV := hide hv
  clear hv
  have Hnd := hide hnd
  have Hkp := hide hkp
  have Hts := hide hts
  have B0 := b_more (b_alloc w (.cells #[.string nm, .int .i64 0, .bool st] 23)) (.cells #[.int .i64 kd, .string S, sl, sp] 27)
  have X0 := (Bx.made w #[.string nm, .int .i64 0, .bool st] 23).later (.cells #[.int .i64 kd, .string S, sl, sp] 27)
  have V0 := Bx.made (w.alloc (.cells #[.string nm, .int .i64 0, .bool st] 23)) #[.int .i64 kd, .string S, sl, sp] 27
  rw [show (w.alloc (.cells #[.string nm, .int .i64 0, .bool st] 23)).heap.size = w.heap.size + 1 by simp] at V0
  clear hrv hSA hEA hFA hnd hkp hSS hkd hts ho hr hT
  go_enter Try.func10, Try.ntmps10
  go_wp2_with (first
    | (go_at_call 22; refine (style_is n FA SA EA nd kp true _ HP.out).mono ?_; rintro e w1 ⟨sb, rfl, G, bb⟩; have P := Oq.made (b_then B0 bb) (X0.next bb) (V0.next bb) G; obtain ⟨s0, s1, s2, v0, v1, v2, v3⟩ := P.some)
    | (go_at_call 23; refine (pxmay_is nm 0 st true _ (by omega) HM.out).mono ?_; rintro e w2 ⟨rfl, b2⟩; replace P := P.next b2; clear s0 s1 s2 v0 v1 v2 v3; obtain ⟨s0, s1, s2, v0, v1, v2, v3⟩ := P.some)
    | (go_at_call 24; refine (defined_any _ v true _ (H0.out.later P.sty.bel) (by omega) HD.out).mono ?_; rintro e w3 ⟨rfl, b3⟩; replace P := P.next b3; clear s0 s1 s2 v0 v1 v2 v3; obtain ⟨s0, s1, s2, v0, v1, v2, v3⟩ := P.some)
    | (go_at_call 25; refine (pvalid_any _ v true _ (H0.out.later P.sty.bel) (by omega) (by omega) (fun y hy => by have := Hts.out y hy; omega) HV.out).mono ?_; rintro e w4 ⟨rfl, b4⟩; replace P := P.next b4; clear s0 s1 s2 v0 v1 v2 v3; obtain ⟨s0, s1, s2, v0, v1, v2, v3⟩ := P.some; obtain ⟨y0, y1, y2, y3, y4, y5⟩ := P.sty.all)
    | (go_at_call 26; refine (pput_is sb r FA SA EA nd kp nm 0 st _ v T _ P.sty.rule (H0.out.later P.sty.bel) hl hp Hts.out hnm HS.out HE.out Hnd.out Hkp.out hea hsa HMm.out HD.out HT.out).mono ?_; rintro e w5 ⟨rfl, b5⟩)
    )
  go_ret3
  exact ⟨rfl, b_then P.sty.bel b5⟩
set_option maxRecDepth 20000 in
set_option maxHeartbeats 4000000 in
theorem pone_yes1 (n : Int) (nm : ByteArray) (m : Int) (st : Bool) (x : Value) (v : Vl) (T : ByteArray) (w : World) (h0 : 0 ≤ n) (H : VlAt w x v) (hl : v.l.length ≤ 1000) (hp : v.p.length ≤ 1000) (hts : ∀ y ∈ textsV v, y.length ≤ 10000) (hnm : nm.size ≤ 10000) (ho : opZ n.toNat = true) (hmm : 0 ≤ m) (hm : mayX (spA nm m st) = true) (hd : definedV v = true) (hv : validV v = true) (hm0 : ¬ m = 0) (hk1 : v.kind = 1) (hT : T.data.toList = tellP (rlN n.toNat) (spA nm m st) v) :
    Calls Try.prog 10 #[.int .u8 n, .agg #[.string nm, .int .i64 m, .bool st], x] w fun e w' => e = .returned (.tuple #[.string T, .bool true, .int .i64 0]) ∧ Below w.heap.size w w' := by
  have H0 := hide H
  obtain ⟨sl, sp, rfl, _, _⟩ := H
  obtain ⟨S, hSS⟩ : ∃ S : ByteArray, (⟨v.s.toArray⟩ : ByteArray) = S := ⟨_, rfl⟩
  obtain ⟨kd, hkd⟩ : ∃ k, v.kind = k := ⟨_, rfl⟩
  rw [hSS, hkd] at H0 ⊢
  obtain ⟨r, hr⟩ : ∃ r, rlN n.toNat = r := ⟨_, rfl⟩
  have hse : r.sep.length = 1 ∧ r.empty.length ≤ 1 := by rw [← hr]; exact (rule_small ho).2
  obtain ⟨FA, hFA⟩ : ∃ FA : ByteArray, (⟨r.first.toArray⟩ : ByteArray) = FA := ⟨_, rfl⟩
  obtain ⟨SA, hSA⟩ : ∃ SA : ByteArray, (⟨r.sep.toArray⟩ : ByteArray) = SA := ⟨_, rfl⟩
  obtain ⟨EA, hEA⟩ : ∃ EA : ByteArray, (⟨r.empty.toArray⟩ : ByteArray) = EA := ⟨_, rfl⟩
  obtain ⟨nd, hnd⟩ : ∃ b, r.named = b := ⟨_, rfl⟩
  obtain ⟨kp, hkp⟩ : ∃ b, r.keep = b := ⟨_, rfl⟩
  have hrv : rlV r = .agg #[.string FA, .string SA, .bool nd, .string EA, .bool kp] := by unfold rlV; rw [hFA, hSA, hEA, hnd, hkp]
  have HS : Hid (SA.data.toList = r.sep) := by rw [← hSA]; exact rfl
  have HE : Hid (EA.data.toList = r.empty) := by rw [← hEA]; exact rfl
  have hsa : SA.size ≤ 1 := by rw [size_list, HS.out]; omega
  have hea : EA.size ≤ 1 := by rw [size_list, HE.out]; omega
  have HP := hide (fun W => pof_yes n FA SA EA nd kp W h0 ho (by rw [hr]; exact hrv))
  rw [hr] at hT
  have HT := hide hT
  have HMm : Hid (0 ≤ m) := hmm
  have hk2 : kd = 1 := hkd.symm.trans hk1
  subst hk2
  clear hk1
  have HM := hide hm
  clear hm
  have HD := hide hd
  clear hd
  have HV := hide hv
  clear hv
  have Hnd := hide hnd
  have Hkp := hide hkp
  have Hts := hide hts
  have B0 := b_more (b_alloc w (.cells #[.string nm, .int .i64 m, .bool st] 23)) (.cells #[.int .i64 1, .string S, sl, sp] 27)
  have X0 := (Bx.made w #[.string nm, .int .i64 m, .bool st] 23).later (.cells #[.int .i64 1, .string S, sl, sp] 27)
  have V0 := Bx.made (w.alloc (.cells #[.string nm, .int .i64 m, .bool st] 23)) #[.int .i64 1, .string S, sl, sp] 27
  rw [show (w.alloc (.cells #[.string nm, .int .i64 m, .bool st] 23)).heap.size = w.heap.size + 1 by simp] at V0
  clear hrv hSA hEA hFA hnd hkp hSS hkd hts ho hr hT
  go_enter Try.func10, Try.ntmps10
  go_wp2_with (first
    | (go_at_call 22; refine (style_is n FA SA EA nd kp true _ HP.out).mono ?_; rintro e w1 ⟨sb, rfl, G, bb⟩; have P := Oq.made (b_then B0 bb) (X0.next bb) (V0.next bb) G; obtain ⟨s0, s1, s2, v0, v1, v2, v3⟩ := P.some)
    | (go_at_call 23; refine (pxmay_is nm m st true _ (by omega) HM.out).mono ?_; rintro e w2 ⟨rfl, b2⟩; replace P := P.next b2; clear s0 s1 s2 v0 v1 v2 v3; obtain ⟨s0, s1, s2, v0, v1, v2, v3⟩ := P.some)
    | (go_at_call 24; refine (defined_any _ v true _ (H0.out.later P.sty.bel) (by omega) HD.out).mono ?_; rintro e w3 ⟨rfl, b3⟩; replace P := P.next b3; clear s0 s1 s2 v0 v1 v2 v3; obtain ⟨s0, s1, s2, v0, v1, v2, v3⟩ := P.some)
    | (go_at_call 25; refine (pvalid_any _ v true _ (H0.out.later P.sty.bel) (by omega) (by omega) (fun y hy => by have := Hts.out y hy; omega) HV.out).mono ?_; rintro e w4 ⟨rfl, b4⟩; replace P := P.next b4; clear s0 s1 s2 v0 v1 v2 v3; obtain ⟨s0, s1, s2, v0, v1, v2, v3⟩ := P.some; obtain ⟨y0, y1, y2, y3, y4, y5⟩ := P.sty.all)
    | (go_at_call 26; refine (pput_is sb r FA SA EA nd kp nm m st _ v T _ P.sty.rule (H0.out.later P.sty.bel) hl hp Hts.out hnm HS.out HE.out Hnd.out Hkp.out hea hsa HMm.out HD.out HT.out).mono ?_; rintro e w5 ⟨rfl, b5⟩)
    )
  go_ret3
  exact ⟨rfl, b_then P.sty.bel b5⟩
theorem pone_is (n : Int) (nm : ByteArray) (m : Int) (st : Bool) (x : Value) (v : Vl) (T : ByteArray) (d : Bool) (er : Int) (w : World) (h0 : 0 ≤ n) (h1 : n ≤ 255) (H : VlAt w x v) (F : FewV v) (hnm : nm.size ≤ 200) (he : oneP n.toNat (spA nm m st) v = (T.data.toList, d, er)) :
    Calls Try.prog 10 #[.int .u8 n, .agg #[.string nm, .int .i64 m, .bool st], x] w fun e w' => e = .returned (.tuple #[.string T, .bool d, .int .i64 er]) ∧ Below w.heap.size w w' := by
  have hl : v.l.length ≤ 1000 := by have := F.l; omega
  have hp : v.p.length ≤ 1000 := by have := F.p; omega
  have hts : ∀ y ∈ textsV v, y.length ≤ 10000 := fun y hy => by have := F.ts y hy; omega
  have hnm' : nm.size ≤ 10000 := by omega
  have nil : ∀ {D : Bool} {E : Int}, (([] : List UInt8), D, E) = (T.data.toList, d, er) → T = ⟨#[]⟩ ∧ D = d ∧ E = er := fun h => by
    obtain ⟨a, bc⟩ := Prod.mk.inj h
    obtain ⟨b, c⟩ := Prod.mk.inj bc
    exact ⟨arr_ext a.symm, b, c⟩
  unfold oneP at he
  cases ho : opZ n.toNat with
  | false =>
    rw [if_pos (.inl ho)] at he
    obtain ⟨rfl, rfl, rfl⟩ := nil he
    exact pone_no n nm m st x v w h0 h1 H ho
  | true =>
    cases hm : mayX (spA nm m st) with
    | false =>
      rw [if_pos (.inr hm)] at he
      obtain ⟨rfl, rfl, rfl⟩ := nil he
      exact pone_bad n nm m st x v w h0 H hl hp hts hnm' ho hm
    | true =>
      rw [if_neg (by simp [ho, hm])] at he
      have hmm : 0 ≤ m := ((may_iff _).1 hm).2.1
      cases hd : definedV v with
      | false =>
        rw [if_pos hd] at he
        obtain ⟨rfl, rfl, rfl⟩ := nil he
        exact pone_none n nm m st x v w h0 H hl hp hts hnm' ho hm hd
      | true =>
        rw [if_neg (by simp [hd])] at he
        by_cases hk : 0 < (spA nm m st).max ∧ v.kind ≠ 1
        · rw [if_pos hk] at he
          obtain ⟨rfl, rfl, rfl⟩ := nil he
          exact pone_prefix n nm m st x v w h0 H hl hp hts hnm' ho hm hd hk.1 hk.2
        · rw [if_neg hk] at he
          have hk' : ¬ (0 < m ∧ ¬ v.kind = 1) := hk
          clear hk
          cases hv : validV v with
          | false =>
            rw [if_pos hv] at he
            obtain ⟨rfl, rfl, rfl⟩ := nil he
            by_cases hm0 : m = 0
            · exact pone_utf0 n nm m st x v w h0 H hl hp hts hnm' ho hm hd hv hm0
            · exact pone_utf1 n nm m st x v w h0 H hl hp hts hnm' ho hm hd hv hm0 (by omega)
          | true =>
            rw [if_neg (by simp [hv])] at he
            obtain ⟨a, bc⟩ := Prod.mk.inj he
            obtain ⟨rfl, rfl⟩ := Prod.mk.inj bc
            by_cases hm0 : m = 0
            · exact pone_yes0 n nm m st x v T w h0 H hl hp hts hnm' ho hmm hm hd hv hm0 a.symm
            · exact pone_yes1 n nm m st x v T w h0 H hl hp hts hnm' ho hmm hm hd hv hm0 (by omega) a.symm
set_option maxRecDepth 20000 in
set_option maxHeartbeats 4000000 in
theorem pnamed_is (n : Int) (nm s j : ByteArray) (w : World) (h0 : 0 ≤ n) (h : opZ n.toNat = true) (hn : nm.size ≤ 1000000) (hs : s.size ≤ 1000000) (hj : j.data.toList = namedL (rlN n.toNat) nm.data.toList s.data.toList) :
    Calls Try.prog 20 #[.int .u8 n, .string nm, .string s] w fun e w' => e = .returned (.string j) ∧ Below w.heap.size w w' := by
  obtain ⟨r, hr⟩ : ∃ r, rlN n.toNat = r := ⟨_, rfl⟩
  have hse : r.sep.length = 1 ∧ r.empty.length ≤ 1 := by rw [← hr]; exact (rule_small h).2
  obtain ⟨FA, hFA⟩ : ∃ FA : ByteArray, (⟨r.first.toArray⟩ : ByteArray) = FA := ⟨_, rfl⟩
  obtain ⟨SA, hSA⟩ : ∃ SA : ByteArray, (⟨r.sep.toArray⟩ : ByteArray) = SA := ⟨_, rfl⟩
  obtain ⟨EA, hEA⟩ : ∃ EA : ByteArray, (⟨r.empty.toArray⟩ : ByteArray) = EA := ⟨_, rfl⟩
  obtain ⟨nd, hnd⟩ : ∃ b, r.named = b := ⟨_, rfl⟩
  obtain ⟨kp, hkp⟩ : ∃ b, r.keep = b := ⟨_, rfl⟩
  have hrv : rlV r = .agg #[.string FA, .string SA, .bool nd, .string EA, .bool kp] := by unfold rlV; rw [hFA, hSA, hEA, hnd, hkp]
  have HE : EA.data.toList = r.empty := by rw [← hEA]
  have hea : EA.size ≤ 1 := by rw [size_list, HE]; omega
  have HP := hide (fun W => pof_yes n FA SA EA nd kp W h0 h (by rw [hr]; exact hrv))
  rw [hr, ← beh_named, ← HE] at hj
  have Hj := hide hj
  clear hrv hSA hEA hFA hnd hkp h hr hj HE hse
  go_enter Try.func20, Try.ntmps20
  go_wp2_with (first
    | (go_at_call 22; refine (style_is n FA SA EA nd kp true _ HP.out).mono ?_; rintro e w1 ⟨sb, rfl, G, bb⟩; have P : Sy w _ sb w1.heap.size FA SA EA nd kp := ⟨b_more bb _, Bx.made w1 _ _, G.later _⟩; obtain ⟨y0, y1, y2, y3, y4, y5⟩ := P.all)
    | (go_at_call 43; refine (behind_is FA SA EA nd kp _ nm s j _ hn hs hea Hj.out).mono ?_; rintro e w2 ⟨rfl, b2⟩))
  go_ret
  exact ⟨rfl, b_then P.bel b2⟩
end Go.Proofs.Ytpfcfadbilaleaa
/-
  WALKS: awake; the law PieceURI (layer 11).
-/
namespace Go.Proofs.Ytpfcfadbilaleaa
open Go.RowKit
open Go.Proofs.Ytpfcfadbilaleaau (prefL prefL_le)
theorem one_len {n : Nat} {x : Sp} {v : Vl} (hn : x.name.length ≤ 200) (F : FewV v) : (oneP n x v).1.length ≤ 10000000 := by
  unfold oneP
  split
  · simp
  rename_i h
  have ho : opZ n = true := by simpa using fun e => h (.inl e)
  obtain ⟨_, hs, he⟩ := rule_small ho
  split
  · simp
  split
  · simp
  split
  · simp
  show (tellP (rlN n) x v).length ≤ 10000000
  unfold tellP
  split
  · rename_i hk
    have hv : v.s.length ≤ 200 := F.ts _ (by rw [text_kind hk]; exact List.mem_cons_self ..)
    unfold textP
    have hp : (if 0 < x.max then prefL v.s x.max else v.s).length ≤ 200 := by
      split
      · have := prefL_le v.s x.max; omega
      · exact hv
    have hE := (enc_len (rlN n).keep (if 0 < x.max then prefL v.s x.max else v.s)).2
    simp only
    split
    · have := named_le he x.name (encL (rlN n).keep (if 0 < x.max then prefL v.s x.max else v.s)); omega
    · omega
  · have hts : ∀ y ∈ textsV v, y.length ≤ 10000 := fun y hy => by have := F.ts y hy; omega
    have hl := F.l
    have hp := F.p
    unfold listP
    split
    · split
      · rename_i hk
        have ht : textsV v = v.l := by unfold textsV; rw [if_neg (by omega), if_pos hk]
        have := join_len (rlN n).sep 70000 (v.l.map (itemL (rlN n) x.name)) (fun z hz => by obtain ⟨y, hy, rfl⟩ := List.mem_map.1 hz; have := item_le (r := rlN n) he (nm := x.name) (by omega) (hts y (by rw [ht]; exact hy)); omega)
        have h2 : (v.l.map (itemL (rlN n) x.name)).length * ((rlN n).sep.length + 70000) ≤ 30 * 70001 := Nat.mul_le_mul (by simpa using hl) (by omega)
        omega
      · by_cases hk : v.kind = 3
        · have ht : textsV v = flatP v.p := by unfold textsV; rw [if_neg (by omega), if_neg (by omega), if_pos hk]
          have := join_len (rlN n).sep 70000 (v.p.map (itemP (rlN n))) (fun z hz => by
            obtain ⟨y, hy, rfl⟩ := List.mem_map.1 hz
            have hf : y.1 ∈ flatP v.p ∧ y.2 ∈ flatP v.p := by
              unfold flatP
              exact ⟨List.mem_flatMap.2 ⟨y, hy, by simp⟩, List.mem_flatMap.2 ⟨y, hy, by simp⟩⟩
            exact itemp_le he (hts _ (by rw [ht]; exact hf.1)) (hts _ (by rw [ht]; exact hf.2)))
          have h2 : (v.p.map (itemP (rlN n))).length * ((rlN n).sep.length + 70000) ≤ 30 * 70001 := Nat.mul_le_mul (by simpa using hp) (by omega)
          omega
        · exfalso
          rename_i hd _ _ _ _ _
          unfold definedV textsV at hd
          rw [if_neg (by assumption), if_neg (by assumption), if_neg hk] at hd
          simp at hd
    · have hln : (textsV v).length ≤ 60 := by
        unfold textsV
        split
        · simp
        · split
          · omega
          · split
            · rw [flat_len]; omega
            · simp
      have := join_len [44] 30000 ((textsV v).map (encL (rlN n).keep)) (fun z hz => by obtain ⟨y, hy, rfl⟩ := List.mem_map.1 hz; exact enc_le (hts y hy))
      have h2 : ((textsV v).map (encL (rlN n).keep)).length * (([44] : List UInt8).length + 30000) ≤ 60 * 30001 := Nat.mul_le_mul (by simpa using hln) (by simp)
      rw [List.length_append]
      split
      · simp only [List.length_append, List.length_cons, List.length_nil]; omega
      · simp only [List.length_nil]; omega
theorem text_at (s : ByteArray) (w : World) : VlAt w (.agg #[.int .i64 1, .string s, .slice none 0 0, .slice none 0 0]) (textV s.data.toList) := ⟨_, _, rfl, .inl ⟨rfl, _, _, rfl⟩, .inl ⟨rfl, _, _, rfl⟩⟩
theorem text_few {s : List UInt8} (h : s.length ≤ 200) : FewV (textV s) := ⟨by simp [textV], by simp [textV], fun y hy => by rw [texts_text, List.mem_singleton] at hy; rw [hy]; exact h⟩
theorem one59 : oneP 59 (spA ⟨#[97]⟩ 0 false) (textV (⟨#[]⟩ : ByteArray).data.toList) = ((⟨#[97]⟩ : ByteArray).data.toList, true, 0) := by decide +kernel
theorem one63 : oneP 63 (spA ⟨#[97]⟩ 0 false) (textV (⟨#[]⟩ : ByteArray).data.toList) = ((⟨#[97, 61]⟩ : ByteArray).data.toList, true, 0) := by decide +kernel
set_option maxRecDepth 20000 in
set_option maxHeartbeats 4000000 in
theorem awake_any (w : World) : Calls Try.prog 8 #[] w fun e w' => e = .returned (.bool true) ∧ Below w.heap.size w w' := by
  have B0 := b_alloc w (.cells #[.int .i64 1, .string ⟨#[]⟩, .slice none 0 0, .slice none 0 0] 27)
  have X0 := Bx.made w #[.int .i64 1, .string ⟨#[]⟩, .slice none 0 0, .slice none 0 0] 27
  have T1 : Hid True := trivial
  have e1 : ((⟨#[97]⟩ : ByteArray).toList == (⟨#[97]⟩ : ByteArray).toList) = true := by decide +kernel
  have e2 : ((⟨#[97, 61]⟩ : ByteArray).toList == (⟨#[97, 61]⟩ : ByteArray).toList) = true := by decide +kernel
  have e3 : ((⟨#[120, 61, 49]⟩ : ByteArray).toList == (⟨#[120, 61, 49]⟩ : ByteArray).toList) = true := by decide +kernel
  have hf := text_few (s := (⟨#[]⟩ : ByteArray).data.toList) (by simp)
  go_enter Try.func8, Try.ntmps8
  go_wp2_with (first
    | (have z := T1; go_at_call 10; refine (pone_is 59 ⟨#[97]⟩ 0 false _ _ ⟨#[97]⟩ true 0 _ (by omega) (by omega) (text_at ⟨#[]⟩ _) hf (by decide) one59).mono ?_; rintro e w1 ⟨rfl, bb⟩; replace B0 := b_then B0 bb; replace X0 := X0.next bb; obtain ⟨x0, x1, x2, x3⟩ := cells4 X0; clear bb T1 z)
    | (go_at_call 10; refine (pone_is 63 ⟨#[97]⟩ 0 false _ _ ⟨#[97, 61]⟩ true 0 _ (by omega) (by omega) (text_at ⟨#[]⟩ _) hf (by decide) one63).mono ?_; rintro e w2 ⟨rfl, bb⟩; replace B0 := b_then B0 bb; clear bb)
    | (go_at_call 20; refine (pnamed_is 38 ⟨#[120]⟩ ⟨#[49]⟩ ⟨#[120, 61, 49]⟩ _ (by omega) (by decide) (by decide) (by decide) (by decide +kernel)).mono ?_; rintro e w3 ⟨rfl, bb⟩; replace B0 := b_then B0 bb; clear bb))
  all_goals go_ret
  all_goals exact ⟨rfl, B0⟩
end Go.Proofs.Ytpfcfadbilaleaa
/-
  WALKS: the law PieceURI (layer 11).
-/
namespace Go.Proofs.Ytpfcfadbilaleaa
open Go.RowKit

set_option maxRecDepth 20000 in
set_option maxHeartbeats 8000000 in
theorem uri_walk (n : Int) (nm : ByteArray) (m : Int) (st : Bool) (x : Value) (v : Vl) (w : World) (h0 : 0 ≤ n) (h1 : n ≤ 255) (H : VlAt w x v) (W : WideV v) (hn : nm.size ≤ 9223372036854775807) :
    Calls Try.prog 3 #[.int .u8 n, .agg #[.string nm, .int .i64 m, .bool st], x] w fun e w' => e = .returned (.bool true) ∧ Below w.heap.size w w' := by
  have H0 := hide H
  obtain ⟨sl, sp, rfl, _, _⟩ := H
  obtain ⟨S, hS⟩ : ∃ S : ByteArray, (⟨v.s.toArray⟩ : ByteArray) = S := ⟨_, rfl⟩
  obtain ⟨k, hk⟩ : ∃ k, v.kind = k := ⟨_, rfl⟩
  rw [hS, hk] at H0 ⊢
  have P := Pz.made (nm := nm) (m := m) (st := st) (k := k) (S := S) (sl := sl) (sp := sp) w
  obtain ⟨c0, c1, c2, c3, c4, c5, c6⟩ := P.all
  clear hS hk
  cases hf : fewX nm v with
  | false =>
    have Hf := hide hf
    clear hf
    go_enter Try.func3, Try.ntmps3
    go_wp2_with (first
      | (go_at_call 8; refine (awake_any _).mono ?_; rintro e w1 ⟨rfl, bb⟩; replace P := P.next bb; clear bb c0 c1 c2 c3 c4 c5 c6; obtain ⟨c0, c1, c2, c3, c4, c5, c6⟩ := P.all)
      | (go_at_call 9; refine (lfew_is nm m st _ v false _ (H0.out.later P.bel) W hn Hf.out).mono ?_; rintro e w2 ⟨rfl, bb⟩; replace P := P.next bb; clear bb))
    go_ret
    exact ⟨rfl, P.bel⟩
  | true =>
    obtain ⟨hnm, F⟩ := fewX_of hf
    have Hf := hide hf
    have hl := one_len (n := n.toNat) (x := spA nm m st) (v := v) (by show nm.data.toList.length ≤ 200; rw [← size_list]; exact hnm) F
    have hu := uri_one n.toNat (spA nm m st) v
    obtain ⟨t, d, er⟩ : List UInt8 × Bool × Int := oneP n.toNat (spA nm m st) v
    obtain ⟨o, ho⟩ : ∃ o, oneP n.toNat (spA nm m st) v = o := ⟨_, rfl⟩
    rw [ho] at hl hu
    clear t d er
    obtain ⟨t, d, er⟩ := o
    obtain ⟨T, hT⟩ : ∃ T : ByteArray, T.data.toList = t := ⟨⟨t.toArray⟩, rfl⟩
    subst hT
    have hTl : T.size ≤ 10000000 := by rw [size_list]; exact hl
    have Hu : Hid (uriB true T.data.toList = true) := hu
    have Ho := hide ho
    clear hf hl hu ho
    go_enter Try.func3, Try.ntmps3
    go_wp2_with (first
      | (go_at_call 8; refine (awake_any _).mono ?_; rintro e w1 ⟨rfl, bb⟩; replace P := P.next bb; clear bb c0 c1 c2 c3 c4 c5 c6; obtain ⟨c0, c1, c2, c3, c4, c5, c6⟩ := P.all)
      | (go_at_call 9; refine (lfew_is nm m st _ v true _ (H0.out.later P.bel) W hn Hf.out).mono ?_; rintro e w2 ⟨rfl, bb⟩; replace P := P.next bb; clear bb c0 c1 c2 c3 c4 c5 c6; obtain ⟨c0, c1, c2, c3, c4, c5, c6⟩ := P.all)
      | (go_at_call 10; refine (pone_is n nm m st _ v T d er _ h0 h1 (H0.out.later P.bel) F hnm Ho.out).mono ?_; rintro e w3 ⟨rfl, bb⟩; replace P := P.next bb; clear bb c0 c1 c2 c3 c4 c5 c6))
    have B := P.bel
    clear P H0 Ho Hf
    go_loop [11] (fun i => ∃ q : Nat, q ≤ T.size ∧ i = .int .i64 q) (fun i => T.size - (intOf i).toNat)
    case atStart => exact ⟨0, Nat.zero_le _, rfl⟩
    case round =>
      obtain ⟨q, hq, rfl⟩ := hrel
      by_cases hlt : q < T.size
      · have hat := uri_at Hu.out q (by rw [← size_list]; exact hlt)
        have hb := UInt8.toNat_lt T[q]
        have hgq : T.data.toList[q]'(by rw [← size_list]; exact hlt) = T[q] := by rw [Array.getElem_toList]; rfl
        rw [hgq, Bool.true_and] at hat
        obtain ⟨un, hun⟩ : ∃ b, unN T[q].toNat = b := ⟨_, rfl⟩
        obtain ⟨re, hre⟩ : ∃ b, reN T[q].toNat = b := ⟨_, rfl⟩
        obtain ⟨tr, htr⟩ : ∃ b, tripB (T.data.toList.drop q) = b := ⟨_, rfl⟩
        rw [hun, hre, htr] at hat
        have Hun := hide (show unN ((T[q].toNat : Int)).toNat = un by rw [Int.toNat_natCast]; exact hun)
        have Hre := hide (show reN ((T[q].toNat : Int)).toNat = re by rw [Int.toNat_natCast]; exact hre)
        have Htr := hide (show tripB (T.extract q T.size).data.toList = tr by rw [cut_list]; exact htr)
        have b0 : (0 : Int) ≤ (T[q].toNat : Int) := by omega
        have b1 : (T[q].toNat : Int) ≤ 255 := by omega
        clear hgq hun hre htr hb
        cases un <;> cases re <;> cases tr <;> first | (cases hat; done) | skip
        all_goals
          clear hat
          go_wp2_with (first
            | (go_at_call 11; refine (runres_is _ _ _ b0 b1 Hun.out).mono ?_; rintro e w4 ⟨rfl, hw⟩; rw [hw])
            | (go_at_call 12; refine (rres_is _ _ _ b0 b1 Hre.out).mono ?_; rintro e w5 ⟨rfl, hw⟩; rw [hw])
            | (go_at_call 13; refine (rtrip_is _ _ _ Htr.out).mono ?_; rintro e w6 ⟨rfl, hw⟩; rw [hw]))
          go_round
          case rel => exact ⟨q + 1, by omega, by go_num⟩
          case measure => simp [intOf]; omega
      · go_wp2
        go_ret
        exact ⟨rfl, B⟩
end Go.Proofs.Ytpfcfadbilaleaa
/-
  WALKS: the program's rule of an operator; the law PieceBack (layer 11).
-/
namespace Go.Proofs.Ytpfcfadbilaleaa
open Go.RowKit

/-- the law's three boxes: the rule, the variable, the value -/
structure Mz (w W : World) (b : Nat) (rs : Array Value) (nm tx : ByteArray) : Prop where
  bel : Below w.heap.size w W
  rule : Bx W b rs 37
  spec : Bx W (b + 1) #[.string nm, .int .i64 0, .bool false] 23
  val : Bx W (b + 1 + 1) #[.int .i64 1, .string tx, .slice none 0 0, .slice none 0 0] 27
section
variable {w W W' : World} {b : Nat} {rs : Array Value} {nm tx : ByteArray}
theorem Mz.made (h : Below w.heap.size w W) (rs : Array Value) (nm tx : ByteArray) : Mz w (((W.alloc (.cells rs 37)).alloc (.cells #[.string nm, .int .i64 0, .bool false] 23)).alloc (.cells #[.int .i64 1, .string tx, .slice none 0 0, .slice none 0 0] 27)) W.heap.size rs nm tx :=
  ⟨b_more (b_more (b_more h _) _) _, ((Bx.made W _ _).later _).later _, by have := (Bx.made (W.alloc (.cells rs 37)) #[.string nm, .int .i64 0, .bool false] 23).later (.cells #[.int .i64 1, .string tx, .slice none 0 0, .slice none 0 0] 27); simpa using this,
    by have := Bx.made ((W.alloc (.cells rs 37)).alloc (.cells #[.string nm, .int .i64 0, .bool false] 23)) #[.int .i64 1, .string tx, .slice none 0 0, .slice none 0 0] 27; simpa using this⟩
theorem Mz.next (h : Mz w W b rs nm tx) (bb : Below W.heap.size W W') : Mz w W' b rs nm tx := ⟨b_then h.bel bb, h.rule.next bb, h.spec.next bb, h.val.next bb⟩
theorem Mz.all {F S E : ByteArray} {nd kp : Bool} (h : Mz w W b #[.string F, .string S, .bool nd, .string E, .bool kp] nm tx) : W.cell? ⟨b, 0, none⟩ = some (.string F) ∧ W.cell? ⟨b, 1, none⟩ = some (.string S) ∧ W.cell? ⟨b, 2, none⟩ = some (.bool nd) ∧ W.cell? ⟨b, 3, none⟩ = some (.string E) ∧ W.cell? ⟨b, 4, none⟩ = some (.bool kp) ∧
    W.cell? ⟨b + 1, 0, none⟩ = some (.string nm) ∧ W.cell? ⟨b + 1, 1, none⟩ = some (.int .i64 0) ∧ W.cell? ⟨b + 1, 2, none⟩ = some (.bool false) ∧ W.cell? ⟨b + 1 + 1, 0, none⟩ = some (.int .i64 1) ∧ W.cell? ⟨b + 1 + 1, 1, none⟩ = some (.string tx) ∧ W.cell? ⟨b + 1 + 1, 2, none⟩ = some (.slice none 0 0) ∧ W.cell? ⟨b + 1 + 1, 3, none⟩ = some (.slice none 0 0) := by
  obtain ⟨a0, a1, a2, a3, a4⟩ := cells5 h.rule
  obtain ⟨b0, b1, b2⟩ := cells3 h.spec
  obtain ⟨d0, d1, d2, d3⟩ := cells4 h.val
  exact ⟨a0, a1, a2, a3, a4, b0, b1, b2, d0, d1, d2, d3⟩
end
theorem text_wide {s : List UInt8} (h : s.length ≤ 9223372036854775807) : WideV (textV s) := ⟨by simp [textV], by simp [textV], h, by simp [textV], by simp [textV]⟩
set_option maxRecDepth 20000 in
set_option maxHeartbeats 16000000 in
theorem back_walk (n : Int) (nm tx : ByteArray) (w : World) (h0 : 0 ≤ n) (h1 : n ≤ 255) (hn : nm.size ≤ 9223372036854775807) (ht : tx.size ≤ 9223372036854775807) :
    Calls Try.prog 4 #[.int .u8 n, .string nm, .string tx] w fun e w' => e = .returned (.bool true) ∧ Below w.heap.size w w' := by
  have WT : WideV (textV tx.data.toList) := text_wide (by rw [← size_list]; exact ht)
  cases ho : opZ n.toNat with
  | false =>
    cases hf : fewX nm (textV tx.data.toList)
    all_goals
      have Hf := hide hf
      clear hf
      go_enter Try.func4, Try.ntmps4
      go_wp2_with (first
        | (go_at_call 8; refine (awake_any _).mono ?_; rintro e w1 ⟨rfl, bb⟩; have B := bb; clear bb)
        | (go_at_call 14; refine (pof_no n _ h0 h1 ho).mono ?_; rintro e w2 ⟨rfl, bb⟩; have P := Mz.made (w := w) (W := w2) (b_then B bb) #[.string ⟨#[]⟩, .string ⟨#[]⟩, .bool false, .string ⟨#[]⟩, .bool false] nm tx; obtain ⟨c0, c1, c2, c3, c4, c5, c6, c7, c8, c9, c10, c11⟩ := P.all; clear B bb)
        | (go_at_call 9; refine (lfew_is nm 0 false _ (textV tx.data.toList) _ _ (text_at tx _) WT hn Hf.out).mono ?_; rintro e w3 ⟨rfl, bb⟩; replace P := P.next bb; clear bb c0 c1 c2 c3 c4 c5 c6 c7 c8 c9 c10 c11; obtain ⟨c0, c1, c2, c3, c4, c5, c6, c7, c8, c9, c10, c11⟩ := P.all))
      all_goals go_ret
      all_goals exact ⟨rfl, P.bel⟩
  | true =>
    obtain ⟨r, hr⟩ : ∃ r, rlN n.toNat = r := ⟨_, rfl⟩
    obtain ⟨FA, hFA⟩ : ∃ FA : ByteArray, (⟨r.first.toArray⟩ : ByteArray) = FA := ⟨_, rfl⟩
    obtain ⟨SA, hSA⟩ : ∃ SA : ByteArray, (⟨r.sep.toArray⟩ : ByteArray) = SA := ⟨_, rfl⟩
    obtain ⟨EA, hEA⟩ : ∃ EA : ByteArray, (⟨r.empty.toArray⟩ : ByteArray) = EA := ⟨_, rfl⟩
    obtain ⟨nd, hnd⟩ : ∃ b, r.named = b := ⟨_, rfl⟩
    obtain ⟨kp, hkp⟩ : ∃ b, r.keep = b := ⟨_, rfl⟩
    have Hr : Hid (rlV (rlN n.toNat) = .agg #[.string FA, .string SA, .bool nd, .string EA, .bool kp]) := by show _ = _; rw [hr]; unfold rlV; rw [hFA, hSA, hEA, hnd, hkp]
    clear hFA hSA hEA
    cases hf : fewX nm (textV tx.data.toList) with
    | false =>
      have Hf := hide hf
      clear hf hnd hkp hr
      go_enter Try.func4, Try.ntmps4
      go_wp2_with (first
        | (go_at_call 8; refine (awake_any _).mono ?_; rintro e w1 ⟨rfl, bb⟩; have B := bb; clear bb)
        | (go_at_call 14; refine (pof_yes n FA SA EA nd kp _ h0 ho Hr.out).mono ?_; rintro e w2 ⟨rfl, bb⟩; have P := Mz.made (w := w) (W := w2) (b_then B bb) #[.string FA, .string SA, .bool nd, .string EA, .bool kp] nm tx; obtain ⟨c0, c1, c2, c3, c4, c5, c6, c7, c8, c9, c10, c11⟩ := P.all; clear B bb)
        | (go_at_call 9; refine (lfew_is nm 0 false _ (textV tx.data.toList) false _ (text_at tx _) WT hn Hf.out).mono ?_; rintro e w3 ⟨rfl, bb⟩; replace P := P.next bb; clear bb c0 c1 c2 c3 c4 c5 c6 c7 c8 c9 c10 c11; obtain ⟨c0, c1, c2, c3, c4, c5, c6, c7, c8, c9, c10, c11⟩ := P.all))
      all_goals go_ret
      all_goals exact ⟨rfl, P.bel⟩
    | true =>
      obtain ⟨hnm, F⟩ := fewX_of hf
      have Hf := hide hf
      clear hf
      have htx : tx.size ≤ 200 := by rw [size_list]; exact F.ts _ (List.mem_cons_self ..)
      have hts : ∀ y ∈ textsV (textV tx.data.toList), y.length ≤ 10000 := fun y hy => by have := F.ts y hy; omega
      cases kp with
      | true =>
        clear hnd hkp hr
        go_enter Try.func4, Try.ntmps4
        go_wp2_with (first
          | (go_at_call 8; refine (awake_any _).mono ?_; rintro e w1 ⟨rfl, bb⟩; have B := bb; clear bb)
          | (go_at_call 14; refine (pof_yes n FA SA EA nd true _ h0 ho Hr.out).mono ?_; rintro e w2 ⟨rfl, bb⟩; have P := Mz.made (w := w) (W := w2) (b_then B bb) #[.string FA, .string SA, .bool nd, .string EA, .bool true] nm tx; obtain ⟨c0, c1, c2, c3, c4, c5, c6, c7, c8, c9, c10, c11⟩ := P.all; clear B bb)
          | (go_at_call 9; refine (lfew_is nm 0 false _ (textV tx.data.toList) true _ (text_at tx _) WT hn Hf.out).mono ?_; rintro e w3 ⟨rfl, bb⟩; replace P := P.next bb; clear bb c0 c1 c2 c3 c4 c5 c6 c7 c8 c9 c10 c11; obtain ⟨c0, c1, c2, c3, c4, c5, c6, c7, c8, c9, c10, c11⟩ := P.all))
        all_goals go_ret
        all_goals exact ⟨rfl, P.bel⟩
      | false =>
        cases hm : mayX (spA nm 0 false) with
        | false =>
          have Hm := hide hm
          clear hnd hkp hr hm
          go_enter Try.func4, Try.ntmps4
          go_wp2_with (first
            | (go_at_call 8; refine (awake_any _).mono ?_; rintro e w1 ⟨rfl, bb⟩; have B := bb; clear bb)
            | (go_at_call 14; refine (pof_yes n FA SA EA nd false _ h0 ho Hr.out).mono ?_; rintro e w2 ⟨rfl, bb⟩; have P := Mz.made (w := w) (W := w2) (b_then B bb) #[.string FA, .string SA, .bool nd, .string EA, .bool false] nm tx; obtain ⟨c0, c1, c2, c3, c4, c5, c6, c7, c8, c9, c10, c11⟩ := P.all; clear B bb)
            | (go_at_call 9; refine (lfew_is nm 0 false _ (textV tx.data.toList) true _ (text_at tx _) WT hn Hf.out).mono ?_; rintro e w3 ⟨rfl, bb⟩; replace P := P.next bb; clear bb c0 c1 c2 c3 c4 c5 c6 c7 c8 c9 c10 c11; obtain ⟨c0, c1, c2, c3, c4, c5, c6, c7, c8, c9, c10, c11⟩ := P.all)
            | (go_at_call 15; refine (rxmay_is nm 0 false false _ Hm.out).mono ?_; rintro e w4 ⟨rfl, bb⟩; replace P := P.next bb; clear bb c0 c1 c2 c3 c4 c5 c6 c7 c8 c9 c10 c11; obtain ⟨c0, c1, c2, c3, c4, c5, c6, c7, c8, c9, c10, c11⟩ := P.all))
          all_goals go_ret
          all_goals exact ⟨rfl, P.bel⟩
        | true =>
          have Hm := hide hm
          cases hv : validV (textV tx.data.toList) with
          | false =>
            have Hval := hide hv
            clear hnd hkp hr hm hv
            go_enter Try.func4, Try.ntmps4
            go_wp2_with (first
              | (go_at_call 8; refine (awake_any _).mono ?_; rintro e w1 ⟨rfl, bb⟩; have B := bb; clear bb)
              | (go_at_call 14; refine (pof_yes n FA SA EA nd false _ h0 ho Hr.out).mono ?_; rintro e w2 ⟨rfl, bb⟩; have P := Mz.made (w := w) (W := w2) (b_then B bb) #[.string FA, .string SA, .bool nd, .string EA, .bool false] nm tx; obtain ⟨c0, c1, c2, c3, c4, c5, c6, c7, c8, c9, c10, c11⟩ := P.all; clear B bb)
              | (go_at_call 9; refine (lfew_is nm 0 false _ (textV tx.data.toList) true _ (text_at tx _) WT hn Hf.out).mono ?_; rintro e w3 ⟨rfl, bb⟩; replace P := P.next bb; clear bb c0 c1 c2 c3 c4 c5 c6 c7 c8 c9 c10 c11; obtain ⟨c0, c1, c2, c3, c4, c5, c6, c7, c8, c9, c10, c11⟩ := P.all)
              | (go_at_call 15; refine (rxmay_is nm 0 false true _ Hm.out).mono ?_; rintro e w4 ⟨rfl, bb⟩; replace P := P.next bb; clear bb c0 c1 c2 c3 c4 c5 c6 c7 c8 c9 c10 c11; obtain ⟨c0, c1, c2, c3, c4, c5, c6, c7, c8, c9, c10, c11⟩ := P.all)
              | (go_at_call 16; refine (rvalid_is _ (textV tx.data.toList) false _ (text_at tx _) (by simp [textV]) (by simp [textV]) hts Hval.out).mono ?_; rintro e w5 ⟨rfl, bb⟩; replace P := P.next bb; clear bb c0 c1 c2 c3 c4 c5 c6 c7 c8 c9 c10 c11; obtain ⟨c0, c1, c2, c3, c4, c5, c6, c7, c8, c9, c10, c11⟩ := P.all))
            all_goals go_ret
            all_goals exact ⟨rfl, P.bel⟩
          | true =>
            have Hval := hide hv
            have he := one_text ho hm hv
            obtain ⟨T, hT⟩ : ∃ T : ByteArray, T.data.toList = textP (rlN n.toNat) (spA nm 0 false) tx.data.toList := ⟨⟨(textP (rlN n.toNat) (spA nm 0 false) tx.data.toList).toArray⟩, rfl⟩
            rw [← hT] at he
            have Ho := hide he
            have hsm := (rule_small ho).2.2
            rw [hr] at hT hsm
            have hT2 : T.data.toList = if nd then namedL r nm.data.toList (encL r.keep tx.data.toList) else encL r.keep tx.data.toList := by rw [hT, ← hnd]; rfl
            have htl : T.size ≤ 10000 := by
              rw [size_list, hT2]
              have a1 := (enc_len r.keep tx.data.toList).2
              rw [← size_list tx] at a1
              split
              · have a2 := named_le hsm nm.data.toList (encL r.keep tx.data.toList)
                rw [← size_list nm] at a2
                omega
              · omega
            clear hm hv he hT hr
            cases nd with
            | false =>
              have Hd : Hid (decR (decL T.data.toList) = .tuple #[.string tx, .bool true]) := by
                show _ = _
                rw [hT2, if_neg (by simp), hkp, back_false]
                exact rfl
              have e1 : (tx.toList == tx.toList) = true := by simp
              clear hT2 hsm hnd hkp
              go_enter Try.func4, Try.ntmps4
              go_wp2_with (first
                | (go_at_call 8; refine (awake_any _).mono ?_; rintro e w1 ⟨rfl, bb⟩; have B := bb; clear bb)
                | (go_at_call 14; refine (pof_yes n FA SA EA false false _ h0 ho Hr.out).mono ?_; rintro e w2 ⟨rfl, bb⟩; have P := Mz.made (w := w) (W := w2) (b_then B bb) #[.string FA, .string SA, .bool false, .string EA, .bool false] nm tx; obtain ⟨c0, c1, c2, c3, c4, c5, c6, c7, c8, c9, c10, c11⟩ := P.all; clear B bb)
                | (go_at_call 9; refine (lfew_is nm 0 false _ (textV tx.data.toList) true _ (text_at tx _) WT hn Hf.out).mono ?_; rintro e w3 ⟨rfl, bb⟩; replace P := P.next bb; clear bb c0 c1 c2 c3 c4 c5 c6 c7 c8 c9 c10 c11; obtain ⟨c0, c1, c2, c3, c4, c5, c6, c7, c8, c9, c10, c11⟩ := P.all)
                | (go_at_call 15; refine (rxmay_is nm 0 false true _ Hm.out).mono ?_; rintro e w4 ⟨rfl, bb⟩; replace P := P.next bb; clear bb c0 c1 c2 c3 c4 c5 c6 c7 c8 c9 c10 c11; obtain ⟨c0, c1, c2, c3, c4, c5, c6, c7, c8, c9, c10, c11⟩ := P.all)
                | (go_at_call 16; refine (rvalid_is _ (textV tx.data.toList) true _ (text_at tx _) (by simp [textV]) (by simp [textV]) hts Hval.out).mono ?_; rintro e w5 ⟨rfl, bb⟩; replace P := P.next bb; clear bb c0 c1 c2 c3 c4 c5 c6 c7 c8 c9 c10 c11; obtain ⟨c0, c1, c2, c3, c4, c5, c6, c7, c8, c9, c10, c11⟩ := P.all)
                | (go_at_call 10; refine (pone_is n nm 0 false _ (textV tx.data.toList) T true 0 _ h0 h1 (text_at tx _) F hnm Ho.out).mono ?_; rintro e w6 ⟨rfl, bb⟩; replace P := P.next bb; clear bb c0 c1 c2 c3 c4 c5 c6 c7 c8 c9 c10 c11; obtain ⟨c0, c1, c2, c3, c4, c5, c6, c7, c8, c9, c10, c11⟩ := P.all)
                | (go_at_call 17; refine (dec_is T (.tuple #[.string tx, .bool true]) _ (by omega) Hd.out).mono ?_; rintro e w7 ⟨rfl, bb⟩; replace P := P.next bb))
              all_goals go_ret
              all_goals exact ⟨rfl, P.bel⟩
            | true =>
              rw [if_pos rfl] at hT2
              obtain ⟨g1, g2⟩ := named_back r hsm hkp nm.data.toList tx.data.toList
              rw [← hT2] at g1 g2
              have hle : nm.size ≤ T.size := by
                have := congrArg List.length g1
                rw [List.length_take, ← size_list, ← size_list] at this
                omega
              have g3 : T.extract 0 nm.size = nm := arr_ext (by rw [head_list, size_list nm]; exact g1)
              have i0 : (0 : Int) ≤ (nm.size : Int) := by omega
              have i1 : (nm.size : Int) ≤ (T.size : Int) := by omega
              have i2 : decide ((T.size : Int) < (nm.size : Int)) = false := by simp; omega
              have e1 : (tx.toList == tx.toList) = true := by simp
              have e2 : (nm.toList == nm.toList) = true := by simp
              obtain ⟨U, hU⟩ : ∃ U, T.extract nm.size T.size = U := ⟨_, rfl⟩
              have hUd : U.data.toList = T.data.toList.drop nm.data.toList.length := by rw [← hU, cut_list, size_list nm]
              have hUs : U.size ≤ 10000 := by rw [size_list, hUd, List.length_drop, ← size_list]; omega
              unfold behind at g2
              rw [← hUd] at g2
              clear hT2 hsm hnd hkp g1 hUd
              by_cases hz : 0 < U.size
              · have t1 := ne_some U hz
                obtain ⟨D, hD⟩ : ∃ D, U.extract 1 U.size = D := ⟨_, rfl⟩
                have Hd : Hid (decR (decL D.data.toList) = .tuple #[.string tx, .bool true]) := by
                  show _ = _
                  rw [← hD, cut_list, g2]
                  exact rfl
                have hDs : D.size ≤ 10000 := by rw [← hD, size_list, cut_list, List.length_drop, ← size_list]; omega
                have i3 : (1 : Int) ≤ (U.size : Int) := by omega
                clear g2
                go_enter Try.func4, Try.ntmps4
                go_wp2_with (first
                  | (go_at_call 8; refine (awake_any _).mono ?_; rintro e w1 ⟨rfl, bb⟩; have B := bb; clear bb)
                  | (go_at_call 14; refine (pof_yes n FA SA EA true false _ h0 ho Hr.out).mono ?_; rintro e w2 ⟨rfl, bb⟩; have P := Mz.made (w := w) (W := w2) (b_then B bb) #[.string FA, .string SA, .bool true, .string EA, .bool false] nm tx; obtain ⟨c0, c1, c2, c3, c4, c5, c6, c7, c8, c9, c10, c11⟩ := P.all; clear B bb)
                  | (go_at_call 9; refine (lfew_is nm 0 false _ (textV tx.data.toList) true _ (text_at tx _) WT hn Hf.out).mono ?_; rintro e w3 ⟨rfl, bb⟩; replace P := P.next bb; clear bb c0 c1 c2 c3 c4 c5 c6 c7 c8 c9 c10 c11; obtain ⟨c0, c1, c2, c3, c4, c5, c6, c7, c8, c9, c10, c11⟩ := P.all)
                  | (go_at_call 15; refine (rxmay_is nm 0 false true _ Hm.out).mono ?_; rintro e w4 ⟨rfl, bb⟩; replace P := P.next bb; clear bb c0 c1 c2 c3 c4 c5 c6 c7 c8 c9 c10 c11; obtain ⟨c0, c1, c2, c3, c4, c5, c6, c7, c8, c9, c10, c11⟩ := P.all)
                  | (go_at_call 16; refine (rvalid_is _ (textV tx.data.toList) true _ (text_at tx _) (by simp [textV]) (by simp [textV]) hts Hval.out).mono ?_; rintro e w5 ⟨rfl, bb⟩; replace P := P.next bb; clear bb c0 c1 c2 c3 c4 c5 c6 c7 c8 c9 c10 c11; obtain ⟨c0, c1, c2, c3, c4, c5, c6, c7, c8, c9, c10, c11⟩ := P.all)
                  | (go_at_call 10; refine (pone_is n nm 0 false _ (textV tx.data.toList) T true 0 _ h0 h1 (text_at tx _) F hnm Ho.out).mono ?_; rintro e w6 ⟨rfl, bb⟩; replace P := P.next bb; clear bb c0 c1 c2 c3 c4 c5 c6 c7 c8 c9 c10 c11; obtain ⟨c0, c1, c2, c3, c4, c5, c6, c7, c8, c9, c10, c11⟩ := P.all)
                  | (go_at_call 17; refine (dec_is D (.tuple #[.string tx, .bool true]) _ (by omega) Hd.out).mono ?_; rintro e w7 ⟨rfl, bb⟩; replace P := P.next bb))
                all_goals go_ret
                all_goals exact ⟨rfl, P.bel⟩
              · have t1 := ne_none U hz
                have Hd : Hid (decR (decL U.data.toList) = .tuple #[.string tx, .bool true]) := by
                  show _ = _
                  have hl := list_none U hz
                  rw [hl] at g2 ⊢
                  have g4 : decL [] = some tx.data.toList := g2
                  rw [g4]
                  exact rfl
                clear g2
                go_enter Try.func4, Try.ntmps4
                go_wp2_with (first
                  | (go_at_call 8; refine (awake_any _).mono ?_; rintro e w1 ⟨rfl, bb⟩; have B := bb; clear bb)
                  | (go_at_call 14; refine (pof_yes n FA SA EA true false _ h0 ho Hr.out).mono ?_; rintro e w2 ⟨rfl, bb⟩; have P := Mz.made (w := w) (W := w2) (b_then B bb) #[.string FA, .string SA, .bool true, .string EA, .bool false] nm tx; obtain ⟨c0, c1, c2, c3, c4, c5, c6, c7, c8, c9, c10, c11⟩ := P.all; clear B bb)
                  | (go_at_call 9; refine (lfew_is nm 0 false _ (textV tx.data.toList) true _ (text_at tx _) WT hn Hf.out).mono ?_; rintro e w3 ⟨rfl, bb⟩; replace P := P.next bb; clear bb c0 c1 c2 c3 c4 c5 c6 c7 c8 c9 c10 c11; obtain ⟨c0, c1, c2, c3, c4, c5, c6, c7, c8, c9, c10, c11⟩ := P.all)
                  | (go_at_call 15; refine (rxmay_is nm 0 false true _ Hm.out).mono ?_; rintro e w4 ⟨rfl, bb⟩; replace P := P.next bb; clear bb c0 c1 c2 c3 c4 c5 c6 c7 c8 c9 c10 c11; obtain ⟨c0, c1, c2, c3, c4, c5, c6, c7, c8, c9, c10, c11⟩ := P.all)
                  | (go_at_call 16; refine (rvalid_is _ (textV tx.data.toList) true _ (text_at tx _) (by simp [textV]) (by simp [textV]) hts Hval.out).mono ?_; rintro e w5 ⟨rfl, bb⟩; replace P := P.next bb; clear bb c0 c1 c2 c3 c4 c5 c6 c7 c8 c9 c10 c11; obtain ⟨c0, c1, c2, c3, c4, c5, c6, c7, c8, c9, c10, c11⟩ := P.all)
                  | (go_at_call 10; refine (pone_is n nm 0 false _ (textV tx.data.toList) T true 0 _ h0 h1 (text_at tx _) F hnm Ho.out).mono ?_; rintro e w6 ⟨rfl, bb⟩; replace P := P.next bb; clear bb c0 c1 c2 c3 c4 c5 c6 c7 c8 c9 c10 c11; obtain ⟨c0, c1, c2, c3, c4, c5, c6, c7, c8, c9, c10, c11⟩ := P.all)
                  | (go_at_call 17; refine (dec_is U (.tuple #[.string tx, .bool true]) _ (by omega) Hd.out).mono ?_; rintro e w7 ⟨rfl, bb⟩; replace P := P.next bb))
                all_goals go_ret
                all_goals exact ⟨rfl, P.bel⟩
end Go.Proofs.Ytpfcfadbilaleaa
/-
  WALKS: the law PieceErrors (layer 11).
-/
namespace Go.Proofs.Ytpfcfadbilaleaa
open Go.RowKit

set_option maxRecDepth 20000 in
set_option maxHeartbeats 16000000 in
theorem errors_walk (n : Int) (nm : ByteArray) (m : Int) (st : Bool) (x : Value) (v : Vl) (w : World) (h0 : 0 ≤ n) (h1 : n ≤ 255) (H : VlAt w x v) (W : WideV v) (hn : nm.size ≤ 9223372036854775807) :
    Calls Try.prog 5 #[.int .u8 n, .agg #[.string nm, .int .i64 m, .bool st], x] w fun e w' => e = .returned (.bool true) ∧ Below w.heap.size w w' := by
  have H0 := hide H
  obtain ⟨sl, sp, rfl, _, _⟩ := H
  obtain ⟨S, hS⟩ : ∃ S : ByteArray, (⟨v.s.toArray⟩ : ByteArray) = S := ⟨_, rfl⟩
  obtain ⟨k0, hk0⟩ : ∃ k, v.kind = k := ⟨_, rfl⟩
  rw [hS, hk0] at H0 ⊢
  have P := Pz.made (nm := nm) (m := m) (st := st) (k := k0) (S := S) (sl := sl) (sp := sp) w
  obtain ⟨c0, c1, c2, c3, c4, c5, c6⟩ := P.all
  clear hS hk0
  cases ho : opZ n.toNat with
  | false =>
    cases hf : fewX nm v
    all_goals
      have Hf := hide hf
      clear hf
      go_enter Try.func5, Try.ntmps5
      go_wp2_with (first
        | (go_at_call 8; refine (awake_any _).mono ?_; rintro e w1 ⟨rfl, bb⟩; replace P := P.next bb; clear bb c0 c1 c2 c3 c4 c5 c6; obtain ⟨c0, c1, c2, c3, c4, c5, c6⟩ := P.all)
        | (go_at_call 18; refine (rule_no n _ h0 h1 ho).mono ?_; rintro e w2 ⟨rfl, bb⟩; replace P := (P.next bb).alloc (.cells #[.string ⟨#[]⟩, .string ⟨#[]⟩, .bool false, .string ⟨#[]⟩, .bool false] 45); clear bb c0 c1 c2 c3 c4 c5 c6; obtain ⟨c0, c1, c2, c3, c4, c5, c6⟩ := P.all)
        | (go_at_call 9; refine (lfew_is nm m st _ v _ _ (H0.out.later P.bel) W hn Hf.out).mono ?_; rintro e w3 ⟨rfl, bb⟩; replace P := P.next bb; clear bb c0 c1 c2 c3 c4 c5 c6; obtain ⟨c0, c1, c2, c3, c4, c5, c6⟩ := P.all))
      all_goals go_ret
      all_goals exact ⟨rfl, P.bel⟩
  | true =>
    obtain ⟨r, hr⟩ : ∃ r, rlN n.toNat = r := ⟨_, rfl⟩
    obtain ⟨FA, hFA⟩ : ∃ FA : ByteArray, (⟨r.first.toArray⟩ : ByteArray) = FA := ⟨_, rfl⟩
    obtain ⟨SA, hSA⟩ : ∃ SA : ByteArray, (⟨r.sep.toArray⟩ : ByteArray) = SA := ⟨_, rfl⟩
    obtain ⟨EA, hEA⟩ : ∃ EA : ByteArray, (⟨r.empty.toArray⟩ : ByteArray) = EA := ⟨_, rfl⟩
    obtain ⟨nd, hnd⟩ : ∃ b, r.named = b := ⟨_, rfl⟩
    obtain ⟨kp, hkp⟩ : ∃ b, r.keep = b := ⟨_, rfl⟩
    have hrv : rlV r = .agg #[.string FA, .string SA, .bool nd, .string EA, .bool kp] := by unfold rlV; rw [hFA, hSA, hEA, hnd, hkp]
    have hru : ∀ w', Calls Try.prog 18 #[.int .u8 n] w' fun e w'' => e = .returned (.tuple #[.agg #[.string FA, .string SA, .bool nd, .string EA, .bool kp], .bool true]) ∧ Below w'.heap.size w' w'' := fun w' => by have := rule_yes n w' h0 ho; rw [hr, hrv] at this; exact this
    clear hr hFA hSA hEA hnd hkp hrv
    cases hf : fewX nm v with
    | false =>
      have Hf := hide hf
      clear hf
      go_enter Try.func5, Try.ntmps5
      go_wp2_with (first
        | (go_at_call 8; refine (awake_any _).mono ?_; rintro e w1 ⟨rfl, bb⟩; replace P := P.next bb; clear bb c0 c1 c2 c3 c4 c5 c6; obtain ⟨c0, c1, c2, c3, c4, c5, c6⟩ := P.all)
        | (go_at_call 18; refine (hru _).mono ?_; rintro e w2 ⟨rfl, bb⟩; replace P := (P.next bb).alloc (.cells #[.string FA, .string SA, .bool nd, .string EA, .bool kp] 45); clear bb c0 c1 c2 c3 c4 c5 c6; obtain ⟨c0, c1, c2, c3, c4, c5, c6⟩ := P.all)
        | (go_at_call 9; refine (lfew_is nm m st _ v false _ (H0.out.later P.bel) W hn Hf.out).mono ?_; rintro e w3 ⟨rfl, bb⟩; replace P := P.next bb; clear bb c0 c1 c2 c3 c4 c5 c6; obtain ⟨c0, c1, c2, c3, c4, c5, c6⟩ := P.all))
      all_goals go_ret
      all_goals exact ⟨rfl, P.bel⟩
    | true =>
      obtain ⟨hnm, F⟩ := fewX_of hf
      have Hf := hide hf
      clear hf
      cases hm : mayX (spA nm m st) with
      | false =>
        have Hm := hide hm
        clear hm
        go_enter Try.func5, Try.ntmps5
        go_wp2_with (first
          | (go_at_call 8; refine (awake_any _).mono ?_; rintro e w1 ⟨rfl, bb⟩; replace P := P.next bb; clear bb c0 c1 c2 c3 c4 c5 c6; obtain ⟨c0, c1, c2, c3, c4, c5, c6⟩ := P.all)
          | (go_at_call 18; refine (hru _).mono ?_; rintro e w2 ⟨rfl, bb⟩; replace P := (P.next bb).alloc (.cells #[.string FA, .string SA, .bool nd, .string EA, .bool kp] 45); clear bb c0 c1 c2 c3 c4 c5 c6; obtain ⟨c0, c1, c2, c3, c4, c5, c6⟩ := P.all)
          | (go_at_call 9; refine (lfew_is nm m st _ v true _ (H0.out.later P.bel) W hn Hf.out).mono ?_; rintro e w3 ⟨rfl, bb⟩; replace P := P.next bb; clear bb c0 c1 c2 c3 c4 c5 c6; obtain ⟨c0, c1, c2, c3, c4, c5, c6⟩ := P.all)
          | (go_at_call 15; refine (rxmay_is nm m st false _ Hm.out).mono ?_; rintro e w4 ⟨rfl, bb⟩; replace P := P.next bb; clear bb c0 c1 c2 c3 c4 c5 c6; obtain ⟨c0, c1, c2, c3, c4, c5, c6⟩ := P.all))
        all_goals go_ret
        all_goals exact ⟨rfl, P.bel⟩
      | true =>
        have Hm := hide hm
        have hmr : 0 ≤ m := ((may_iff _).1 hm).2.1
        have hkc := kinds_of v
        have hcl := canon_lens v
        have hct := texts_canon v
        have hcv := valid_canon v
        have hts : ∀ y ∈ textsV v, y.length ≤ 10000 := fun y hy => by have := F.ts y hy; omega
        obtain ⟨c, hc⟩ : ∃ c, canonV v = c := ⟨_, rfl⟩
        rw [hc] at hkc hcl hct hcv
        have Hc := hide hc
        obtain ⟨X, hX⟩ : ∃ X : ByteArray, (⟨c.s.toArray⟩ : ByteArray) = X := ⟨_, rfl⟩
        have HX := hide hX
        have hFl := F.l
        have hFp := F.p
        have hcl2 : c.l.length ≤ 1000 ∧ c.p.length ≤ 1000 := ⟨by omega, by omega⟩
        have hcts : ∀ y ∈ textsV c, y.length ≤ 10000 := by rw [hct]; exact hts
        clear hm hc hX hct hts hcl
        rcases hkc with ⟨hd, hk⟩ | ⟨hd, hkk, hks⟩
        · have Ho : Hid (oneP n.toNat (spA nm m st) v = ((⟨#[]⟩ : ByteArray).data.toList, false, 0)) := one_none ho Hm.out hd
          have Hk := hide hk
          clear hd hk hcv
          go_enter Try.func5, Try.ntmps5
          go_wp2_with (first
            | (go_at_call 8; refine (awake_any _).mono ?_; rintro e w1 ⟨rfl, bb⟩; replace P := P.next bb; clear bb c0 c1 c2 c3 c4 c5 c6; obtain ⟨c0, c1, c2, c3, c4, c5, c6⟩ := P.all)
            | (go_at_call 18; refine (hru _).mono ?_; rintro e w2 ⟨rfl, bb⟩; replace P := (P.next bb).alloc (.cells #[.string FA, .string SA, .bool nd, .string EA, .bool kp] 45); clear bb c0 c1 c2 c3 c4 c5 c6; obtain ⟨c0, c1, c2, c3, c4, c5, c6⟩ := P.all)
            | (go_at_call 9; refine (lfew_is nm m st _ v true _ (H0.out.later P.bel) W hn Hf.out).mono ?_; rintro e w3 ⟨rfl, bb⟩; replace P := P.next bb; clear bb c0 c1 c2 c3 c4 c5 c6; obtain ⟨c0, c1, c2, c3, c4, c5, c6⟩ := P.all)
            | (go_at_call 15; refine (rxmay_is nm m st true _ Hm.out).mono ?_; rintro e w4 ⟨rfl, bb⟩; replace P := P.next bb; clear bb c0 c1 c2 c3 c4 c5 c6; obtain ⟨c0, c1, c2, c3, c4, c5, c6⟩ := P.all)
            | (go_at_call 10; refine (pone_is n nm m st _ v ⟨#[]⟩ false 0 _ h0 h1 (H0.out.later P.bel) F hnm Ho.out).mono ?_; rintro e w5 ⟨rfl, bb⟩; replace P := P.next bb; clear bb c0 c1 c2 c3 c4 c5 c6; obtain ⟨c0, c1, c2, c3, c4, c5, c6⟩ := P.all)
            | (go_at_call 19; refine (rcanon_o _ v c _ X _ (H0.out.later P.bel) (by have := F.l; omega) (by have := F.p; omega) Hc.out Hk.out HX.out).mono ?_; rintro e w6 ⟨la, lc, pa, pc, rfl, Rl, Rp, bb, _, _⟩; replace P := (P.next bb).alloc (.cells #[.int .i64 0, .string X, .slice la c.l.length lc, .slice pa c.p.length pc] 27); have Q := Bx.made w6 #[.int .i64 0, .string X, .slice la c.l.length lc, .slice pa c.p.length pc] 27; have VC : VlAt (w6.alloc (.cells #[.int .i64 0, .string X, .slice la c.l.length lc, .slice pa c.p.length pc] 27)) (.agg #[.int .i64 0, .string X, .slice la c.l.length lc, .slice pa c.p.length pc]) c := VlAt.later ⟨_, _, by rw [Hk.out, HX.out], Rl, Rp⟩ (b_alloc _ _); obtain ⟨q0, q1, q2, q3⟩ := cells4 Q; clear bb c0 c1 c2 c3 c4 c5 c6; obtain ⟨c0, c1, c2, c3, c4, c5, c6⟩ := P.all))
          all_goals go_ret
          all_goals exact ⟨rfl, P.bel⟩
        · rcases one_error ho Hm.out hd with ⟨e1, hm0, hne⟩ | ⟨e1, hg, hv⟩ | ⟨e1, hg, hv⟩
          · have Ho : Hid (oneP n.toNat (spA nm m st) v = ((⟨#[]⟩ : ByteArray).data.toList, false, 4)) := e1
            have hm1 : 0 < m := hm0
            rcases hks with h | hks
            · exact absurd h hne
            rcases hks with h | h
            · have Hk := hide (hkk.trans h)
              clear hd hkk hcv e1 hne h hm0
              go_enter Try.func5, Try.ntmps5
              go_wp2_with (first
                | (go_at_call 8; refine (awake_any _).mono ?_; rintro e w1 ⟨rfl, bb⟩; replace P := P.next bb; clear bb c0 c1 c2 c3 c4 c5 c6; obtain ⟨c0, c1, c2, c3, c4, c5, c6⟩ := P.all)
                | (go_at_call 18; refine (hru _).mono ?_; rintro e w2 ⟨rfl, bb⟩; replace P := (P.next bb).alloc (.cells #[.string FA, .string SA, .bool nd, .string EA, .bool kp] 45); clear bb c0 c1 c2 c3 c4 c5 c6; obtain ⟨c0, c1, c2, c3, c4, c5, c6⟩ := P.all)
                | (go_at_call 9; refine (lfew_is nm m st _ v true _ (H0.out.later P.bel) W hn Hf.out).mono ?_; rintro e w3 ⟨rfl, bb⟩; replace P := P.next bb; clear bb c0 c1 c2 c3 c4 c5 c6; obtain ⟨c0, c1, c2, c3, c4, c5, c6⟩ := P.all)
                | (go_at_call 15; refine (rxmay_is nm m st true _ Hm.out).mono ?_; rintro e w4 ⟨rfl, bb⟩; replace P := P.next bb; clear bb c0 c1 c2 c3 c4 c5 c6; obtain ⟨c0, c1, c2, c3, c4, c5, c6⟩ := P.all)
                | (go_at_call 10; refine (pone_is n nm m st _ v ⟨#[]⟩ false 4 _ h0 h1 (H0.out.later P.bel) F hnm Ho.out).mono ?_; rintro e w5 ⟨rfl, bb⟩; replace P := P.next bb; clear bb c0 c1 c2 c3 c4 c5 c6; obtain ⟨c0, c1, c2, c3, c4, c5, c6⟩ := P.all)
                | (go_at_call 19; refine (rcanon_o _ v c _ X _ (H0.out.later P.bel) (by have := F.l; omega) (by have := F.p; omega) Hc.out Hk.out HX.out).mono ?_; rintro e w6 ⟨la, lc, pa, pc, rfl, Rl, Rp, bb, _, _⟩; replace P := (P.next bb).alloc (.cells #[.int .i64 2, .string X, .slice la c.l.length lc, .slice pa c.p.length pc] 27); have Q := Bx.made w6 #[.int .i64 2, .string X, .slice la c.l.length lc, .slice pa c.p.length pc] 27; have VC : VlAt (w6.alloc (.cells #[.int .i64 2, .string X, .slice la c.l.length lc, .slice pa c.p.length pc] 27)) (.agg #[.int .i64 2, .string X, .slice la c.l.length lc, .slice pa c.p.length pc]) c := VlAt.later ⟨_, _, by rw [Hk.out, HX.out], Rl, Rp⟩ (b_alloc _ _); obtain ⟨q0, q1, q2, q3⟩ := cells4 Q; clear bb c0 c1 c2 c3 c4 c5 c6; obtain ⟨c0, c1, c2, c3, c4, c5, c6⟩ := P.all))
              all_goals go_ret
              all_goals exact ⟨rfl, P.bel⟩
            · have Hk := hide (hkk.trans h)
              clear hd hkk hcv e1 hne h hm0
              go_enter Try.func5, Try.ntmps5
              go_wp2_with (first
                | (go_at_call 8; refine (awake_any _).mono ?_; rintro e w1 ⟨rfl, bb⟩; replace P := P.next bb; clear bb c0 c1 c2 c3 c4 c5 c6; obtain ⟨c0, c1, c2, c3, c4, c5, c6⟩ := P.all)
                | (go_at_call 18; refine (hru _).mono ?_; rintro e w2 ⟨rfl, bb⟩; replace P := (P.next bb).alloc (.cells #[.string FA, .string SA, .bool nd, .string EA, .bool kp] 45); clear bb c0 c1 c2 c3 c4 c5 c6; obtain ⟨c0, c1, c2, c3, c4, c5, c6⟩ := P.all)
                | (go_at_call 9; refine (lfew_is nm m st _ v true _ (H0.out.later P.bel) W hn Hf.out).mono ?_; rintro e w3 ⟨rfl, bb⟩; replace P := P.next bb; clear bb c0 c1 c2 c3 c4 c5 c6; obtain ⟨c0, c1, c2, c3, c4, c5, c6⟩ := P.all)
                | (go_at_call 15; refine (rxmay_is nm m st true _ Hm.out).mono ?_; rintro e w4 ⟨rfl, bb⟩; replace P := P.next bb; clear bb c0 c1 c2 c3 c4 c5 c6; obtain ⟨c0, c1, c2, c3, c4, c5, c6⟩ := P.all)
                | (go_at_call 10; refine (pone_is n nm m st _ v ⟨#[]⟩ false 4 _ h0 h1 (H0.out.later P.bel) F hnm Ho.out).mono ?_; rintro e w5 ⟨rfl, bb⟩; replace P := P.next bb; clear bb c0 c1 c2 c3 c4 c5 c6; obtain ⟨c0, c1, c2, c3, c4, c5, c6⟩ := P.all)
                | (go_at_call 19; refine (rcanon_o _ v c _ X _ (H0.out.later P.bel) (by have := F.l; omega) (by have := F.p; omega) Hc.out Hk.out HX.out).mono ?_; rintro e w6 ⟨la, lc, pa, pc, rfl, Rl, Rp, bb, _, _⟩; replace P := (P.next bb).alloc (.cells #[.int .i64 3, .string X, .slice la c.l.length lc, .slice pa c.p.length pc] 27); have Q := Bx.made w6 #[.int .i64 3, .string X, .slice la c.l.length lc, .slice pa c.p.length pc] 27; have VC : VlAt (w6.alloc (.cells #[.int .i64 3, .string X, .slice la c.l.length lc, .slice pa c.p.length pc] 27)) (.agg #[.int .i64 3, .string X, .slice la c.l.length lc, .slice pa c.p.length pc]) c := VlAt.later ⟨_, _, by rw [Hk.out, HX.out], Rl, Rp⟩ (b_alloc _ _); obtain ⟨q0, q1, q2, q3⟩ := cells4 Q; clear bb c0 c1 c2 c3 c4 c5 c6; obtain ⟨c0, c1, c2, c3, c4, c5, c6⟩ := P.all))
              all_goals go_ret
              all_goals exact ⟨rfl, P.bel⟩
          · have Ho : Hid (oneP n.toNat (spA nm m st) v = ((⟨#[]⟩ : ByteArray).data.toList, false, 3)) := e1
            have Hval : Hid (validV c = false) := hcv.trans hv
            rcases hks with h | h | h
            · have Hk := hide (hkk.trans h)
              clear hd hkk hcv e1 h hv hg
              go_enter Try.func5, Try.ntmps5
              go_wp2_with (first
                | (go_at_call 8; refine (awake_any _).mono ?_; rintro e w1 ⟨rfl, bb⟩; replace P := P.next bb; clear bb c0 c1 c2 c3 c4 c5 c6; obtain ⟨c0, c1, c2, c3, c4, c5, c6⟩ := P.all)
                | (go_at_call 18; refine (hru _).mono ?_; rintro e w2 ⟨rfl, bb⟩; replace P := (P.next bb).alloc (.cells #[.string FA, .string SA, .bool nd, .string EA, .bool kp] 45); clear bb c0 c1 c2 c3 c4 c5 c6; obtain ⟨c0, c1, c2, c3, c4, c5, c6⟩ := P.all)
                | (go_at_call 9; refine (lfew_is nm m st _ v true _ (H0.out.later P.bel) W hn Hf.out).mono ?_; rintro e w3 ⟨rfl, bb⟩; replace P := P.next bb; clear bb c0 c1 c2 c3 c4 c5 c6; obtain ⟨c0, c1, c2, c3, c4, c5, c6⟩ := P.all)
                | (go_at_call 15; refine (rxmay_is nm m st true _ Hm.out).mono ?_; rintro e w4 ⟨rfl, bb⟩; replace P := P.next bb; clear bb c0 c1 c2 c3 c4 c5 c6; obtain ⟨c0, c1, c2, c3, c4, c5, c6⟩ := P.all)
                | (go_at_call 10; refine (pone_is n nm m st _ v ⟨#[]⟩ false 3 _ h0 h1 (H0.out.later P.bel) F hnm Ho.out).mono ?_; rintro e w5 ⟨rfl, bb⟩; replace P := P.next bb; clear bb c0 c1 c2 c3 c4 c5 c6; obtain ⟨c0, c1, c2, c3, c4, c5, c6⟩ := P.all)
                | (go_at_call 19; refine (rcanon_o _ v c _ X _ (H0.out.later P.bel) (by have := F.l; omega) (by have := F.p; omega) Hc.out Hk.out HX.out).mono ?_; rintro e w6 ⟨la, lc, pa, pc, rfl, Rl, Rp, bb, _, _⟩; replace P := (P.next bb).alloc (.cells #[.int .i64 1, .string X, .slice la c.l.length lc, .slice pa c.p.length pc] 27); have Q := Bx.made w6 #[.int .i64 1, .string X, .slice la c.l.length lc, .slice pa c.p.length pc] 27; have VC : VlAt (w6.alloc (.cells #[.int .i64 1, .string X, .slice la c.l.length lc, .slice pa c.p.length pc] 27)) (.agg #[.int .i64 1, .string X, .slice la c.l.length lc, .slice pa c.p.length pc]) c := VlAt.later ⟨_, _, by rw [Hk.out, HX.out], Rl, Rp⟩ (b_alloc _ _); obtain ⟨q0, q1, q2, q3⟩ := cells4 Q; clear bb c0 c1 c2 c3 c4 c5 c6; obtain ⟨c0, c1, c2, c3, c4, c5, c6⟩ := P.all)
                | (go_at_call 16; refine (rvalid_is _ c false _ VC hcl2.1 hcl2.2 hcts Hval.out).mono ?_; rintro e w7 ⟨rfl, bb⟩; replace P := P.next bb))
              all_goals go_ret
              all_goals exact ⟨rfl, P.bel⟩
            · have Hk := hide (hkk.trans h)
              clear hd hkk hcv e1 h hv hg
              go_enter Try.func5, Try.ntmps5
              go_wp2_with (first
                | (go_at_call 8; refine (awake_any _).mono ?_; rintro e w1 ⟨rfl, bb⟩; replace P := P.next bb; clear bb c0 c1 c2 c3 c4 c5 c6; obtain ⟨c0, c1, c2, c3, c4, c5, c6⟩ := P.all)
                | (go_at_call 18; refine (hru _).mono ?_; rintro e w2 ⟨rfl, bb⟩; replace P := (P.next bb).alloc (.cells #[.string FA, .string SA, .bool nd, .string EA, .bool kp] 45); clear bb c0 c1 c2 c3 c4 c5 c6; obtain ⟨c0, c1, c2, c3, c4, c5, c6⟩ := P.all)
                | (go_at_call 9; refine (lfew_is nm m st _ v true _ (H0.out.later P.bel) W hn Hf.out).mono ?_; rintro e w3 ⟨rfl, bb⟩; replace P := P.next bb; clear bb c0 c1 c2 c3 c4 c5 c6; obtain ⟨c0, c1, c2, c3, c4, c5, c6⟩ := P.all)
                | (go_at_call 15; refine (rxmay_is nm m st true _ Hm.out).mono ?_; rintro e w4 ⟨rfl, bb⟩; replace P := P.next bb; clear bb c0 c1 c2 c3 c4 c5 c6; obtain ⟨c0, c1, c2, c3, c4, c5, c6⟩ := P.all)
                | (go_at_call 10; refine (pone_is n nm m st _ v ⟨#[]⟩ false 3 _ h0 h1 (H0.out.later P.bel) F hnm Ho.out).mono ?_; rintro e w5 ⟨rfl, bb⟩; replace P := P.next bb; clear bb c0 c1 c2 c3 c4 c5 c6; obtain ⟨c0, c1, c2, c3, c4, c5, c6⟩ := P.all)
                | (go_at_call 19; refine (rcanon_o _ v c _ X _ (H0.out.later P.bel) (by have := F.l; omega) (by have := F.p; omega) Hc.out Hk.out HX.out).mono ?_; rintro e w6 ⟨la, lc, pa, pc, rfl, Rl, Rp, bb, _, _⟩; replace P := (P.next bb).alloc (.cells #[.int .i64 2, .string X, .slice la c.l.length lc, .slice pa c.p.length pc] 27); have Q := Bx.made w6 #[.int .i64 2, .string X, .slice la c.l.length lc, .slice pa c.p.length pc] 27; have VC : VlAt (w6.alloc (.cells #[.int .i64 2, .string X, .slice la c.l.length lc, .slice pa c.p.length pc] 27)) (.agg #[.int .i64 2, .string X, .slice la c.l.length lc, .slice pa c.p.length pc]) c := VlAt.later ⟨_, _, by rw [Hk.out, HX.out], Rl, Rp⟩ (b_alloc _ _); obtain ⟨q0, q1, q2, q3⟩ := cells4 Q; clear bb c0 c1 c2 c3 c4 c5 c6; obtain ⟨c0, c1, c2, c3, c4, c5, c6⟩ := P.all)
                | (go_at_call 16; refine (rvalid_is _ c false _ VC hcl2.1 hcl2.2 hcts Hval.out).mono ?_; rintro e w7 ⟨rfl, bb⟩; replace P := P.next bb))
              all_goals go_ret
              all_goals exact ⟨rfl, P.bel⟩
            · have Hk := hide (hkk.trans h)
              clear hd hkk hcv e1 h hv hg
              go_enter Try.func5, Try.ntmps5
              go_wp2_with (first
                | (go_at_call 8; refine (awake_any _).mono ?_; rintro e w1 ⟨rfl, bb⟩; replace P := P.next bb; clear bb c0 c1 c2 c3 c4 c5 c6; obtain ⟨c0, c1, c2, c3, c4, c5, c6⟩ := P.all)
                | (go_at_call 18; refine (hru _).mono ?_; rintro e w2 ⟨rfl, bb⟩; replace P := (P.next bb).alloc (.cells #[.string FA, .string SA, .bool nd, .string EA, .bool kp] 45); clear bb c0 c1 c2 c3 c4 c5 c6; obtain ⟨c0, c1, c2, c3, c4, c5, c6⟩ := P.all)
                | (go_at_call 9; refine (lfew_is nm m st _ v true _ (H0.out.later P.bel) W hn Hf.out).mono ?_; rintro e w3 ⟨rfl, bb⟩; replace P := P.next bb; clear bb c0 c1 c2 c3 c4 c5 c6; obtain ⟨c0, c1, c2, c3, c4, c5, c6⟩ := P.all)
                | (go_at_call 15; refine (rxmay_is nm m st true _ Hm.out).mono ?_; rintro e w4 ⟨rfl, bb⟩; replace P := P.next bb; clear bb c0 c1 c2 c3 c4 c5 c6; obtain ⟨c0, c1, c2, c3, c4, c5, c6⟩ := P.all)
                | (go_at_call 10; refine (pone_is n nm m st _ v ⟨#[]⟩ false 3 _ h0 h1 (H0.out.later P.bel) F hnm Ho.out).mono ?_; rintro e w5 ⟨rfl, bb⟩; replace P := P.next bb; clear bb c0 c1 c2 c3 c4 c5 c6; obtain ⟨c0, c1, c2, c3, c4, c5, c6⟩ := P.all)
                | (go_at_call 19; refine (rcanon_o _ v c _ X _ (H0.out.later P.bel) (by have := F.l; omega) (by have := F.p; omega) Hc.out Hk.out HX.out).mono ?_; rintro e w6 ⟨la, lc, pa, pc, rfl, Rl, Rp, bb, _, _⟩; replace P := (P.next bb).alloc (.cells #[.int .i64 3, .string X, .slice la c.l.length lc, .slice pa c.p.length pc] 27); have Q := Bx.made w6 #[.int .i64 3, .string X, .slice la c.l.length lc, .slice pa c.p.length pc] 27; have VC : VlAt (w6.alloc (.cells #[.int .i64 3, .string X, .slice la c.l.length lc, .slice pa c.p.length pc] 27)) (.agg #[.int .i64 3, .string X, .slice la c.l.length lc, .slice pa c.p.length pc]) c := VlAt.later ⟨_, _, by rw [Hk.out, HX.out], Rl, Rp⟩ (b_alloc _ _); obtain ⟨q0, q1, q2, q3⟩ := cells4 Q; clear bb c0 c1 c2 c3 c4 c5 c6; obtain ⟨c0, c1, c2, c3, c4, c5, c6⟩ := P.all)
                | (go_at_call 16; refine (rvalid_is _ c false _ VC hcl2.1 hcl2.2 hcts Hval.out).mono ?_; rintro e w7 ⟨rfl, bb⟩; replace P := P.next bb))
              all_goals go_ret
              all_goals exact ⟨rfl, P.bel⟩
          · obtain ⟨T, hT⟩ : ∃ T : ByteArray, T.data.toList = tellP (rlN n.toNat) (spA nm m st) v := ⟨⟨(tellP (rlN n.toNat) (spA nm m st) v).toArray⟩, rfl⟩
            have Ho : Hid (oneP n.toNat (spA nm m st) v = (T.data.toList, true, 0)) := by rw [hT]; exact e1
            have Hval : Hid (validV c = true) := hcv.trans hv
            have hg2 : v.kind ≠ 1 → m = 0 := fun h => by
              have : ¬ 0 < m := fun h' => hg ⟨h', h⟩
              omega
            rcases hks with h | h | h
            · have Hk := hide (hkk.trans h)
              clear hd hkk hcv e1 h hv hg hg2 hT
              by_cases hm0 : m = 0
              · subst hm0
                go_enter Try.func5, Try.ntmps5
                go_wp2_with (first
                  | (go_at_call 8; refine (awake_any _).mono ?_; rintro e w1 ⟨rfl, bb⟩; replace P := P.next bb; clear bb c0 c1 c2 c3 c4 c5 c6; obtain ⟨c0, c1, c2, c3, c4, c5, c6⟩ := P.all)
                  | (go_at_call 18; refine (hru _).mono ?_; rintro e w2 ⟨rfl, bb⟩; replace P := (P.next bb).alloc (.cells #[.string FA, .string SA, .bool nd, .string EA, .bool kp] 45); clear bb c0 c1 c2 c3 c4 c5 c6; obtain ⟨c0, c1, c2, c3, c4, c5, c6⟩ := P.all)
                  | (go_at_call 9; refine (lfew_is nm 0 st _ v true _ (H0.out.later P.bel) W hn Hf.out).mono ?_; rintro e w3 ⟨rfl, bb⟩; replace P := P.next bb; clear bb c0 c1 c2 c3 c4 c5 c6; obtain ⟨c0, c1, c2, c3, c4, c5, c6⟩ := P.all)
                  | (go_at_call 15; refine (rxmay_is nm 0 st true _ Hm.out).mono ?_; rintro e w4 ⟨rfl, bb⟩; replace P := P.next bb; clear bb c0 c1 c2 c3 c4 c5 c6; obtain ⟨c0, c1, c2, c3, c4, c5, c6⟩ := P.all)
                  | (go_at_call 10; refine (pone_is n nm 0 st _ v T true 0 _ h0 h1 (H0.out.later P.bel) F hnm Ho.out).mono ?_; rintro e w5 ⟨rfl, bb⟩; replace P := P.next bb; clear bb c0 c1 c2 c3 c4 c5 c6; obtain ⟨c0, c1, c2, c3, c4, c5, c6⟩ := P.all)
                  | (go_at_call 19; refine (rcanon_o _ v c _ X _ (H0.out.later P.bel) (by have := F.l; omega) (by have := F.p; omega) Hc.out Hk.out HX.out).mono ?_; rintro e w6 ⟨la, lc, pa, pc, rfl, Rl, Rp, bb, _, _⟩; replace P := (P.next bb).alloc (.cells #[.int .i64 1, .string X, .slice la c.l.length lc, .slice pa c.p.length pc] 27); have Q := Bx.made w6 #[.int .i64 1, .string X, .slice la c.l.length lc, .slice pa c.p.length pc] 27; have VC : VlAt (w6.alloc (.cells #[.int .i64 1, .string X, .slice la c.l.length lc, .slice pa c.p.length pc] 27)) (.agg #[.int .i64 1, .string X, .slice la c.l.length lc, .slice pa c.p.length pc]) c := VlAt.later ⟨_, _, by rw [Hk.out, HX.out], Rl, Rp⟩ (b_alloc _ _); obtain ⟨q0, q1, q2, q3⟩ := cells4 Q; clear bb c0 c1 c2 c3 c4 c5 c6; obtain ⟨c0, c1, c2, c3, c4, c5, c6⟩ := P.all)
                  | (go_at_call 16; refine (rvalid_is _ c true _ VC hcl2.1 hcl2.2 hcts Hval.out).mono ?_; rintro e w7 ⟨rfl, bb⟩; replace P := P.next bb))
                all_goals go_ret
                all_goals exact ⟨rfl, P.bel⟩
              · have hmf : (m == 0) = false := by simp [hm0]
                clear hm0
                go_enter Try.func5, Try.ntmps5
                go_wp2_with (first
                  | (go_at_call 8; refine (awake_any _).mono ?_; rintro e w1 ⟨rfl, bb⟩; replace P := P.next bb; clear bb c0 c1 c2 c3 c4 c5 c6; obtain ⟨c0, c1, c2, c3, c4, c5, c6⟩ := P.all)
                  | (go_at_call 18; refine (hru _).mono ?_; rintro e w2 ⟨rfl, bb⟩; replace P := (P.next bb).alloc (.cells #[.string FA, .string SA, .bool nd, .string EA, .bool kp] 45); clear bb c0 c1 c2 c3 c4 c5 c6; obtain ⟨c0, c1, c2, c3, c4, c5, c6⟩ := P.all)
                  | (go_at_call 9; refine (lfew_is nm m st _ v true _ (H0.out.later P.bel) W hn Hf.out).mono ?_; rintro e w3 ⟨rfl, bb⟩; replace P := P.next bb; clear bb c0 c1 c2 c3 c4 c5 c6; obtain ⟨c0, c1, c2, c3, c4, c5, c6⟩ := P.all)
                  | (go_at_call 15; refine (rxmay_is nm m st true _ Hm.out).mono ?_; rintro e w4 ⟨rfl, bb⟩; replace P := P.next bb; clear bb c0 c1 c2 c3 c4 c5 c6; obtain ⟨c0, c1, c2, c3, c4, c5, c6⟩ := P.all)
                  | (go_at_call 10; refine (pone_is n nm m st _ v T true 0 _ h0 h1 (H0.out.later P.bel) F hnm Ho.out).mono ?_; rintro e w5 ⟨rfl, bb⟩; replace P := P.next bb; clear bb c0 c1 c2 c3 c4 c5 c6; obtain ⟨c0, c1, c2, c3, c4, c5, c6⟩ := P.all)
                  | (go_at_call 19; refine (rcanon_o _ v c _ X _ (H0.out.later P.bel) (by have := F.l; omega) (by have := F.p; omega) Hc.out Hk.out HX.out).mono ?_; rintro e w6 ⟨la, lc, pa, pc, rfl, Rl, Rp, bb, _, _⟩; replace P := (P.next bb).alloc (.cells #[.int .i64 1, .string X, .slice la c.l.length lc, .slice pa c.p.length pc] 27); have Q := Bx.made w6 #[.int .i64 1, .string X, .slice la c.l.length lc, .slice pa c.p.length pc] 27; have VC : VlAt (w6.alloc (.cells #[.int .i64 1, .string X, .slice la c.l.length lc, .slice pa c.p.length pc] 27)) (.agg #[.int .i64 1, .string X, .slice la c.l.length lc, .slice pa c.p.length pc]) c := VlAt.later ⟨_, _, by rw [Hk.out, HX.out], Rl, Rp⟩ (b_alloc _ _); obtain ⟨q0, q1, q2, q3⟩ := cells4 Q; clear bb c0 c1 c2 c3 c4 c5 c6; obtain ⟨c0, c1, c2, c3, c4, c5, c6⟩ := P.all)
                  | (go_at_call 16; refine (rvalid_is _ c true _ VC hcl2.1 hcl2.2 hcts Hval.out).mono ?_; rintro e w7 ⟨rfl, bb⟩; replace P := P.next bb))
                all_goals go_ret
                all_goals exact ⟨rfl, P.bel⟩
            · have Hk := hide (hkk.trans h)
              have hmz : m = 0 := hg2 (by omega)
              subst hmz
              clear hd hkk hcv e1 h hv hg hg2 hT
              go_enter Try.func5, Try.ntmps5
              go_wp2_with (first
                | (go_at_call 8; refine (awake_any _).mono ?_; rintro e w1 ⟨rfl, bb⟩; replace P := P.next bb; clear bb c0 c1 c2 c3 c4 c5 c6; obtain ⟨c0, c1, c2, c3, c4, c5, c6⟩ := P.all)
                | (go_at_call 18; refine (hru _).mono ?_; rintro e w2 ⟨rfl, bb⟩; replace P := (P.next bb).alloc (.cells #[.string FA, .string SA, .bool nd, .string EA, .bool kp] 45); clear bb c0 c1 c2 c3 c4 c5 c6; obtain ⟨c0, c1, c2, c3, c4, c5, c6⟩ := P.all)
                | (go_at_call 9; refine (lfew_is nm 0 st _ v true _ (H0.out.later P.bel) W hn Hf.out).mono ?_; rintro e w3 ⟨rfl, bb⟩; replace P := P.next bb; clear bb c0 c1 c2 c3 c4 c5 c6; obtain ⟨c0, c1, c2, c3, c4, c5, c6⟩ := P.all)
                | (go_at_call 15; refine (rxmay_is nm 0 st true _ Hm.out).mono ?_; rintro e w4 ⟨rfl, bb⟩; replace P := P.next bb; clear bb c0 c1 c2 c3 c4 c5 c6; obtain ⟨c0, c1, c2, c3, c4, c5, c6⟩ := P.all)
                | (go_at_call 10; refine (pone_is n nm 0 st _ v T true 0 _ h0 h1 (H0.out.later P.bel) F hnm Ho.out).mono ?_; rintro e w5 ⟨rfl, bb⟩; replace P := P.next bb; clear bb c0 c1 c2 c3 c4 c5 c6; obtain ⟨c0, c1, c2, c3, c4, c5, c6⟩ := P.all)
                | (go_at_call 19; refine (rcanon_o _ v c _ X _ (H0.out.later P.bel) (by have := F.l; omega) (by have := F.p; omega) Hc.out Hk.out HX.out).mono ?_; rintro e w6 ⟨la, lc, pa, pc, rfl, Rl, Rp, bb, _, _⟩; replace P := (P.next bb).alloc (.cells #[.int .i64 2, .string X, .slice la c.l.length lc, .slice pa c.p.length pc] 27); have Q := Bx.made w6 #[.int .i64 2, .string X, .slice la c.l.length lc, .slice pa c.p.length pc] 27; have VC : VlAt (w6.alloc (.cells #[.int .i64 2, .string X, .slice la c.l.length lc, .slice pa c.p.length pc] 27)) (.agg #[.int .i64 2, .string X, .slice la c.l.length lc, .slice pa c.p.length pc]) c := VlAt.later ⟨_, _, by rw [Hk.out, HX.out], Rl, Rp⟩ (b_alloc _ _); obtain ⟨q0, q1, q2, q3⟩ := cells4 Q; clear bb c0 c1 c2 c3 c4 c5 c6; obtain ⟨c0, c1, c2, c3, c4, c5, c6⟩ := P.all)
                | (go_at_call 16; refine (rvalid_is _ c true _ VC hcl2.1 hcl2.2 hcts Hval.out).mono ?_; rintro e w7 ⟨rfl, bb⟩; replace P := P.next bb))
              all_goals go_ret
              all_goals exact ⟨rfl, P.bel⟩
            · have Hk := hide (hkk.trans h)
              have hmz : m = 0 := hg2 (by omega)
              subst hmz
              clear hd hkk hcv e1 h hv hg hg2 hT
              go_enter Try.func5, Try.ntmps5
              go_wp2_with (first
                | (go_at_call 8; refine (awake_any _).mono ?_; rintro e w1 ⟨rfl, bb⟩; replace P := P.next bb; clear bb c0 c1 c2 c3 c4 c5 c6; obtain ⟨c0, c1, c2, c3, c4, c5, c6⟩ := P.all)
                | (go_at_call 18; refine (hru _).mono ?_; rintro e w2 ⟨rfl, bb⟩; replace P := (P.next bb).alloc (.cells #[.string FA, .string SA, .bool nd, .string EA, .bool kp] 45); clear bb c0 c1 c2 c3 c4 c5 c6; obtain ⟨c0, c1, c2, c3, c4, c5, c6⟩ := P.all)
                | (go_at_call 9; refine (lfew_is nm 0 st _ v true _ (H0.out.later P.bel) W hn Hf.out).mono ?_; rintro e w3 ⟨rfl, bb⟩; replace P := P.next bb; clear bb c0 c1 c2 c3 c4 c5 c6; obtain ⟨c0, c1, c2, c3, c4, c5, c6⟩ := P.all)
                | (go_at_call 15; refine (rxmay_is nm 0 st true _ Hm.out).mono ?_; rintro e w4 ⟨rfl, bb⟩; replace P := P.next bb; clear bb c0 c1 c2 c3 c4 c5 c6; obtain ⟨c0, c1, c2, c3, c4, c5, c6⟩ := P.all)
                | (go_at_call 10; refine (pone_is n nm 0 st _ v T true 0 _ h0 h1 (H0.out.later P.bel) F hnm Ho.out).mono ?_; rintro e w5 ⟨rfl, bb⟩; replace P := P.next bb; clear bb c0 c1 c2 c3 c4 c5 c6; obtain ⟨c0, c1, c2, c3, c4, c5, c6⟩ := P.all)
                | (go_at_call 19; refine (rcanon_o _ v c _ X _ (H0.out.later P.bel) (by have := F.l; omega) (by have := F.p; omega) Hc.out Hk.out HX.out).mono ?_; rintro e w6 ⟨la, lc, pa, pc, rfl, Rl, Rp, bb, _, _⟩; replace P := (P.next bb).alloc (.cells #[.int .i64 3, .string X, .slice la c.l.length lc, .slice pa c.p.length pc] 27); have Q := Bx.made w6 #[.int .i64 3, .string X, .slice la c.l.length lc, .slice pa c.p.length pc] 27; have VC : VlAt (w6.alloc (.cells #[.int .i64 3, .string X, .slice la c.l.length lc, .slice pa c.p.length pc] 27)) (.agg #[.int .i64 3, .string X, .slice la c.l.length lc, .slice pa c.p.length pc]) c := VlAt.later ⟨_, _, by rw [Hk.out, HX.out], Rl, Rp⟩ (b_alloc _ _); obtain ⟨q0, q1, q2, q3⟩ := cells4 Q; clear bb c0 c1 c2 c3 c4 c5 c6; obtain ⟨c0, c1, c2, c3, c4, c5, c6⟩ := P.all)
                | (go_at_call 16; refine (rvalid_is _ c true _ VC hcl2.1 hcl2.2 hcts Hval.out).mono ?_; rintro e w7 ⟨rfl, bb⟩; replace P := P.next bb))
              all_goals go_ret
              all_goals exact ⟨rfl, P.bel⟩
end Go.Proofs.Ytpfcfadbilaleaa
/-
  WALKS: the law PieceKeeps (layer 11).
-/
namespace Go.Proofs.Ytpfcfadbilaleaa
open Go.RowKit

/-- the law's two boxes: the rule, the value -/
structure Nz (w W : World) (b : Nat) (rs : Array Value) (tx : ByteArray) : Prop where
  bel : Below w.heap.size w W
  rule : Bx W b rs 37
  val : Bx W (b + 1) #[.int .i64 1, .string tx, .slice none 0 0, .slice none 0 0] 27
section
variable {w W W' : World} {b : Nat} {rs : Array Value} {tx : ByteArray}
theorem Nz.made (h : Below w.heap.size w W) (rs : Array Value) (tx : ByteArray) : Nz w ((W.alloc (.cells rs 37)).alloc (.cells #[.int .i64 1, .string tx, .slice none 0 0, .slice none 0 0] 27)) W.heap.size rs tx :=
  ⟨b_more (b_more h _) _, (Bx.made W _ _).later _, by have := Bx.made (W.alloc (.cells rs 37)) #[.int .i64 1, .string tx, .slice none 0 0, .slice none 0 0] 27; simpa using this⟩
theorem Nz.next (h : Nz w W b rs tx) (bb : Below W.heap.size W W') : Nz w W' b rs tx := ⟨b_then h.bel bb, h.rule.next bb, h.val.next bb⟩
theorem Nz.all {F S E : ByteArray} {nd kp : Bool} (h : Nz w W b #[.string F, .string S, .bool nd, .string E, .bool kp] tx) : W.cell? ⟨b, 0, none⟩ = some (.string F) ∧ W.cell? ⟨b, 1, none⟩ = some (.string S) ∧ W.cell? ⟨b, 2, none⟩ = some (.bool nd) ∧ W.cell? ⟨b, 3, none⟩ = some (.string E) ∧ W.cell? ⟨b, 4, none⟩ = some (.bool kp) ∧
    W.cell? ⟨b + 1, 0, none⟩ = some (.int .i64 1) ∧ W.cell? ⟨b + 1, 1, none⟩ = some (.string tx) ∧ W.cell? ⟨b + 1, 2, none⟩ = some (.slice none 0 0) ∧ W.cell? ⟨b + 1, 3, none⟩ = some (.slice none 0 0) := by
  obtain ⟨a0, a1, a2, a3, a4⟩ := cells5 h.rule
  obtain ⟨d0, d1, d2, d3⟩ := cells4 h.val
  exact ⟨a0, a1, a2, a3, a4, d0, d1, d2, d3⟩
end
theorem cnt_next (s : ByteArray) (q : Nat) (h : q < s.size) : cntR (s.data.toList.take (q + 1)) = cntR (s.data.toList.take q) + (if reN s[q].toNat then 1 else 0) := by
  rw [take_snoc s q h, cnt_app, cnt_cons]
  rfl
theorem may_a : mayX (spA ⟨#[97]⟩ 0 false) = true := by decide +kernel
set_option maxRecDepth 20000 in
set_option maxHeartbeats 16000000 in
theorem keeps_walk (n : Int) (tx : ByteArray) (w : World) (h0 : 0 ≤ n) (h1 : n ≤ 255) (ht : tx.size ≤ 9223372036854775807) :
    Calls Try.prog 7 #[.int .u8 n, .string tx] w fun e w' => e = .returned (.bool true) ∧ Below w.heap.size w w' := by
  cases ho : opZ n.toNat with
  | false =>
    go_enter Try.func7, Try.ntmps7
    go_wp2_with (first
      | (go_at_call 8; refine (awake_any _).mono ?_; rintro e w1 ⟨rfl, bb⟩; have B := bb; clear bb)
      | (go_at_call 14; refine (pof_no n _ h0 h1 ho).mono ?_; rintro e w2 ⟨rfl, bb⟩; have P := Nz.made (w := w) (W := w2) (b_then B bb) #[.string ⟨#[]⟩, .string ⟨#[]⟩, .bool false, .string ⟨#[]⟩, .bool false] tx; obtain ⟨c0, c1, c2, c3, c4, c8, c9, c10, c11⟩ := P.all; clear B bb))
    all_goals go_ret
    all_goals exact ⟨rfl, P.bel⟩
  | true =>
    obtain ⟨r, hr⟩ : ∃ r, rlN n.toNat = r := ⟨_, rfl⟩
    obtain ⟨FA, hFA⟩ : ∃ FA : ByteArray, (⟨r.first.toArray⟩ : ByteArray) = FA := ⟨_, rfl⟩
    obtain ⟨SA, hSA⟩ : ∃ SA : ByteArray, (⟨r.sep.toArray⟩ : ByteArray) = SA := ⟨_, rfl⟩
    obtain ⟨EA, hEA⟩ : ∃ EA : ByteArray, (⟨r.empty.toArray⟩ : ByteArray) = EA := ⟨_, rfl⟩
    obtain ⟨nd, hnd⟩ : ∃ b, r.named = b := ⟨_, rfl⟩
    obtain ⟨kp, hkp⟩ : ∃ b, r.keep = b := ⟨_, rfl⟩
    have Hr : Hid (rlV (rlN n.toNat) = .agg #[.string FA, .string SA, .bool nd, .string EA, .bool kp]) := by show _ = _; rw [hr]; unfold rlV; rw [hFA, hSA, hEA, hnd, hkp]
    clear hFA hSA hEA
    cases nd with
    | true =>
      clear hnd hkp hr
      go_enter Try.func7, Try.ntmps7
      go_wp2_with (first
        | (go_at_call 8; refine (awake_any _).mono ?_; rintro e w1 ⟨rfl, bb⟩; have B := bb; clear bb)
        | (go_at_call 14; refine (pof_yes n FA SA EA true kp _ h0 ho Hr.out).mono ?_; rintro e w2 ⟨rfl, bb⟩; have P := Nz.made (w := w) (W := w2) (b_then B bb) #[.string FA, .string SA, .bool true, .string EA, .bool kp] tx; obtain ⟨c0, c1, c2, c3, c4, c8, c9, c10, c11⟩ := P.all; clear B bb))
      all_goals go_ret
      all_goals exact ⟨rfl, P.bel⟩
    | false =>
      by_cases hs : tx.size ≤ 200
      · have hsd : decide ((200 : Int) < (tx.size : Int)) = false := by simp; omega
        have F : FewV (textV tx.data.toList) := text_few (by rw [← size_list]; exact hs)
        have hts : ∀ y ∈ textsV (textV tx.data.toList), y.length ≤ 10000 := fun y hy => by have := F.ts y hy; omega
        cases hv : validV (textV tx.data.toList) with
        | false =>
          have Hval := hide hv
          clear hnd hkp hr hv
          go_enter Try.func7, Try.ntmps7
          go_wp2_with (first
            | (go_at_call 8; refine (awake_any _).mono ?_; rintro e w1 ⟨rfl, bb⟩; have B := bb; clear bb)
            | (go_at_call 14; refine (pof_yes n FA SA EA false kp _ h0 ho Hr.out).mono ?_; rintro e w2 ⟨rfl, bb⟩; have P := Nz.made (w := w) (W := w2) (b_then B bb) #[.string FA, .string SA, .bool false, .string EA, .bool kp] tx; obtain ⟨c0, c1, c2, c3, c4, c8, c9, c10, c11⟩ := P.all; clear B bb)
            | (go_at_call 16; refine (rvalid_is _ (textV tx.data.toList) false _ (text_at tx _) (by simp [textV]) (by simp [textV]) hts Hval.out).mono ?_; rintro e w5 ⟨rfl, bb⟩; replace P := P.next bb; clear bb c0 c1 c2 c3 c4 c8 c9 c10 c11; obtain ⟨c0, c1, c2, c3, c4, c8, c9, c10, c11⟩ := P.all))
          all_goals go_ret
          all_goals exact ⟨rfl, P.bel⟩
        | true =>
          have Hval := hide hv
          have he := one_text ho may_a hv
          obtain ⟨T, hT⟩ : ∃ T : ByteArray, T.data.toList = textP (rlN n.toNat) (spA ⟨#[97]⟩ 0 false) tx.data.toList := ⟨⟨(textP (rlN n.toNat) (spA ⟨#[97]⟩ 0 false) tx.data.toList).toArray⟩, rfl⟩
          rw [← hT] at he
          have Ho := hide he
          rw [hr] at hT
          have hT2 : T.data.toList = encL kp tx.data.toList := by
            rw [hT]
            unfold textP
            simp only
            rw [hnd, if_neg (by simp), hkp]
            rfl
          have htl : T.size ≤ 10000 := by
            rw [size_list, hT2]
            have a1 := (enc_len kp tx.data.toList).2
            rw [← size_list tx] at a1
            omega
          have hcn : cntR T.data.toList = if kp then cntR tx.data.toList else 0 := by
            rw [hT2]
            cases kp
            · exact cnt_none _
            · exact cnt_keep _
          have Hcn := hide hcn
          clear hv he hT hr hnd hkp hT2 hcn
          go_enter Try.func7, Try.ntmps7
          go_wp2_with (first
            | (go_at_call 8; refine (awake_any _).mono ?_; rintro e w1 ⟨rfl, bb⟩; have B := bb; clear bb)
            | (go_at_call 14; refine (pof_yes n FA SA EA false kp _ h0 ho Hr.out).mono ?_; rintro e w2 ⟨rfl, bb⟩; have P := Nz.made (w := w) (W := w2) (b_then B bb) #[.string FA, .string SA, .bool false, .string EA, .bool kp] tx; obtain ⟨c0, c1, c2, c3, c4, c8, c9, c10, c11⟩ := P.all; clear B bb)
            | (go_at_call 16; refine (rvalid_is _ (textV tx.data.toList) true _ (text_at tx _) (by simp [textV]) (by simp [textV]) hts Hval.out).mono ?_; rintro e w5 ⟨rfl, bb⟩; replace P := P.next bb; clear bb c0 c1 c2 c3 c4 c8 c9 c10 c11; obtain ⟨c0, c1, c2, c3, c4, c8, c9, c10, c11⟩ := P.all)
            | (go_at_call 10; refine (pone_is n ⟨#[97]⟩ 0 false _ (textV tx.data.toList) T true 0 _ h0 h1 (text_at tx _) F (by decide) Ho.out).mono ?_; rintro e w6 ⟨rfl, bb⟩; replace P := P.next bb; clear bb c0 c1 c2 c3 c4 c8 c9 c10 c11; obtain ⟨c0, c1, c2, c3, c4, c8, c9, c10, c11⟩ := P.all))
          have B := P.bel
          go_loop [12, 13] (fun c i => ∃ q z : Nat, q ≤ T.size ∧ i = .int .i64 q ∧ c = .int .i64 z ∧ z ≤ q ∧ Hid (cntR (T.data.toList.take q) = z)) (fun _ i => T.size - (intOf i).toNat)
          case atStart => exact ⟨0, 0, Nat.zero_le _, rfl, rfl, Nat.le_refl _, rfl⟩
          case round =>
            obtain ⟨q, z, hq, rfl, rfl, hzq, Hz⟩ := hrel
            by_cases hlt : q < T.size
            · have hnx := cnt_next T q hlt
              rw [Hz.out] at hnx
              have hb := UInt8.toNat_lt T[q]
              obtain ⟨re, hre⟩ : ∃ b, reN T[q].toNat = b := ⟨_, rfl⟩
              rw [hre] at hnx
              have Hre := hide (show reN ((T[q].toNat : Int)).toNat = re by rw [Int.toNat_natCast]; exact hre)
              have b0 : (0 : Int) ≤ (T[q].toNat : Int) := by omega
              have b1 : (T[q].toNat : Int) ≤ 255 := by omega
              clear hre hb
              cases re with
              | true =>
                have Hnx : Hid (cntR (T.data.toList.take (q + 1)) = z + 1) := hnx
                clear hnx
                go_wp2_with (go_at_call 12; refine (rres_is _ _ _ b0 b1 Hre.out).mono ?_; rintro e w7 ⟨rfl, hw⟩; rw [hw])
                go_round
                case rel => exact ⟨q + 1, z + 1, by omega, by go_num, by go_num, by omega, Hnx⟩
                case measure => simp [intOf]; omega
              | false =>
                have Hnx : Hid (cntR (T.data.toList.take (q + 1)) = z) := hnx
                clear hnx
                go_wp2_with (go_at_call 12; refine (rres_is _ _ _ b0 b1 Hre.out).mono ?_; rintro e w7 ⟨rfl, hw⟩; rw [hw])
                go_round
                case rel => exact ⟨q + 1, z, by omega, by go_num, rfl, by omega, Hnx⟩
                case measure => simp [intOf]; omega
            · have hzT : z = if kp then cntR tx.data.toList else 0 := by rw [← Hcn.out, ← Hz.out, List.take_of_length_le (by rw [← size_list]; omega)]
              have HzT := hide hzT
              clear hzT
              go_wp2
              go_loop [14, 15] (fun c i => ∃ q y : Nat, q ≤ tx.size ∧ i = .int .i64 q ∧ c = .int .i64 y ∧ y ≤ q ∧ Hid (cntR (tx.data.toList.take q) = y)) (fun _ i => tx.size - (intOf i).toNat)
              case atStart => exact ⟨0, 0, Nat.zero_le _, rfl, rfl, Nat.le_refl _, rfl⟩
              case round =>
                obtain ⟨p, y, hp, rfl, rfl, hyp, Hy⟩ := hrel
                by_cases hlt2 : p < tx.size
                · have hnx := cnt_next tx p hlt2
                  rw [Hy.out] at hnx
                  have hb := UInt8.toNat_lt tx[p]
                  obtain ⟨re, hre⟩ : ∃ b, reN tx[p].toNat = b := ⟨_, rfl⟩
                  rw [hre] at hnx
                  have Hre := hide (show reN ((tx[p].toNat : Int)).toNat = re by rw [Int.toNat_natCast]; exact hre)
                  have b0 : (0 : Int) ≤ (tx[p].toNat : Int) := by omega
                  have b1 : (tx[p].toNat : Int) ≤ 255 := by omega
                  clear hre hb
                  cases re with
                  | true =>
                    have Hnx : Hid (cntR (tx.data.toList.take (p + 1)) = y + 1) := hnx
                    clear hnx
                    go_wp2_with (go_at_call 12; refine (rres_is _ _ _ b0 b1 Hre.out).mono ?_; rintro e w7 ⟨rfl, hw⟩; rw [hw])
                    go_round
                    case rel => exact ⟨p + 1, y + 1, by omega, by go_num, by go_num, by omega, Hnx⟩
                    case measure => simp [intOf]; omega
                  | false =>
                    have Hnx : Hid (cntR (tx.data.toList.take (p + 1)) = y) := hnx
                    clear hnx
                    go_wp2_with (go_at_call 12; refine (rres_is _ _ _ b0 b1 Hre.out).mono ?_; rintro e w7 ⟨rfl, hw⟩; rw [hw])
                    go_round
                    case rel => exact ⟨p + 1, y, by omega, by go_num, rfl, by omega, Hnx⟩
                    case measure => simp [intOf]; omega
                · have hy : y = cntR tx.data.toList := by rw [← Hy.out, List.take_of_length_le (by rw [← size_list]; omega)]
                  cases kp with
                  | true =>
                    have hzy : z = y := by rw [HzT.out, hy]; rfl
                    subst hzy
                    clear hy HzT
                    go_wp2
                    all_goals go_ret
                    all_goals exact ⟨rfl, B⟩
                  | false =>
                    have hz0 : z = 0 := HzT.out
                    subst hz0
                    clear hy HzT
                    go_wp2
                    all_goals go_ret
                    all_goals exact ⟨rfl, B⟩
      · have hsd : decide ((200 : Int) < (tx.size : Int)) = true := by simp; omega
        clear hnd hkp hr
        go_enter Try.func7, Try.ntmps7
        go_wp2_with (first
          | (go_at_call 8; refine (awake_any _).mono ?_; rintro e w1 ⟨rfl, bb⟩; have B := bb; clear bb)
          | (go_at_call 14; refine (pof_yes n FA SA EA false kp _ h0 ho Hr.out).mono ?_; rintro e w2 ⟨rfl, bb⟩; have P := Nz.made (w := w) (W := w2) (b_then B bb) #[.string FA, .string SA, .bool false, .string EA, .bool kp] tx; obtain ⟨c0, c1, c2, c3, c4, c8, c9, c10, c11⟩ := P.all; clear B bb))
        all_goals go_ret
        all_goals exact ⟨rfl, P.bel⟩
end Go.Proofs.Ytpfcfadbilaleaa
/-
  WALKS: the law PieceStar (layer 11).
-/
namespace Go.Proofs.Ytpfcfadbilaleaa
open Go.RowKit
open Go.Proofs.Ytpfcfadbilaleaau (prefL validB)
structure Yz (w W : World) (b rb sb : Nat) (F S E : ByteArray) (nd kp : Bool) (nm : ByteArray) (m : Int) (st : Bool) (k : Int) (X : ByteArray) (sl sp : Value) : Prop where
  pz : Pz w W b nm m st k X sl sp
  rule : Bx W rb #[.string F, .string S, .bool nd, .string E, .bool kp] 45
  p1 : Bx W sb #[.string nm, .int .i64 0, .bool false] 23
  p2 : Bx W (sb + 1) #[.string nm, .int .i64 0, .bool true] 23
  p3 : Bx W (sb + 1 + 1) #[.string nm, .int .i64 9999, .bool false] 23
section
variable {w W W' : World} {b rb sb : Nat} {F S E : ByteArray} {nd kp : Bool} {nm : ByteArray} {m : Int} {st : Bool} {k : Int} {X : ByteArray} {sl sp : Value}
theorem Yz.made (P : Pz w W b nm m st k X sl sp) (R : Bx W rb #[.string F, .string S, .bool nd, .string E, .bool kp] 45) : Yz w (((W.alloc (.cells #[.string nm, .int .i64 0, .bool false] 23)).alloc (.cells #[.string nm, .int .i64 0, .bool true] 23)).alloc (.cells #[.string nm, .int .i64 9999, .bool false] 23)) b rb W.heap.size F S E nd kp nm m st k X sl sp :=
  ⟨((P.alloc _).alloc _).alloc _, ((R.later _).later _).later _, ((Bx.made W _ _).later _).later _,
    by have := (Bx.made (W.alloc (.cells #[.string nm, .int .i64 0, .bool false] 23)) #[.string nm, .int .i64 0, .bool true] 23).later (.cells #[.string nm, .int .i64 9999, .bool false] 23); simpa using this,
    by have := Bx.made ((W.alloc (.cells #[.string nm, .int .i64 0, .bool false] 23)).alloc (.cells #[.string nm, .int .i64 0, .bool true] 23)) #[.string nm, .int .i64 9999, .bool false] 23; simpa using this⟩
theorem Yz.next (h : Yz w W b rb sb F S E nd kp nm m st k X sl sp) (bb : Below W.heap.size W W') : Yz w W' b rb sb F S E nd kp nm m st k X sl sp := ⟨h.pz.next bb, h.rule.next bb, h.p1.next bb, h.p2.next bb, h.p3.next bb⟩
end
theorem may_forms {nm : ByteArray} {m : Int} {st : Bool} (h : mayX (spA nm m st) = true) : mayX (spA nm 0 false) = true ∧ mayX (spA nm 0 true) = true ∧ mayX (spA nm 9999 false) = true := by
  obtain ⟨hn, _⟩ := (may_iff _).1 h
  exact ⟨(may_iff _).2 ⟨hn, by simp [spA], by simp [spA], by simp [spA]⟩, (may_iff _).2 ⟨hn, by simp [spA], by simp [spA], by simp [spA]⟩, (may_iff _).2 ⟨hn, by simp [spA], by simp [spA], by simp [spA]⟩⟩
/-- of a text a star plays no part, nor does a long prefix -/
theorem one_same {n : Nat} {nm : ByteArray} {v : Vl} (ho : opZ n = true) (m1 : mayX (spA nm 0 false) = true) (m2 : mayX (spA nm 0 true) = true) (m3 : mayX (spA nm 9999 false) = true) (hd : definedV v = true) (hk : v.kind = 1) (hs : v.s.length ≤ 200) :
    oneP n (spA nm 0 true) v = oneP n (spA nm 0 false) v ∧ oneP n (spA nm 9999 false) v = oneP n (spA nm 0 false) v := by
  have e : ∀ x : Sp, mayX x = true → oneP n x v = if validV v = false then ([], false, 3) else (textP (rlN n) x v.s, true, 0) := fun x hx => by
    unfold oneP
    rw [if_neg (by simp [ho, hx]), if_neg (by simp [hd]), if_neg (by simp [hk])]
    unfold tellP
    rw [if_pos hk]
  rw [e _ m1, e _ m2, e _ m3]
  cases hv : validV v with
  | false => exact ⟨rfl, rfl⟩
  | true =>
    have hb : validB v.s = true := by
      unfold validV at hv
      rw [text_kind hk, List.all_cons, List.all_nil, Bool.and_true] at hv
      exact hv
    rw [if_neg (by simp), if_neg (by simp), if_neg (by simp)]
    refine ⟨by rw [text_star (rlN n) (spA nm 0 true) (spA nm 0 false) v.s rfl rfl], ?_⟩
    rw [text_star (rlN n) (spA nm 9999 false) (spA nm 0 false) v.s rfl]
    show (if 0 < (9999 : Int) then prefL v.s 9999 else v.s) = (if 0 < (0 : Int) then prefL v.s 0 else v.s)
    rw [if_pos (by decide), if_neg (by decide)]
    exact pref_all hb (by show v.s.length ≤ 9999; omega)
/-- of what is no text a long prefix is told as such -/
theorem one_long {n : Nat} {nm : ByteArray} {v : Vl} (ho : opZ n = true) (m3 : mayX (spA nm 9999 false) = true) (hd : definedV v = true) (hk : v.kind ≠ 1) : oneP n (spA nm 9999 false) v = ([], false, 4) := by
  unfold oneP
  rw [if_neg (by simp [ho, m3]), if_neg (by simp [hd]), if_pos ⟨by show (0 : Int) < 9999; decide, hk⟩]
theorem one_flat {n : Nat} {nm : ByteArray} {st : Bool} {v : Vl} (ho : opZ n = true) (m1 : mayX (spA nm 0 st) = true) (hd : definedV v = true) (hk : v.kind ≠ 1) :
    oneP n (spA nm 0 st) v = if validV v = false then ([], false, 3) else (listP (rlN n) (spA nm 0 st) v, true, 0) := by
  unfold oneP
  rw [if_neg (by simp [ho, m1]), if_neg (by simp [hd]), if_neg (by intro h; exact absurd h.1 (by show ¬ (0 : Int) < 0; decide))]
  unfold tellP
  rw [if_neg hk]
set_option maxRecDepth 20000 in
set_option maxHeartbeats 16000000 in
theorem star_walk (n : Int) (nm : ByteArray) (m : Int) (st : Bool) (x : Value) (v : Vl) (w : World) (h0 : 0 ≤ n) (h1 : n ≤ 255) (H : VlAt w x v) (W : WideV v) (hn : nm.size ≤ 9223372036854775807) :
    Calls Try.prog 6 #[.int .u8 n, .agg #[.string nm, .int .i64 m, .bool st], x] w fun e w' => e = .returned (.bool true) ∧ Below w.heap.size w w' := by
  have H0 := hide H
  obtain ⟨sl, sp, rfl, _, _⟩ := H
  obtain ⟨S, hS⟩ : ∃ S : ByteArray, (⟨v.s.toArray⟩ : ByteArray) = S := ⟨_, rfl⟩
  obtain ⟨k0, hk0⟩ : ∃ k, v.kind = k := ⟨_, rfl⟩
  rw [hS, hk0] at H0 ⊢
  have P := Pz.made (nm := nm) (m := m) (st := st) (k := k0) (S := S) (sl := sl) (sp := sp) w
  obtain ⟨c0, c1, c2, c3, c4, c5, c6⟩ := P.all
  clear hS hk0
  have T1 : Hid True := trivial
  have T2 : Hid True := trivial
  have T3 : Hid True := trivial
  cases ho : opZ n.toNat with
  | false =>
    cases hf : fewX nm v
    all_goals
      have Hf := hide hf
      clear hf
      go_enter Try.func6, Try.ntmps6
      go_wp2_with (first
        | (go_at_call 8; refine (awake_any _).mono ?_; rintro e w1 ⟨rfl, bb⟩; replace P := P.next bb; clear bb c0 c1 c2 c3 c4 c5 c6; obtain ⟨c0, c1, c2, c3, c4, c5, c6⟩ := P.all)
        | (go_at_call 18; refine (rule_no n _ h0 h1 ho).mono ?_; rintro e w2 ⟨rfl, bb⟩; replace P := (P.next bb).alloc (.cells #[.string ⟨#[]⟩, .string ⟨#[]⟩, .bool false, .string ⟨#[]⟩, .bool false] 45); clear bb c0 c1 c2 c3 c4 c5 c6; obtain ⟨c0, c1, c2, c3, c4, c5, c6⟩ := P.all)
        | (go_at_call 9; refine (lfew_is nm m st _ v _ _ (H0.out.later P.bel) W hn Hf.out).mono ?_; rintro e w3 ⟨rfl, bb⟩; replace P := P.next bb; clear bb c0 c1 c2 c3 c4 c5 c6; obtain ⟨c0, c1, c2, c3, c4, c5, c6⟩ := P.all))
      all_goals go_ret
      all_goals exact ⟨rfl, P.bel⟩
  | true =>
    obtain ⟨r, hr⟩ : ∃ r, rlN n.toNat = r := ⟨_, rfl⟩
    obtain ⟨FA, hFA⟩ : ∃ FA : ByteArray, (⟨r.first.toArray⟩ : ByteArray) = FA := ⟨_, rfl⟩
    obtain ⟨SA, hSA⟩ : ∃ SA : ByteArray, (⟨r.sep.toArray⟩ : ByteArray) = SA := ⟨_, rfl⟩
    obtain ⟨EA, hEA⟩ : ∃ EA : ByteArray, (⟨r.empty.toArray⟩ : ByteArray) = EA := ⟨_, rfl⟩
    obtain ⟨nd, hnd⟩ : ∃ b, r.named = b := ⟨_, rfl⟩
    obtain ⟨kp, hkp⟩ : ∃ b, r.keep = b := ⟨_, rfl⟩
    have hrv : rlV r = .agg #[.string FA, .string SA, .bool nd, .string EA, .bool kp] := by unfold rlV; rw [hFA, hSA, hEA, hnd, hkp]
    have hru : ∀ w', Calls Try.prog 18 #[.int .u8 n] w' fun e w'' => e = .returned (.tuple #[.agg #[.string FA, .string SA, .bool nd, .string EA, .bool kp], .bool true]) ∧ Below w'.heap.size w' w'' := fun w' => by have := rule_yes n w' h0 ho; rw [hr, hrv] at this; exact this
    have Hnd : Hid ((rlN n.toNat).named = nd) := by rw [hr]; exact hnd
    clear hr hFA hSA hEA hnd hkp hrv
    cases hf : fewX nm v with
    | false =>
      have Hf := hide hf
      clear hf
      go_enter Try.func6, Try.ntmps6
      go_wp2_with (first
        | (go_at_call 8; refine (awake_any _).mono ?_; rintro e w1 ⟨rfl, bb⟩; replace P := P.next bb; clear bb c0 c1 c2 c3 c4 c5 c6; obtain ⟨c0, c1, c2, c3, c4, c5, c6⟩ := P.all)
        | (go_at_call 18; refine (hru _).mono ?_; rintro e w2 ⟨rfl, bb⟩; replace P := (P.next bb).alloc (.cells #[.string FA, .string SA, .bool nd, .string EA, .bool kp] 45); have R := Bx.made w2 #[.string FA, .string SA, .bool nd, .string EA, .bool kp] 45; clear bb c0 c1 c2 c3 c4 c5 c6; obtain ⟨c0, c1, c2, c3, c4, c5, c6⟩ := P.all)
        | (go_at_call 9; refine (lfew_is nm m st _ v false _ (H0.out.later P.bel) W hn Hf.out).mono ?_; rintro e w3 ⟨rfl, bb⟩; replace P := P.next bb; replace R := R.next bb; clear bb c0 c1 c2 c3 c4 c5 c6; obtain ⟨c0, c1, c2, c3, c4, c5, c6⟩ := P.all))
      all_goals go_ret
      all_goals exact ⟨rfl, P.bel⟩
    | true =>
      obtain ⟨hnm, F⟩ := fewX_of hf
      have Hf := hide hf
      clear hf
      cases hm : mayX (spA nm m st) with
      | false =>
        have Hm := hide hm
        clear hm
        go_enter Try.func6, Try.ntmps6
        go_wp2_with (first
          | (go_at_call 8; refine (awake_any _).mono ?_; rintro e w1 ⟨rfl, bb⟩; replace P := P.next bb; clear bb c0 c1 c2 c3 c4 c5 c6; obtain ⟨c0, c1, c2, c3, c4, c5, c6⟩ := P.all)
          | (go_at_call 18; refine (hru _).mono ?_; rintro e w2 ⟨rfl, bb⟩; replace P := (P.next bb).alloc (.cells #[.string FA, .string SA, .bool nd, .string EA, .bool kp] 45); have R := Bx.made w2 #[.string FA, .string SA, .bool nd, .string EA, .bool kp] 45; clear bb c0 c1 c2 c3 c4 c5 c6; obtain ⟨c0, c1, c2, c3, c4, c5, c6⟩ := P.all)
          | (go_at_call 9; refine (lfew_is nm m st _ v true _ (H0.out.later P.bel) W hn Hf.out).mono ?_; rintro e w3 ⟨rfl, bb⟩; replace P := P.next bb; replace R := R.next bb; clear bb c0 c1 c2 c3 c4 c5 c6; obtain ⟨c0, c1, c2, c3, c4, c5, c6⟩ := P.all)
          | (go_at_call 15; refine (rxmay_is nm m st false _ Hm.out).mono ?_; rintro e w4 ⟨rfl, bb⟩; replace P := P.next bb; clear bb c0 c1 c2 c3 c4 c5 c6; obtain ⟨c0, c1, c2, c3, c4, c5, c6⟩ := P.all))
        all_goals go_ret
        all_goals exact ⟨rfl, P.bel⟩
      | true =>
        have Hm := hide hm
        obtain ⟨m1, m2, m3⟩ := may_forms hm
        have hkc := kinds_of v
        have hcl := canon_lens v
        obtain ⟨c, hc⟩ : ∃ c, canonV v = c := ⟨_, rfl⟩
        rw [hc] at hkc hcl
        have Hc := hide hc
        obtain ⟨X, hX⟩ : ∃ X : ByteArray, (⟨c.s.toArray⟩ : ByteArray) = X := ⟨_, rfl⟩
        have HX := hide hX
        clear hm hX
        rcases hkc with ⟨hd, hk⟩ | ⟨hd, hkk, hks⟩
        · have O1 : Hid (oneP n.toNat (spA nm 0 false) v = ((⟨#[]⟩ : ByteArray).data.toList, false, 0)) := one_none ho m1 hd
          have O2 : Hid (oneP n.toNat (spA nm 0 true) v = ((⟨#[]⟩ : ByteArray).data.toList, false, 0)) := one_none ho m2 hd
          have O3 : Hid (oneP n.toNat (spA nm 9999 false) v = ((⟨#[]⟩ : ByteArray).data.toList, false, 0)) := one_none ho m3 hd
          have Hk := hide hk
          clear hd hk hc hcl m1 m2 m3
          go_enter Try.func6, Try.ntmps6
          go_wp2_with (first
            | (go_at_call 8; refine (awake_any _).mono ?_; rintro e w1 ⟨rfl, bb⟩; replace P := P.next bb; clear bb c0 c1 c2 c3 c4 c5 c6; obtain ⟨c0, c1, c2, c3, c4, c5, c6⟩ := P.all)
            | (go_at_call 18; refine (hru _).mono ?_; rintro e w2 ⟨rfl, bb⟩; replace P := (P.next bb).alloc (.cells #[.string FA, .string SA, .bool nd, .string EA, .bool kp] 45); have R := Bx.made w2 #[.string FA, .string SA, .bool nd, .string EA, .bool kp] 45; clear bb c0 c1 c2 c3 c4 c5 c6; obtain ⟨c0, c1, c2, c3, c4, c5, c6⟩ := P.all)
            | (go_at_call 9; refine (lfew_is nm m st _ v true _ (H0.out.later P.bel) W hn Hf.out).mono ?_; rintro e w3 ⟨rfl, bb⟩; replace P := P.next bb; replace R := R.next bb; clear bb c0 c1 c2 c3 c4 c5 c6; obtain ⟨c0, c1, c2, c3, c4, c5, c6⟩ := P.all)
            | (go_at_call 15; refine (rxmay_is nm m st true _ Hm.out).mono ?_; rintro e w4 ⟨rfl, bb⟩; have Y := Yz.made (P.next bb) (R.next bb); have k0 := ((P.next bb).spec).cell 0 _ rfl; have k1 := ((P.next bb).alloc (.cells #[.string nm, .int .i64 0, .bool false] 23)).spec.cell 0 _ rfl; have k2 := (((P.next bb).alloc (.cells #[.string nm, .int .i64 0, .bool false] 23)).alloc (.cells #[.string nm, .int .i64 0, .bool true] 23)).spec.cell 0 _ rfl; clear bb P R c0 c1 c2 c3 c4 c5 c6; obtain ⟨d0, d1, d2⟩ := cells3 Y.p1; obtain ⟨e0, e1, e2⟩ := cells3 Y.p2; obtain ⟨f0, f1, f2⟩ := cells3 Y.p3; obtain ⟨c0, c1, c2, c3, c4, c5, c6⟩ := Y.pz.all)
            | (have z := T1; go_at_call 10; refine (pone_is n nm 0 false _ v ⟨#[]⟩ false 0 _ h0 h1 (H0.out.later Y.pz.bel) F hnm O1.out).mono ?_; rintro e w5 ⟨rfl, bb⟩; replace Y := Y.next bb; clear d0 d1 d2 e0 e1 e2 f0 f1 f2 c0 c1 c2 c3 c4 c5 c6; obtain ⟨d0, d1, d2⟩ := cells3 Y.p1; obtain ⟨e0, e1, e2⟩ := cells3 Y.p2; obtain ⟨f0, f1, f2⟩ := cells3 Y.p3; obtain ⟨c0, c1, c2, c3, c4, c5, c6⟩ := Y.pz.all; clear bb T1 z)
            | (have z := T2; go_at_call 10; refine (pone_is n nm 0 true _ v ⟨#[]⟩ false 0 _ h0 h1 (H0.out.later Y.pz.bel) F hnm O2.out).mono ?_; rintro e w5 ⟨rfl, bb⟩; replace Y := Y.next bb; clear d0 d1 d2 e0 e1 e2 f0 f1 f2 c0 c1 c2 c3 c4 c5 c6; obtain ⟨d0, d1, d2⟩ := cells3 Y.p1; obtain ⟨e0, e1, e2⟩ := cells3 Y.p2; obtain ⟨f0, f1, f2⟩ := cells3 Y.p3; obtain ⟨c0, c1, c2, c3, c4, c5, c6⟩ := Y.pz.all; clear bb T2 z)
            | (have z := T3; go_at_call 10; refine (pone_is n nm 9999 false _ v ⟨#[]⟩ false 0 _ h0 h1 (H0.out.later Y.pz.bel) F hnm O3.out).mono ?_; rintro e w5 ⟨rfl, bb⟩; replace Y := Y.next bb; clear d0 d1 d2 e0 e1 e2 f0 f1 f2 c0 c1 c2 c3 c4 c5 c6; obtain ⟨d0, d1, d2⟩ := cells3 Y.p1; obtain ⟨e0, e1, e2⟩ := cells3 Y.p2; obtain ⟨f0, f1, f2⟩ := cells3 Y.p3; obtain ⟨c0, c1, c2, c3, c4, c5, c6⟩ := Y.pz.all; clear bb T3 z)
            | (go_at_call 19; refine (rcanon_o _ v c _ X _ (H0.out.later Y.pz.bel) (by have := F.l; omega) (by have := F.p; omega) Hc.out Hk.out HX.out).mono ?_; rintro e w6 ⟨la, lc, pa, pc, rfl, Rl, Rp, bb, _, _⟩; replace Y := (Y.next bb).next (b_alloc w6 (.cells #[.int .i64 0, .string X, .slice la c.l.length lc, .slice pa c.p.length pc] 27)); have Q := Bx.made w6 #[.int .i64 0, .string X, .slice la c.l.length lc, .slice pa c.p.length pc] 27; obtain ⟨q0, q1, q2, q3⟩ := cells4 Q; obtain ⟨r0, r1, r2, r3, r4⟩ := cells5 Y.rule; clear bb; clear d0 d1 d2 e0 e1 e2 f0 f1 f2 c0 c1 c2 c3 c4 c5 c6))
          all_goals go_ret
          all_goals exact ⟨rfl, Y.pz.bel⟩
        · rcases hks with h | hks
          · obtain ⟨s2, s3⟩ := one_same (n := n.toNat) ho m1 m2 m3 hd h (F.ts _ (by rw [text_kind h]; exact List.mem_cons_self ..))
            obtain ⟨o, hoo⟩ : ∃ o, oneP n.toNat (spA nm 0 false) v = o := ⟨_, rfl⟩
            obtain ⟨t, d, er⟩ := o
            obtain ⟨T, hT⟩ : ∃ T : ByteArray, T.data.toList = t := ⟨⟨t.toArray⟩, rfl⟩
            subst hT
            have O1 := hide hoo
            have O2 := hide (s2.trans hoo)
            have O3 := hide (s3.trans hoo)
            have et : (T.toList == T.toList) = true := by simp
            have Hk := hide (hkk.trans h)
            clear hd hkk h hoo s2 s3 m1 m2 m3 hc hcl
            go_enter Try.func6, Try.ntmps6
            go_wp2_with (first
              | (go_at_call 8; refine (awake_any _).mono ?_; rintro e w1 ⟨rfl, bb⟩; replace P := P.next bb; clear bb c0 c1 c2 c3 c4 c5 c6; obtain ⟨c0, c1, c2, c3, c4, c5, c6⟩ := P.all)
              | (go_at_call 18; refine (hru _).mono ?_; rintro e w2 ⟨rfl, bb⟩; replace P := (P.next bb).alloc (.cells #[.string FA, .string SA, .bool nd, .string EA, .bool kp] 45); have R := Bx.made w2 #[.string FA, .string SA, .bool nd, .string EA, .bool kp] 45; clear bb c0 c1 c2 c3 c4 c5 c6; obtain ⟨c0, c1, c2, c3, c4, c5, c6⟩ := P.all)
              | (go_at_call 9; refine (lfew_is nm m st _ v true _ (H0.out.later P.bel) W hn Hf.out).mono ?_; rintro e w3 ⟨rfl, bb⟩; replace P := P.next bb; replace R := R.next bb; clear bb c0 c1 c2 c3 c4 c5 c6; obtain ⟨c0, c1, c2, c3, c4, c5, c6⟩ := P.all)
              | (go_at_call 15; refine (rxmay_is nm m st true _ Hm.out).mono ?_; rintro e w4 ⟨rfl, bb⟩; have Y := Yz.made (P.next bb) (R.next bb); have k0 := ((P.next bb).spec).cell 0 _ rfl; have k1 := ((P.next bb).alloc (.cells #[.string nm, .int .i64 0, .bool false] 23)).spec.cell 0 _ rfl; have k2 := (((P.next bb).alloc (.cells #[.string nm, .int .i64 0, .bool false] 23)).alloc (.cells #[.string nm, .int .i64 0, .bool true] 23)).spec.cell 0 _ rfl; clear bb P R c0 c1 c2 c3 c4 c5 c6; obtain ⟨d0, d1, d2⟩ := cells3 Y.p1; obtain ⟨e0, e1, e2⟩ := cells3 Y.p2; obtain ⟨f0, f1, f2⟩ := cells3 Y.p3; obtain ⟨c0, c1, c2, c3, c4, c5, c6⟩ := Y.pz.all)
              | (have z := T1; go_at_call 10; refine (pone_is n nm 0 false _ v T d er _ h0 h1 (H0.out.later Y.pz.bel) F hnm O1.out).mono ?_; rintro e w5 ⟨rfl, bb⟩; replace Y := Y.next bb; clear d0 d1 d2 e0 e1 e2 f0 f1 f2 c0 c1 c2 c3 c4 c5 c6; obtain ⟨d0, d1, d2⟩ := cells3 Y.p1; obtain ⟨e0, e1, e2⟩ := cells3 Y.p2; obtain ⟨f0, f1, f2⟩ := cells3 Y.p3; obtain ⟨c0, c1, c2, c3, c4, c5, c6⟩ := Y.pz.all; clear bb T1 z)
              | (have z := T2; go_at_call 10; refine (pone_is n nm 0 true _ v T d er _ h0 h1 (H0.out.later Y.pz.bel) F hnm O2.out).mono ?_; rintro e w5 ⟨rfl, bb⟩; replace Y := Y.next bb; clear d0 d1 d2 e0 e1 e2 f0 f1 f2 c0 c1 c2 c3 c4 c5 c6; obtain ⟨d0, d1, d2⟩ := cells3 Y.p1; obtain ⟨e0, e1, e2⟩ := cells3 Y.p2; obtain ⟨f0, f1, f2⟩ := cells3 Y.p3; obtain ⟨c0, c1, c2, c3, c4, c5, c6⟩ := Y.pz.all; clear bb T2 z)
              | (have z := T3; go_at_call 10; refine (pone_is n nm 9999 false _ v T d er _ h0 h1 (H0.out.later Y.pz.bel) F hnm O3.out).mono ?_; rintro e w5 ⟨rfl, bb⟩; replace Y := Y.next bb; clear d0 d1 d2 e0 e1 e2 f0 f1 f2 c0 c1 c2 c3 c4 c5 c6; obtain ⟨d0, d1, d2⟩ := cells3 Y.p1; obtain ⟨e0, e1, e2⟩ := cells3 Y.p2; obtain ⟨f0, f1, f2⟩ := cells3 Y.p3; obtain ⟨c0, c1, c2, c3, c4, c5, c6⟩ := Y.pz.all; clear bb T3 z)
              | (go_at_call 19; refine (rcanon_o _ v c _ X _ (H0.out.later Y.pz.bel) (by have := F.l; omega) (by have := F.p; omega) Hc.out Hk.out HX.out).mono ?_; rintro e w6 ⟨la, lc, pa, pc, rfl, Rl, Rp, bb, _, _⟩; replace Y := (Y.next bb).next (b_alloc w6 (.cells #[.int .i64 1, .string X, .slice la c.l.length lc, .slice pa c.p.length pc] 27)); have Q := Bx.made w6 #[.int .i64 1, .string X, .slice la c.l.length lc, .slice pa c.p.length pc] 27; obtain ⟨q0, q1, q2, q3⟩ := cells4 Q; obtain ⟨r0, r1, r2, r3, r4⟩ := cells5 Y.rule; clear bb; clear d0 d1 d2 e0 e1 e2 f0 f1 f2 c0 c1 c2 c3 c4 c5 c6))
            all_goals go_ret
            all_goals exact ⟨rfl, Y.pz.bel⟩
          · have hne : v.kind ≠ 1 := by omega
            have O3 : Hid (oneP n.toNat (spA nm 9999 false) v = ((⟨#[]⟩ : ByteArray).data.toList, false, 4)) := one_long ho m3 hd hne
            have g1 := one_flat (n := n.toNat) ho m1 hd hne
            have g2 := one_flat (n := n.toNat) ho m2 hd hne
            have ls := list_star (r := rlN n.toNat) (n := nm.data.toList) (v := v)
            have hlc : v.kind = 2 → v.l = c.l := fun h2 => by
              have a := texts_canon v
              rw [hc] at a
              unfold textsV at a
              rw [if_neg (by omega), if_pos (by omega), if_neg (by omega), if_pos h2] at a
              exact a.symm
            cases hv : validV v with
            | false =>
              rw [if_pos hv] at g1 g2
              have O1 : Hid (oneP n.toNat (spA nm 0 false) v = ((⟨#[]⟩ : ByteArray).data.toList, false, 3)) := g1
              have O2 : Hid (oneP n.toNat (spA nm 0 true) v = ((⟨#[]⟩ : ByteArray).data.toList, false, 3)) := g2
              have et : ((⟨#[]⟩ : ByteArray).toList == (⟨#[]⟩ : ByteArray).toList) = true := by decide +kernel
              rcases hks with h | h
              all_goals
                have Hk := hide (hkk.trans h)
                clear hd hkk h hne g1 g2 ls hlc hv m1 m2 m3 hc hcl
                cases nd
              · obtain ⟨ln, hln⟩ : ∃ ln, c.l.length = ln := ⟨_, rfl⟩
                by_cases hl1 : c.l.length = 1
                · have hi : ((c.l.length : Int) == 1) = true := by simp [hl1]
                  clear hl1 hln
                  go_enter Try.func6, Try.ntmps6
                  go_wp2_with (first
                    | (go_at_call 8; refine (awake_any _).mono ?_; rintro e w1 ⟨rfl, bb⟩; replace P := P.next bb; clear bb c0 c1 c2 c3 c4 c5 c6; obtain ⟨c0, c1, c2, c3, c4, c5, c6⟩ := P.all)
                    | (go_at_call 18; refine (hru _).mono ?_; rintro e w2 ⟨rfl, bb⟩; replace P := (P.next bb).alloc (.cells #[.string FA, .string SA, .bool false, .string EA, .bool kp] 45); have R := Bx.made w2 #[.string FA, .string SA, .bool false, .string EA, .bool kp] 45; clear bb c0 c1 c2 c3 c4 c5 c6; obtain ⟨c0, c1, c2, c3, c4, c5, c6⟩ := P.all)
                    | (go_at_call 9; refine (lfew_is nm m st _ v true _ (H0.out.later P.bel) W hn Hf.out).mono ?_; rintro e w3 ⟨rfl, bb⟩; replace P := P.next bb; replace R := R.next bb; clear bb c0 c1 c2 c3 c4 c5 c6; obtain ⟨c0, c1, c2, c3, c4, c5, c6⟩ := P.all)
                    | (go_at_call 15; refine (rxmay_is nm m st true _ Hm.out).mono ?_; rintro e w4 ⟨rfl, bb⟩; have Y := Yz.made (P.next bb) (R.next bb); have k0 := ((P.next bb).spec).cell 0 _ rfl; have k1 := ((P.next bb).alloc (.cells #[.string nm, .int .i64 0, .bool false] 23)).spec.cell 0 _ rfl; have k2 := (((P.next bb).alloc (.cells #[.string nm, .int .i64 0, .bool false] 23)).alloc (.cells #[.string nm, .int .i64 0, .bool true] 23)).spec.cell 0 _ rfl; clear bb P R c0 c1 c2 c3 c4 c5 c6; obtain ⟨d0, d1, d2⟩ := cells3 Y.p1; obtain ⟨e0, e1, e2⟩ := cells3 Y.p2; obtain ⟨f0, f1, f2⟩ := cells3 Y.p3; obtain ⟨c0, c1, c2, c3, c4, c5, c6⟩ := Y.pz.all)
                    | (have z := T1; go_at_call 10; refine (pone_is n nm 0 false _ v ⟨#[]⟩ false 3 _ h0 h1 (H0.out.later Y.pz.bel) F hnm O1.out).mono ?_; rintro e w5 ⟨rfl, bb⟩; replace Y := Y.next bb; clear d0 d1 d2 e0 e1 e2 f0 f1 f2 c0 c1 c2 c3 c4 c5 c6; obtain ⟨d0, d1, d2⟩ := cells3 Y.p1; obtain ⟨e0, e1, e2⟩ := cells3 Y.p2; obtain ⟨f0, f1, f2⟩ := cells3 Y.p3; obtain ⟨c0, c1, c2, c3, c4, c5, c6⟩ := Y.pz.all; clear bb T1 z)
                    | (have z := T2; go_at_call 10; refine (pone_is n nm 0 true _ v ⟨#[]⟩ false 3 _ h0 h1 (H0.out.later Y.pz.bel) F hnm O2.out).mono ?_; rintro e w5 ⟨rfl, bb⟩; replace Y := Y.next bb; clear d0 d1 d2 e0 e1 e2 f0 f1 f2 c0 c1 c2 c3 c4 c5 c6; obtain ⟨d0, d1, d2⟩ := cells3 Y.p1; obtain ⟨e0, e1, e2⟩ := cells3 Y.p2; obtain ⟨f0, f1, f2⟩ := cells3 Y.p3; obtain ⟨c0, c1, c2, c3, c4, c5, c6⟩ := Y.pz.all; clear bb T2 z)
                    | (have z := T3; go_at_call 10; refine (pone_is n nm 9999 false _ v ⟨#[]⟩ false 4 _ h0 h1 (H0.out.later Y.pz.bel) F hnm O3.out).mono ?_; rintro e w5 ⟨rfl, bb⟩; replace Y := Y.next bb; clear d0 d1 d2 e0 e1 e2 f0 f1 f2 c0 c1 c2 c3 c4 c5 c6; obtain ⟨d0, d1, d2⟩ := cells3 Y.p1; obtain ⟨e0, e1, e2⟩ := cells3 Y.p2; obtain ⟨f0, f1, f2⟩ := cells3 Y.p3; obtain ⟨c0, c1, c2, c3, c4, c5, c6⟩ := Y.pz.all; clear bb T3 z)
                    | (go_at_call 19; refine (rcanon_o _ v c _ X _ (H0.out.later Y.pz.bel) (by have := F.l; omega) (by have := F.p; omega) Hc.out Hk.out HX.out).mono ?_; rintro e w6 ⟨la, lc, pa, pc, rfl, Rl, Rp, bb, _, _⟩; replace Y := (Y.next bb).next (b_alloc w6 (.cells #[.int .i64 2, .string X, .slice la c.l.length lc, .slice pa c.p.length pc] 27)); have Q := Bx.made w6 #[.int .i64 2, .string X, .slice la c.l.length lc, .slice pa c.p.length pc] 27; obtain ⟨q0, q1, q2, q3⟩ := cells4 Q; obtain ⟨r0, r1, r2, r3, r4⟩ := cells5 Y.rule; clear bb; clear d0 d1 d2 e0 e1 e2 f0 f1 f2 c0 c1 c2 c3 c4 c5 c6))
                  all_goals go_ret
                  all_goals exact ⟨rfl, Y.pz.bel⟩
                · have hi : ((c.l.length : Int) == 1) = false := by simp; omega
                  clear hl1 hln
                  go_enter Try.func6, Try.ntmps6
                  go_wp2_with (first
                    | (go_at_call 8; refine (awake_any _).mono ?_; rintro e w1 ⟨rfl, bb⟩; replace P := P.next bb; clear bb c0 c1 c2 c3 c4 c5 c6; obtain ⟨c0, c1, c2, c3, c4, c5, c6⟩ := P.all)
                    | (go_at_call 18; refine (hru _).mono ?_; rintro e w2 ⟨rfl, bb⟩; replace P := (P.next bb).alloc (.cells #[.string FA, .string SA, .bool false, .string EA, .bool kp] 45); have R := Bx.made w2 #[.string FA, .string SA, .bool false, .string EA, .bool kp] 45; clear bb c0 c1 c2 c3 c4 c5 c6; obtain ⟨c0, c1, c2, c3, c4, c5, c6⟩ := P.all)
                    | (go_at_call 9; refine (lfew_is nm m st _ v true _ (H0.out.later P.bel) W hn Hf.out).mono ?_; rintro e w3 ⟨rfl, bb⟩; replace P := P.next bb; replace R := R.next bb; clear bb c0 c1 c2 c3 c4 c5 c6; obtain ⟨c0, c1, c2, c3, c4, c5, c6⟩ := P.all)
                    | (go_at_call 15; refine (rxmay_is nm m st true _ Hm.out).mono ?_; rintro e w4 ⟨rfl, bb⟩; have Y := Yz.made (P.next bb) (R.next bb); have k0 := ((P.next bb).spec).cell 0 _ rfl; have k1 := ((P.next bb).alloc (.cells #[.string nm, .int .i64 0, .bool false] 23)).spec.cell 0 _ rfl; have k2 := (((P.next bb).alloc (.cells #[.string nm, .int .i64 0, .bool false] 23)).alloc (.cells #[.string nm, .int .i64 0, .bool true] 23)).spec.cell 0 _ rfl; clear bb P R c0 c1 c2 c3 c4 c5 c6; obtain ⟨d0, d1, d2⟩ := cells3 Y.p1; obtain ⟨e0, e1, e2⟩ := cells3 Y.p2; obtain ⟨f0, f1, f2⟩ := cells3 Y.p3; obtain ⟨c0, c1, c2, c3, c4, c5, c6⟩ := Y.pz.all)
                    | (have z := T1; go_at_call 10; refine (pone_is n nm 0 false _ v ⟨#[]⟩ false 3 _ h0 h1 (H0.out.later Y.pz.bel) F hnm O1.out).mono ?_; rintro e w5 ⟨rfl, bb⟩; replace Y := Y.next bb; clear d0 d1 d2 e0 e1 e2 f0 f1 f2 c0 c1 c2 c3 c4 c5 c6; obtain ⟨d0, d1, d2⟩ := cells3 Y.p1; obtain ⟨e0, e1, e2⟩ := cells3 Y.p2; obtain ⟨f0, f1, f2⟩ := cells3 Y.p3; obtain ⟨c0, c1, c2, c3, c4, c5, c6⟩ := Y.pz.all; clear bb T1 z)
                    | (have z := T2; go_at_call 10; refine (pone_is n nm 0 true _ v ⟨#[]⟩ false 3 _ h0 h1 (H0.out.later Y.pz.bel) F hnm O2.out).mono ?_; rintro e w5 ⟨rfl, bb⟩; replace Y := Y.next bb; clear d0 d1 d2 e0 e1 e2 f0 f1 f2 c0 c1 c2 c3 c4 c5 c6; obtain ⟨d0, d1, d2⟩ := cells3 Y.p1; obtain ⟨e0, e1, e2⟩ := cells3 Y.p2; obtain ⟨f0, f1, f2⟩ := cells3 Y.p3; obtain ⟨c0, c1, c2, c3, c4, c5, c6⟩ := Y.pz.all; clear bb T2 z)
                    | (have z := T3; go_at_call 10; refine (pone_is n nm 9999 false _ v ⟨#[]⟩ false 4 _ h0 h1 (H0.out.later Y.pz.bel) F hnm O3.out).mono ?_; rintro e w5 ⟨rfl, bb⟩; replace Y := Y.next bb; clear d0 d1 d2 e0 e1 e2 f0 f1 f2 c0 c1 c2 c3 c4 c5 c6; obtain ⟨d0, d1, d2⟩ := cells3 Y.p1; obtain ⟨e0, e1, e2⟩ := cells3 Y.p2; obtain ⟨f0, f1, f2⟩ := cells3 Y.p3; obtain ⟨c0, c1, c2, c3, c4, c5, c6⟩ := Y.pz.all; clear bb T3 z)
                    | (go_at_call 19; refine (rcanon_o _ v c _ X _ (H0.out.later Y.pz.bel) (by have := F.l; omega) (by have := F.p; omega) Hc.out Hk.out HX.out).mono ?_; rintro e w6 ⟨la, lc, pa, pc, rfl, Rl, Rp, bb, _, _⟩; replace Y := (Y.next bb).next (b_alloc w6 (.cells #[.int .i64 2, .string X, .slice la c.l.length lc, .slice pa c.p.length pc] 27)); have Q := Bx.made w6 #[.int .i64 2, .string X, .slice la c.l.length lc, .slice pa c.p.length pc] 27; obtain ⟨q0, q1, q2, q3⟩ := cells4 Q; obtain ⟨r0, r1, r2, r3, r4⟩ := cells5 Y.rule; clear bb; clear d0 d1 d2 e0 e1 e2 f0 f1 f2 c0 c1 c2 c3 c4 c5 c6))
                  all_goals go_ret
                  all_goals exact ⟨rfl, Y.pz.bel⟩
              · obtain ⟨ln, hln⟩ : ∃ ln, c.l.length = ln := ⟨_, rfl⟩
                by_cases hl1 : c.l.length = 1
                · have hi : ((c.l.length : Int) == 1) = true := by simp [hl1]
                  clear hl1 hln
                  go_enter Try.func6, Try.ntmps6
                  go_wp2_with (first
                    | (go_at_call 8; refine (awake_any _).mono ?_; rintro e w1 ⟨rfl, bb⟩; replace P := P.next bb; clear bb c0 c1 c2 c3 c4 c5 c6; obtain ⟨c0, c1, c2, c3, c4, c5, c6⟩ := P.all)
                    | (go_at_call 18; refine (hru _).mono ?_; rintro e w2 ⟨rfl, bb⟩; replace P := (P.next bb).alloc (.cells #[.string FA, .string SA, .bool true, .string EA, .bool kp] 45); have R := Bx.made w2 #[.string FA, .string SA, .bool true, .string EA, .bool kp] 45; clear bb c0 c1 c2 c3 c4 c5 c6; obtain ⟨c0, c1, c2, c3, c4, c5, c6⟩ := P.all)
                    | (go_at_call 9; refine (lfew_is nm m st _ v true _ (H0.out.later P.bel) W hn Hf.out).mono ?_; rintro e w3 ⟨rfl, bb⟩; replace P := P.next bb; replace R := R.next bb; clear bb c0 c1 c2 c3 c4 c5 c6; obtain ⟨c0, c1, c2, c3, c4, c5, c6⟩ := P.all)
                    | (go_at_call 15; refine (rxmay_is nm m st true _ Hm.out).mono ?_; rintro e w4 ⟨rfl, bb⟩; have Y := Yz.made (P.next bb) (R.next bb); have k0 := ((P.next bb).spec).cell 0 _ rfl; have k1 := ((P.next bb).alloc (.cells #[.string nm, .int .i64 0, .bool false] 23)).spec.cell 0 _ rfl; have k2 := (((P.next bb).alloc (.cells #[.string nm, .int .i64 0, .bool false] 23)).alloc (.cells #[.string nm, .int .i64 0, .bool true] 23)).spec.cell 0 _ rfl; clear bb P R c0 c1 c2 c3 c4 c5 c6; obtain ⟨d0, d1, d2⟩ := cells3 Y.p1; obtain ⟨e0, e1, e2⟩ := cells3 Y.p2; obtain ⟨f0, f1, f2⟩ := cells3 Y.p3; obtain ⟨c0, c1, c2, c3, c4, c5, c6⟩ := Y.pz.all)
                    | (have z := T1; go_at_call 10; refine (pone_is n nm 0 false _ v ⟨#[]⟩ false 3 _ h0 h1 (H0.out.later Y.pz.bel) F hnm O1.out).mono ?_; rintro e w5 ⟨rfl, bb⟩; replace Y := Y.next bb; clear d0 d1 d2 e0 e1 e2 f0 f1 f2 c0 c1 c2 c3 c4 c5 c6; obtain ⟨d0, d1, d2⟩ := cells3 Y.p1; obtain ⟨e0, e1, e2⟩ := cells3 Y.p2; obtain ⟨f0, f1, f2⟩ := cells3 Y.p3; obtain ⟨c0, c1, c2, c3, c4, c5, c6⟩ := Y.pz.all; clear bb T1 z)
                    | (have z := T2; go_at_call 10; refine (pone_is n nm 0 true _ v ⟨#[]⟩ false 3 _ h0 h1 (H0.out.later Y.pz.bel) F hnm O2.out).mono ?_; rintro e w5 ⟨rfl, bb⟩; replace Y := Y.next bb; clear d0 d1 d2 e0 e1 e2 f0 f1 f2 c0 c1 c2 c3 c4 c5 c6; obtain ⟨d0, d1, d2⟩ := cells3 Y.p1; obtain ⟨e0, e1, e2⟩ := cells3 Y.p2; obtain ⟨f0, f1, f2⟩ := cells3 Y.p3; obtain ⟨c0, c1, c2, c3, c4, c5, c6⟩ := Y.pz.all; clear bb T2 z)
                    | (have z := T3; go_at_call 10; refine (pone_is n nm 9999 false _ v ⟨#[]⟩ false 4 _ h0 h1 (H0.out.later Y.pz.bel) F hnm O3.out).mono ?_; rintro e w5 ⟨rfl, bb⟩; replace Y := Y.next bb; clear d0 d1 d2 e0 e1 e2 f0 f1 f2 c0 c1 c2 c3 c4 c5 c6; obtain ⟨d0, d1, d2⟩ := cells3 Y.p1; obtain ⟨e0, e1, e2⟩ := cells3 Y.p2; obtain ⟨f0, f1, f2⟩ := cells3 Y.p3; obtain ⟨c0, c1, c2, c3, c4, c5, c6⟩ := Y.pz.all; clear bb T3 z)
                    | (go_at_call 19; refine (rcanon_o _ v c _ X _ (H0.out.later Y.pz.bel) (by have := F.l; omega) (by have := F.p; omega) Hc.out Hk.out HX.out).mono ?_; rintro e w6 ⟨la, lc, pa, pc, rfl, Rl, Rp, bb, _, _⟩; replace Y := (Y.next bb).next (b_alloc w6 (.cells #[.int .i64 2, .string X, .slice la c.l.length lc, .slice pa c.p.length pc] 27)); have Q := Bx.made w6 #[.int .i64 2, .string X, .slice la c.l.length lc, .slice pa c.p.length pc] 27; obtain ⟨q0, q1, q2, q3⟩ := cells4 Q; obtain ⟨r0, r1, r2, r3, r4⟩ := cells5 Y.rule; clear bb; clear d0 d1 d2 e0 e1 e2 f0 f1 f2 c0 c1 c2 c3 c4 c5 c6))
                  all_goals go_ret
                  all_goals exact ⟨rfl, Y.pz.bel⟩
                · have hi : ((c.l.length : Int) == 1) = false := by simp; omega
                  clear hl1 hln
                  go_enter Try.func6, Try.ntmps6
                  go_wp2_with (first
                    | (go_at_call 8; refine (awake_any _).mono ?_; rintro e w1 ⟨rfl, bb⟩; replace P := P.next bb; clear bb c0 c1 c2 c3 c4 c5 c6; obtain ⟨c0, c1, c2, c3, c4, c5, c6⟩ := P.all)
                    | (go_at_call 18; refine (hru _).mono ?_; rintro e w2 ⟨rfl, bb⟩; replace P := (P.next bb).alloc (.cells #[.string FA, .string SA, .bool true, .string EA, .bool kp] 45); have R := Bx.made w2 #[.string FA, .string SA, .bool true, .string EA, .bool kp] 45; clear bb c0 c1 c2 c3 c4 c5 c6; obtain ⟨c0, c1, c2, c3, c4, c5, c6⟩ := P.all)
                    | (go_at_call 9; refine (lfew_is nm m st _ v true _ (H0.out.later P.bel) W hn Hf.out).mono ?_; rintro e w3 ⟨rfl, bb⟩; replace P := P.next bb; replace R := R.next bb; clear bb c0 c1 c2 c3 c4 c5 c6; obtain ⟨c0, c1, c2, c3, c4, c5, c6⟩ := P.all)
                    | (go_at_call 15; refine (rxmay_is nm m st true _ Hm.out).mono ?_; rintro e w4 ⟨rfl, bb⟩; have Y := Yz.made (P.next bb) (R.next bb); have k0 := ((P.next bb).spec).cell 0 _ rfl; have k1 := ((P.next bb).alloc (.cells #[.string nm, .int .i64 0, .bool false] 23)).spec.cell 0 _ rfl; have k2 := (((P.next bb).alloc (.cells #[.string nm, .int .i64 0, .bool false] 23)).alloc (.cells #[.string nm, .int .i64 0, .bool true] 23)).spec.cell 0 _ rfl; clear bb P R c0 c1 c2 c3 c4 c5 c6; obtain ⟨d0, d1, d2⟩ := cells3 Y.p1; obtain ⟨e0, e1, e2⟩ := cells3 Y.p2; obtain ⟨f0, f1, f2⟩ := cells3 Y.p3; obtain ⟨c0, c1, c2, c3, c4, c5, c6⟩ := Y.pz.all)
                    | (have z := T1; go_at_call 10; refine (pone_is n nm 0 false _ v ⟨#[]⟩ false 3 _ h0 h1 (H0.out.later Y.pz.bel) F hnm O1.out).mono ?_; rintro e w5 ⟨rfl, bb⟩; replace Y := Y.next bb; clear d0 d1 d2 e0 e1 e2 f0 f1 f2 c0 c1 c2 c3 c4 c5 c6; obtain ⟨d0, d1, d2⟩ := cells3 Y.p1; obtain ⟨e0, e1, e2⟩ := cells3 Y.p2; obtain ⟨f0, f1, f2⟩ := cells3 Y.p3; obtain ⟨c0, c1, c2, c3, c4, c5, c6⟩ := Y.pz.all; clear bb T1 z)
                    | (have z := T2; go_at_call 10; refine (pone_is n nm 0 true _ v ⟨#[]⟩ false 3 _ h0 h1 (H0.out.later Y.pz.bel) F hnm O2.out).mono ?_; rintro e w5 ⟨rfl, bb⟩; replace Y := Y.next bb; clear d0 d1 d2 e0 e1 e2 f0 f1 f2 c0 c1 c2 c3 c4 c5 c6; obtain ⟨d0, d1, d2⟩ := cells3 Y.p1; obtain ⟨e0, e1, e2⟩ := cells3 Y.p2; obtain ⟨f0, f1, f2⟩ := cells3 Y.p3; obtain ⟨c0, c1, c2, c3, c4, c5, c6⟩ := Y.pz.all; clear bb T2 z)
                    | (have z := T3; go_at_call 10; refine (pone_is n nm 9999 false _ v ⟨#[]⟩ false 4 _ h0 h1 (H0.out.later Y.pz.bel) F hnm O3.out).mono ?_; rintro e w5 ⟨rfl, bb⟩; replace Y := Y.next bb; clear d0 d1 d2 e0 e1 e2 f0 f1 f2 c0 c1 c2 c3 c4 c5 c6; obtain ⟨d0, d1, d2⟩ := cells3 Y.p1; obtain ⟨e0, e1, e2⟩ := cells3 Y.p2; obtain ⟨f0, f1, f2⟩ := cells3 Y.p3; obtain ⟨c0, c1, c2, c3, c4, c5, c6⟩ := Y.pz.all; clear bb T3 z)
                    | (go_at_call 19; refine (rcanon_o _ v c _ X _ (H0.out.later Y.pz.bel) (by have := F.l; omega) (by have := F.p; omega) Hc.out Hk.out HX.out).mono ?_; rintro e w6 ⟨la, lc, pa, pc, rfl, Rl, Rp, bb, _, _⟩; replace Y := (Y.next bb).next (b_alloc w6 (.cells #[.int .i64 2, .string X, .slice la c.l.length lc, .slice pa c.p.length pc] 27)); have Q := Bx.made w6 #[.int .i64 2, .string X, .slice la c.l.length lc, .slice pa c.p.length pc] 27; obtain ⟨q0, q1, q2, q3⟩ := cells4 Q; obtain ⟨r0, r1, r2, r3, r4⟩ := cells5 Y.rule; clear bb; clear d0 d1 d2 e0 e1 e2 f0 f1 f2 c0 c1 c2 c3 c4 c5 c6))
                  all_goals go_ret
                  all_goals exact ⟨rfl, Y.pz.bel⟩
              · go_enter Try.func6, Try.ntmps6
                go_wp2_with (first
                  | (go_at_call 8; refine (awake_any _).mono ?_; rintro e w1 ⟨rfl, bb⟩; replace P := P.next bb; clear bb c0 c1 c2 c3 c4 c5 c6; obtain ⟨c0, c1, c2, c3, c4, c5, c6⟩ := P.all)
                  | (go_at_call 18; refine (hru _).mono ?_; rintro e w2 ⟨rfl, bb⟩; replace P := (P.next bb).alloc (.cells #[.string FA, .string SA, .bool false, .string EA, .bool kp] 45); have R := Bx.made w2 #[.string FA, .string SA, .bool false, .string EA, .bool kp] 45; clear bb c0 c1 c2 c3 c4 c5 c6; obtain ⟨c0, c1, c2, c3, c4, c5, c6⟩ := P.all)
                  | (go_at_call 9; refine (lfew_is nm m st _ v true _ (H0.out.later P.bel) W hn Hf.out).mono ?_; rintro e w3 ⟨rfl, bb⟩; replace P := P.next bb; replace R := R.next bb; clear bb c0 c1 c2 c3 c4 c5 c6; obtain ⟨c0, c1, c2, c3, c4, c5, c6⟩ := P.all)
                  | (go_at_call 15; refine (rxmay_is nm m st true _ Hm.out).mono ?_; rintro e w4 ⟨rfl, bb⟩; have Y := Yz.made (P.next bb) (R.next bb); have k0 := ((P.next bb).spec).cell 0 _ rfl; have k1 := ((P.next bb).alloc (.cells #[.string nm, .int .i64 0, .bool false] 23)).spec.cell 0 _ rfl; have k2 := (((P.next bb).alloc (.cells #[.string nm, .int .i64 0, .bool false] 23)).alloc (.cells #[.string nm, .int .i64 0, .bool true] 23)).spec.cell 0 _ rfl; clear bb P R c0 c1 c2 c3 c4 c5 c6; obtain ⟨d0, d1, d2⟩ := cells3 Y.p1; obtain ⟨e0, e1, e2⟩ := cells3 Y.p2; obtain ⟨f0, f1, f2⟩ := cells3 Y.p3; obtain ⟨c0, c1, c2, c3, c4, c5, c6⟩ := Y.pz.all)
                  | (have z := T1; go_at_call 10; refine (pone_is n nm 0 false _ v ⟨#[]⟩ false 3 _ h0 h1 (H0.out.later Y.pz.bel) F hnm O1.out).mono ?_; rintro e w5 ⟨rfl, bb⟩; replace Y := Y.next bb; clear d0 d1 d2 e0 e1 e2 f0 f1 f2 c0 c1 c2 c3 c4 c5 c6; obtain ⟨d0, d1, d2⟩ := cells3 Y.p1; obtain ⟨e0, e1, e2⟩ := cells3 Y.p2; obtain ⟨f0, f1, f2⟩ := cells3 Y.p3; obtain ⟨c0, c1, c2, c3, c4, c5, c6⟩ := Y.pz.all; clear bb T1 z)
                  | (have z := T2; go_at_call 10; refine (pone_is n nm 0 true _ v ⟨#[]⟩ false 3 _ h0 h1 (H0.out.later Y.pz.bel) F hnm O2.out).mono ?_; rintro e w5 ⟨rfl, bb⟩; replace Y := Y.next bb; clear d0 d1 d2 e0 e1 e2 f0 f1 f2 c0 c1 c2 c3 c4 c5 c6; obtain ⟨d0, d1, d2⟩ := cells3 Y.p1; obtain ⟨e0, e1, e2⟩ := cells3 Y.p2; obtain ⟨f0, f1, f2⟩ := cells3 Y.p3; obtain ⟨c0, c1, c2, c3, c4, c5, c6⟩ := Y.pz.all; clear bb T2 z)
                  | (have z := T3; go_at_call 10; refine (pone_is n nm 9999 false _ v ⟨#[]⟩ false 4 _ h0 h1 (H0.out.later Y.pz.bel) F hnm O3.out).mono ?_; rintro e w5 ⟨rfl, bb⟩; replace Y := Y.next bb; clear d0 d1 d2 e0 e1 e2 f0 f1 f2 c0 c1 c2 c3 c4 c5 c6; obtain ⟨d0, d1, d2⟩ := cells3 Y.p1; obtain ⟨e0, e1, e2⟩ := cells3 Y.p2; obtain ⟨f0, f1, f2⟩ := cells3 Y.p3; obtain ⟨c0, c1, c2, c3, c4, c5, c6⟩ := Y.pz.all; clear bb T3 z)
                  | (go_at_call 19; refine (rcanon_o _ v c _ X _ (H0.out.later Y.pz.bel) (by have := F.l; omega) (by have := F.p; omega) Hc.out Hk.out HX.out).mono ?_; rintro e w6 ⟨la, lc, pa, pc, rfl, Rl, Rp, bb, _, _⟩; replace Y := (Y.next bb).next (b_alloc w6 (.cells #[.int .i64 3, .string X, .slice la c.l.length lc, .slice pa c.p.length pc] 27)); have Q := Bx.made w6 #[.int .i64 3, .string X, .slice la c.l.length lc, .slice pa c.p.length pc] 27; obtain ⟨q0, q1, q2, q3⟩ := cells4 Q; obtain ⟨r0, r1, r2, r3, r4⟩ := cells5 Y.rule; clear bb; clear d0 d1 d2 e0 e1 e2 f0 f1 f2 c0 c1 c2 c3 c4 c5 c6))
                all_goals go_ret
                all_goals exact ⟨rfl, Y.pz.bel⟩
              · go_enter Try.func6, Try.ntmps6
                go_wp2_with (first
                  | (go_at_call 8; refine (awake_any _).mono ?_; rintro e w1 ⟨rfl, bb⟩; replace P := P.next bb; clear bb c0 c1 c2 c3 c4 c5 c6; obtain ⟨c0, c1, c2, c3, c4, c5, c6⟩ := P.all)
                  | (go_at_call 18; refine (hru _).mono ?_; rintro e w2 ⟨rfl, bb⟩; replace P := (P.next bb).alloc (.cells #[.string FA, .string SA, .bool true, .string EA, .bool kp] 45); have R := Bx.made w2 #[.string FA, .string SA, .bool true, .string EA, .bool kp] 45; clear bb c0 c1 c2 c3 c4 c5 c6; obtain ⟨c0, c1, c2, c3, c4, c5, c6⟩ := P.all)
                  | (go_at_call 9; refine (lfew_is nm m st _ v true _ (H0.out.later P.bel) W hn Hf.out).mono ?_; rintro e w3 ⟨rfl, bb⟩; replace P := P.next bb; replace R := R.next bb; clear bb c0 c1 c2 c3 c4 c5 c6; obtain ⟨c0, c1, c2, c3, c4, c5, c6⟩ := P.all)
                  | (go_at_call 15; refine (rxmay_is nm m st true _ Hm.out).mono ?_; rintro e w4 ⟨rfl, bb⟩; have Y := Yz.made (P.next bb) (R.next bb); have k0 := ((P.next bb).spec).cell 0 _ rfl; have k1 := ((P.next bb).alloc (.cells #[.string nm, .int .i64 0, .bool false] 23)).spec.cell 0 _ rfl; have k2 := (((P.next bb).alloc (.cells #[.string nm, .int .i64 0, .bool false] 23)).alloc (.cells #[.string nm, .int .i64 0, .bool true] 23)).spec.cell 0 _ rfl; clear bb P R c0 c1 c2 c3 c4 c5 c6; obtain ⟨d0, d1, d2⟩ := cells3 Y.p1; obtain ⟨e0, e1, e2⟩ := cells3 Y.p2; obtain ⟨f0, f1, f2⟩ := cells3 Y.p3; obtain ⟨c0, c1, c2, c3, c4, c5, c6⟩ := Y.pz.all)
                  | (have z := T1; go_at_call 10; refine (pone_is n nm 0 false _ v ⟨#[]⟩ false 3 _ h0 h1 (H0.out.later Y.pz.bel) F hnm O1.out).mono ?_; rintro e w5 ⟨rfl, bb⟩; replace Y := Y.next bb; clear d0 d1 d2 e0 e1 e2 f0 f1 f2 c0 c1 c2 c3 c4 c5 c6; obtain ⟨d0, d1, d2⟩ := cells3 Y.p1; obtain ⟨e0, e1, e2⟩ := cells3 Y.p2; obtain ⟨f0, f1, f2⟩ := cells3 Y.p3; obtain ⟨c0, c1, c2, c3, c4, c5, c6⟩ := Y.pz.all; clear bb T1 z)
                  | (have z := T2; go_at_call 10; refine (pone_is n nm 0 true _ v ⟨#[]⟩ false 3 _ h0 h1 (H0.out.later Y.pz.bel) F hnm O2.out).mono ?_; rintro e w5 ⟨rfl, bb⟩; replace Y := Y.next bb; clear d0 d1 d2 e0 e1 e2 f0 f1 f2 c0 c1 c2 c3 c4 c5 c6; obtain ⟨d0, d1, d2⟩ := cells3 Y.p1; obtain ⟨e0, e1, e2⟩ := cells3 Y.p2; obtain ⟨f0, f1, f2⟩ := cells3 Y.p3; obtain ⟨c0, c1, c2, c3, c4, c5, c6⟩ := Y.pz.all; clear bb T2 z)
                  | (have z := T3; go_at_call 10; refine (pone_is n nm 9999 false _ v ⟨#[]⟩ false 4 _ h0 h1 (H0.out.later Y.pz.bel) F hnm O3.out).mono ?_; rintro e w5 ⟨rfl, bb⟩; replace Y := Y.next bb; clear d0 d1 d2 e0 e1 e2 f0 f1 f2 c0 c1 c2 c3 c4 c5 c6; obtain ⟨d0, d1, d2⟩ := cells3 Y.p1; obtain ⟨e0, e1, e2⟩ := cells3 Y.p2; obtain ⟨f0, f1, f2⟩ := cells3 Y.p3; obtain ⟨c0, c1, c2, c3, c4, c5, c6⟩ := Y.pz.all; clear bb T3 z)
                  | (go_at_call 19; refine (rcanon_o _ v c _ X _ (H0.out.later Y.pz.bel) (by have := F.l; omega) (by have := F.p; omega) Hc.out Hk.out HX.out).mono ?_; rintro e w6 ⟨la, lc, pa, pc, rfl, Rl, Rp, bb, _, _⟩; replace Y := (Y.next bb).next (b_alloc w6 (.cells #[.int .i64 3, .string X, .slice la c.l.length lc, .slice pa c.p.length pc] 27)); have Q := Bx.made w6 #[.int .i64 3, .string X, .slice la c.l.length lc, .slice pa c.p.length pc] 27; obtain ⟨q0, q1, q2, q3⟩ := cells4 Q; obtain ⟨r0, r1, r2, r3, r4⟩ := cells5 Y.rule; clear bb; clear d0 d1 d2 e0 e1 e2 f0 f1 f2 c0 c1 c2 c3 c4 c5 c6))
                all_goals go_ret
                all_goals exact ⟨rfl, Y.pz.bel⟩
            | true =>
              rw [if_neg (by simp [hv])] at g1 g2
              obtain ⟨A, hA⟩ : ∃ A : ByteArray, A.data.toList = listP (rlN n.toNat) (spA nm 0 false) v := ⟨⟨(listP (rlN n.toNat) (spA nm 0 false) v).toArray⟩, rfl⟩
              obtain ⟨B, hB⟩ : ∃ B : ByteArray, B.data.toList = listP (rlN n.toNat) (spA nm 0 true) v := ⟨⟨(listP (rlN n.toNat) (spA nm 0 true) v).toArray⟩, rfl⟩
              rw [← hA] at g1
              rw [← hB] at g2
              have O1 := hide g1
              have O2 := hide g2
              rcases hks with h | h
              · have Hk := hide (hkk.trans h)
                by_cases hl1 : c.l.length = 1
                · have hi : ((c.l.length : Int) == 1) = true := by simp [hl1]
                  cases nd with
                  | true =>
                    clear hd hkk h hne g1 g2 ls hlc hv m1 m2 m3 hc hcl hA hB hl1
                    go_enter Try.func6, Try.ntmps6
                    go_wp2_with (first
                      | (go_at_call 8; refine (awake_any _).mono ?_; rintro e w1 ⟨rfl, bb⟩; replace P := P.next bb; clear bb c0 c1 c2 c3 c4 c5 c6; obtain ⟨c0, c1, c2, c3, c4, c5, c6⟩ := P.all)
                      | (go_at_call 18; refine (hru _).mono ?_; rintro e w2 ⟨rfl, bb⟩; replace P := (P.next bb).alloc (.cells #[.string FA, .string SA, .bool true, .string EA, .bool kp] 45); have R := Bx.made w2 #[.string FA, .string SA, .bool true, .string EA, .bool kp] 45; clear bb c0 c1 c2 c3 c4 c5 c6; obtain ⟨c0, c1, c2, c3, c4, c5, c6⟩ := P.all)
                      | (go_at_call 9; refine (lfew_is nm m st _ v true _ (H0.out.later P.bel) W hn Hf.out).mono ?_; rintro e w3 ⟨rfl, bb⟩; replace P := P.next bb; replace R := R.next bb; clear bb c0 c1 c2 c3 c4 c5 c6; obtain ⟨c0, c1, c2, c3, c4, c5, c6⟩ := P.all)
                      | (go_at_call 15; refine (rxmay_is nm m st true _ Hm.out).mono ?_; rintro e w4 ⟨rfl, bb⟩; have Y := Yz.made (P.next bb) (R.next bb); have k0 := ((P.next bb).spec).cell 0 _ rfl; have k1 := ((P.next bb).alloc (.cells #[.string nm, .int .i64 0, .bool false] 23)).spec.cell 0 _ rfl; have k2 := (((P.next bb).alloc (.cells #[.string nm, .int .i64 0, .bool false] 23)).alloc (.cells #[.string nm, .int .i64 0, .bool true] 23)).spec.cell 0 _ rfl; clear bb P R c0 c1 c2 c3 c4 c5 c6; obtain ⟨d0, d1, d2⟩ := cells3 Y.p1; obtain ⟨e0, e1, e2⟩ := cells3 Y.p2; obtain ⟨f0, f1, f2⟩ := cells3 Y.p3; obtain ⟨c0, c1, c2, c3, c4, c5, c6⟩ := Y.pz.all)
                      | (have z := T1; go_at_call 10; refine (pone_is n nm 0 false _ v A true 0 _ h0 h1 (H0.out.later Y.pz.bel) F hnm O1.out).mono ?_; rintro e w5 ⟨rfl, bb⟩; replace Y := Y.next bb; clear d0 d1 d2 e0 e1 e2 f0 f1 f2 c0 c1 c2 c3 c4 c5 c6; obtain ⟨d0, d1, d2⟩ := cells3 Y.p1; obtain ⟨e0, e1, e2⟩ := cells3 Y.p2; obtain ⟨f0, f1, f2⟩ := cells3 Y.p3; obtain ⟨c0, c1, c2, c3, c4, c5, c6⟩ := Y.pz.all; clear bb T1 z)
                      | (have z := T2; go_at_call 10; refine (pone_is n nm 0 true _ v B true 0 _ h0 h1 (H0.out.later Y.pz.bel) F hnm O2.out).mono ?_; rintro e w5 ⟨rfl, bb⟩; replace Y := Y.next bb; clear d0 d1 d2 e0 e1 e2 f0 f1 f2 c0 c1 c2 c3 c4 c5 c6; obtain ⟨d0, d1, d2⟩ := cells3 Y.p1; obtain ⟨e0, e1, e2⟩ := cells3 Y.p2; obtain ⟨f0, f1, f2⟩ := cells3 Y.p3; obtain ⟨c0, c1, c2, c3, c4, c5, c6⟩ := Y.pz.all; clear bb T2 z)
                      | (have z := T3; go_at_call 10; refine (pone_is n nm 9999 false _ v ⟨#[]⟩ false 4 _ h0 h1 (H0.out.later Y.pz.bel) F hnm O3.out).mono ?_; rintro e w5 ⟨rfl, bb⟩; replace Y := Y.next bb; clear d0 d1 d2 e0 e1 e2 f0 f1 f2 c0 c1 c2 c3 c4 c5 c6; obtain ⟨d0, d1, d2⟩ := cells3 Y.p1; obtain ⟨e0, e1, e2⟩ := cells3 Y.p2; obtain ⟨f0, f1, f2⟩ := cells3 Y.p3; obtain ⟨c0, c1, c2, c3, c4, c5, c6⟩ := Y.pz.all; clear bb T3 z)
                      | (go_at_call 19; refine (rcanon_o _ v c _ X _ (H0.out.later Y.pz.bel) (by have := F.l; omega) (by have := F.p; omega) Hc.out Hk.out HX.out).mono ?_; rintro e w6 ⟨la, lc, pa, pc, rfl, Rl, Rp, bb, _, _⟩; replace Y := (Y.next bb).next (b_alloc w6 (.cells #[.int .i64 2, .string X, .slice la c.l.length lc, .slice pa c.p.length pc] 27)); have Q := Bx.made w6 #[.int .i64 2, .string X, .slice la c.l.length lc, .slice pa c.p.length pc] 27; obtain ⟨q0, q1, q2, q3⟩ := cells4 Q; obtain ⟨r0, r1, r2, r3, r4⟩ := cells5 Y.rule; clear bb; clear d0 d1 d2 e0 e1 e2 f0 f1 f2 c0 c1 c2 c3 c4 c5 c6))
                    all_goals go_ret
                    all_goals exact ⟨rfl, Y.pz.bel⟩
                  | false =>
                    have hAB : B = A := arr_ext (by rw [hB, hA]; exact ls Hnd.out h (by rw [hlc h]; exact hl1))
                    subst hAB
                    have et : (B.toList == B.toList) = true := by simp
                    clear hd hkk h hne g1 g2 ls hlc hv m1 m2 m3 hc hcl hA hB hl1
                    go_enter Try.func6, Try.ntmps6
                    go_wp2_with (first
                      | (go_at_call 8; refine (awake_any _).mono ?_; rintro e w1 ⟨rfl, bb⟩; replace P := P.next bb; clear bb c0 c1 c2 c3 c4 c5 c6; obtain ⟨c0, c1, c2, c3, c4, c5, c6⟩ := P.all)
                      | (go_at_call 18; refine (hru _).mono ?_; rintro e w2 ⟨rfl, bb⟩; replace P := (P.next bb).alloc (.cells #[.string FA, .string SA, .bool false, .string EA, .bool kp] 45); have R := Bx.made w2 #[.string FA, .string SA, .bool false, .string EA, .bool kp] 45; clear bb c0 c1 c2 c3 c4 c5 c6; obtain ⟨c0, c1, c2, c3, c4, c5, c6⟩ := P.all)
                      | (go_at_call 9; refine (lfew_is nm m st _ v true _ (H0.out.later P.bel) W hn Hf.out).mono ?_; rintro e w3 ⟨rfl, bb⟩; replace P := P.next bb; replace R := R.next bb; clear bb c0 c1 c2 c3 c4 c5 c6; obtain ⟨c0, c1, c2, c3, c4, c5, c6⟩ := P.all)
                      | (go_at_call 15; refine (rxmay_is nm m st true _ Hm.out).mono ?_; rintro e w4 ⟨rfl, bb⟩; have Y := Yz.made (P.next bb) (R.next bb); have k0 := ((P.next bb).spec).cell 0 _ rfl; have k1 := ((P.next bb).alloc (.cells #[.string nm, .int .i64 0, .bool false] 23)).spec.cell 0 _ rfl; have k2 := (((P.next bb).alloc (.cells #[.string nm, .int .i64 0, .bool false] 23)).alloc (.cells #[.string nm, .int .i64 0, .bool true] 23)).spec.cell 0 _ rfl; clear bb P R c0 c1 c2 c3 c4 c5 c6; obtain ⟨d0, d1, d2⟩ := cells3 Y.p1; obtain ⟨e0, e1, e2⟩ := cells3 Y.p2; obtain ⟨f0, f1, f2⟩ := cells3 Y.p3; obtain ⟨c0, c1, c2, c3, c4, c5, c6⟩ := Y.pz.all)
                      | (have z := T1; go_at_call 10; refine (pone_is n nm 0 false _ v B true 0 _ h0 h1 (H0.out.later Y.pz.bel) F hnm O1.out).mono ?_; rintro e w5 ⟨rfl, bb⟩; replace Y := Y.next bb; clear d0 d1 d2 e0 e1 e2 f0 f1 f2 c0 c1 c2 c3 c4 c5 c6; obtain ⟨d0, d1, d2⟩ := cells3 Y.p1; obtain ⟨e0, e1, e2⟩ := cells3 Y.p2; obtain ⟨f0, f1, f2⟩ := cells3 Y.p3; obtain ⟨c0, c1, c2, c3, c4, c5, c6⟩ := Y.pz.all; clear bb T1 z)
                      | (have z := T2; go_at_call 10; refine (pone_is n nm 0 true _ v B true 0 _ h0 h1 (H0.out.later Y.pz.bel) F hnm O2.out).mono ?_; rintro e w5 ⟨rfl, bb⟩; replace Y := Y.next bb; clear d0 d1 d2 e0 e1 e2 f0 f1 f2 c0 c1 c2 c3 c4 c5 c6; obtain ⟨d0, d1, d2⟩ := cells3 Y.p1; obtain ⟨e0, e1, e2⟩ := cells3 Y.p2; obtain ⟨f0, f1, f2⟩ := cells3 Y.p3; obtain ⟨c0, c1, c2, c3, c4, c5, c6⟩ := Y.pz.all; clear bb T2 z)
                      | (have z := T3; go_at_call 10; refine (pone_is n nm 9999 false _ v ⟨#[]⟩ false 4 _ h0 h1 (H0.out.later Y.pz.bel) F hnm O3.out).mono ?_; rintro e w5 ⟨rfl, bb⟩; replace Y := Y.next bb; clear d0 d1 d2 e0 e1 e2 f0 f1 f2 c0 c1 c2 c3 c4 c5 c6; obtain ⟨d0, d1, d2⟩ := cells3 Y.p1; obtain ⟨e0, e1, e2⟩ := cells3 Y.p2; obtain ⟨f0, f1, f2⟩ := cells3 Y.p3; obtain ⟨c0, c1, c2, c3, c4, c5, c6⟩ := Y.pz.all; clear bb T3 z)
                      | (go_at_call 19; refine (rcanon_o _ v c _ X _ (H0.out.later Y.pz.bel) (by have := F.l; omega) (by have := F.p; omega) Hc.out Hk.out HX.out).mono ?_; rintro e w6 ⟨la, lc, pa, pc, rfl, Rl, Rp, bb, _, _⟩; replace Y := (Y.next bb).next (b_alloc w6 (.cells #[.int .i64 2, .string X, .slice la c.l.length lc, .slice pa c.p.length pc] 27)); have Q := Bx.made w6 #[.int .i64 2, .string X, .slice la c.l.length lc, .slice pa c.p.length pc] 27; obtain ⟨q0, q1, q2, q3⟩ := cells4 Q; obtain ⟨r0, r1, r2, r3, r4⟩ := cells5 Y.rule; clear bb; clear d0 d1 d2 e0 e1 e2 f0 f1 f2 c0 c1 c2 c3 c4 c5 c6))
                    all_goals go_ret
                    all_goals exact ⟨rfl, Y.pz.bel⟩
                · have hi : ((c.l.length : Int) == 1) = false := by simp; omega
                  have hi2 : ¬ ((c.l.length : Int) = 1) := by omega
                  clear hd hkk h hne g1 g2 ls hlc hv m1 m2 m3 hc hcl hA hB
                  go_enter Try.func6, Try.ntmps6
                  go_wp2_with (first
                    | (go_at_call 8; refine (awake_any _).mono ?_; rintro e w1 ⟨rfl, bb⟩; replace P := P.next bb; clear bb c0 c1 c2 c3 c4 c5 c6; obtain ⟨c0, c1, c2, c3, c4, c5, c6⟩ := P.all)
                    | (go_at_call 18; refine (hru _).mono ?_; rintro e w2 ⟨rfl, bb⟩; replace P := (P.next bb).alloc (.cells #[.string FA, .string SA, .bool nd, .string EA, .bool kp] 45); have R := Bx.made w2 #[.string FA, .string SA, .bool nd, .string EA, .bool kp] 45; clear bb c0 c1 c2 c3 c4 c5 c6; obtain ⟨c0, c1, c2, c3, c4, c5, c6⟩ := P.all)
                    | (go_at_call 9; refine (lfew_is nm m st _ v true _ (H0.out.later P.bel) W hn Hf.out).mono ?_; rintro e w3 ⟨rfl, bb⟩; replace P := P.next bb; replace R := R.next bb; clear bb c0 c1 c2 c3 c4 c5 c6; obtain ⟨c0, c1, c2, c3, c4, c5, c6⟩ := P.all)
                    | (go_at_call 15; refine (rxmay_is nm m st true _ Hm.out).mono ?_; rintro e w4 ⟨rfl, bb⟩; have Y := Yz.made (P.next bb) (R.next bb); have k0 := ((P.next bb).spec).cell 0 _ rfl; have k1 := ((P.next bb).alloc (.cells #[.string nm, .int .i64 0, .bool false] 23)).spec.cell 0 _ rfl; have k2 := (((P.next bb).alloc (.cells #[.string nm, .int .i64 0, .bool false] 23)).alloc (.cells #[.string nm, .int .i64 0, .bool true] 23)).spec.cell 0 _ rfl; clear bb P R c0 c1 c2 c3 c4 c5 c6; obtain ⟨d0, d1, d2⟩ := cells3 Y.p1; obtain ⟨e0, e1, e2⟩ := cells3 Y.p2; obtain ⟨f0, f1, f2⟩ := cells3 Y.p3; obtain ⟨c0, c1, c2, c3, c4, c5, c6⟩ := Y.pz.all)
                    | (have z := T1; go_at_call 10; refine (pone_is n nm 0 false _ v A true 0 _ h0 h1 (H0.out.later Y.pz.bel) F hnm O1.out).mono ?_; rintro e w5 ⟨rfl, bb⟩; replace Y := Y.next bb; clear d0 d1 d2 e0 e1 e2 f0 f1 f2 c0 c1 c2 c3 c4 c5 c6; obtain ⟨d0, d1, d2⟩ := cells3 Y.p1; obtain ⟨e0, e1, e2⟩ := cells3 Y.p2; obtain ⟨f0, f1, f2⟩ := cells3 Y.p3; obtain ⟨c0, c1, c2, c3, c4, c5, c6⟩ := Y.pz.all; clear bb T1 z)
                    | (have z := T2; go_at_call 10; refine (pone_is n nm 0 true _ v B true 0 _ h0 h1 (H0.out.later Y.pz.bel) F hnm O2.out).mono ?_; rintro e w5 ⟨rfl, bb⟩; replace Y := Y.next bb; clear d0 d1 d2 e0 e1 e2 f0 f1 f2 c0 c1 c2 c3 c4 c5 c6; obtain ⟨d0, d1, d2⟩ := cells3 Y.p1; obtain ⟨e0, e1, e2⟩ := cells3 Y.p2; obtain ⟨f0, f1, f2⟩ := cells3 Y.p3; obtain ⟨c0, c1, c2, c3, c4, c5, c6⟩ := Y.pz.all; clear bb T2 z)
                    | (have z := T3; go_at_call 10; refine (pone_is n nm 9999 false _ v ⟨#[]⟩ false 4 _ h0 h1 (H0.out.later Y.pz.bel) F hnm O3.out).mono ?_; rintro e w5 ⟨rfl, bb⟩; replace Y := Y.next bb; clear d0 d1 d2 e0 e1 e2 f0 f1 f2 c0 c1 c2 c3 c4 c5 c6; obtain ⟨d0, d1, d2⟩ := cells3 Y.p1; obtain ⟨e0, e1, e2⟩ := cells3 Y.p2; obtain ⟨f0, f1, f2⟩ := cells3 Y.p3; obtain ⟨c0, c1, c2, c3, c4, c5, c6⟩ := Y.pz.all; clear bb T3 z)
                    | (go_at_call 19; refine (rcanon_o _ v c _ X _ (H0.out.later Y.pz.bel) (by have := F.l; omega) (by have := F.p; omega) Hc.out Hk.out HX.out).mono ?_; rintro e w6 ⟨la, lc, pa, pc, rfl, Rl, Rp, bb, _, _⟩; replace Y := (Y.next bb).next (b_alloc w6 (.cells #[.int .i64 2, .string X, .slice la c.l.length lc, .slice pa c.p.length pc] 27)); have Q := Bx.made w6 #[.int .i64 2, .string X, .slice la c.l.length lc, .slice pa c.p.length pc] 27; obtain ⟨q0, q1, q2, q3⟩ := cells4 Q; obtain ⟨r0, r1, r2, r3, r4⟩ := cells5 Y.rule; clear bb; clear d0 d1 d2 e0 e1 e2 f0 f1 f2 c0 c1 c2 c3 c4 c5 c6))
                  all_goals go_ret
                  all_goals exact ⟨rfl, Y.pz.bel⟩
              · have Hk := hide (hkk.trans h)
                clear hd hkk h hne g1 g2 ls hlc hv m1 m2 m3 hc hcl hA hB
                go_enter Try.func6, Try.ntmps6
                go_wp2_with (first
                  | (go_at_call 8; refine (awake_any _).mono ?_; rintro e w1 ⟨rfl, bb⟩; replace P := P.next bb; clear bb c0 c1 c2 c3 c4 c5 c6; obtain ⟨c0, c1, c2, c3, c4, c5, c6⟩ := P.all)
                  | (go_at_call 18; refine (hru _).mono ?_; rintro e w2 ⟨rfl, bb⟩; replace P := (P.next bb).alloc (.cells #[.string FA, .string SA, .bool nd, .string EA, .bool kp] 45); have R := Bx.made w2 #[.string FA, .string SA, .bool nd, .string EA, .bool kp] 45; clear bb c0 c1 c2 c3 c4 c5 c6; obtain ⟨c0, c1, c2, c3, c4, c5, c6⟩ := P.all)
                  | (go_at_call 9; refine (lfew_is nm m st _ v true _ (H0.out.later P.bel) W hn Hf.out).mono ?_; rintro e w3 ⟨rfl, bb⟩; replace P := P.next bb; replace R := R.next bb; clear bb c0 c1 c2 c3 c4 c5 c6; obtain ⟨c0, c1, c2, c3, c4, c5, c6⟩ := P.all)
                  | (go_at_call 15; refine (rxmay_is nm m st true _ Hm.out).mono ?_; rintro e w4 ⟨rfl, bb⟩; have Y := Yz.made (P.next bb) (R.next bb); have k0 := ((P.next bb).spec).cell 0 _ rfl; have k1 := ((P.next bb).alloc (.cells #[.string nm, .int .i64 0, .bool false] 23)).spec.cell 0 _ rfl; have k2 := (((P.next bb).alloc (.cells #[.string nm, .int .i64 0, .bool false] 23)).alloc (.cells #[.string nm, .int .i64 0, .bool true] 23)).spec.cell 0 _ rfl; clear bb P R c0 c1 c2 c3 c4 c5 c6; obtain ⟨d0, d1, d2⟩ := cells3 Y.p1; obtain ⟨e0, e1, e2⟩ := cells3 Y.p2; obtain ⟨f0, f1, f2⟩ := cells3 Y.p3; obtain ⟨c0, c1, c2, c3, c4, c5, c6⟩ := Y.pz.all)
                  | (have z := T1; go_at_call 10; refine (pone_is n nm 0 false _ v A true 0 _ h0 h1 (H0.out.later Y.pz.bel) F hnm O1.out).mono ?_; rintro e w5 ⟨rfl, bb⟩; replace Y := Y.next bb; clear d0 d1 d2 e0 e1 e2 f0 f1 f2 c0 c1 c2 c3 c4 c5 c6; obtain ⟨d0, d1, d2⟩ := cells3 Y.p1; obtain ⟨e0, e1, e2⟩ := cells3 Y.p2; obtain ⟨f0, f1, f2⟩ := cells3 Y.p3; obtain ⟨c0, c1, c2, c3, c4, c5, c6⟩ := Y.pz.all; clear bb T1 z)
                  | (have z := T2; go_at_call 10; refine (pone_is n nm 0 true _ v B true 0 _ h0 h1 (H0.out.later Y.pz.bel) F hnm O2.out).mono ?_; rintro e w5 ⟨rfl, bb⟩; replace Y := Y.next bb; clear d0 d1 d2 e0 e1 e2 f0 f1 f2 c0 c1 c2 c3 c4 c5 c6; obtain ⟨d0, d1, d2⟩ := cells3 Y.p1; obtain ⟨e0, e1, e2⟩ := cells3 Y.p2; obtain ⟨f0, f1, f2⟩ := cells3 Y.p3; obtain ⟨c0, c1, c2, c3, c4, c5, c6⟩ := Y.pz.all; clear bb T2 z)
                  | (have z := T3; go_at_call 10; refine (pone_is n nm 9999 false _ v ⟨#[]⟩ false 4 _ h0 h1 (H0.out.later Y.pz.bel) F hnm O3.out).mono ?_; rintro e w5 ⟨rfl, bb⟩; replace Y := Y.next bb; clear d0 d1 d2 e0 e1 e2 f0 f1 f2 c0 c1 c2 c3 c4 c5 c6; obtain ⟨d0, d1, d2⟩ := cells3 Y.p1; obtain ⟨e0, e1, e2⟩ := cells3 Y.p2; obtain ⟨f0, f1, f2⟩ := cells3 Y.p3; obtain ⟨c0, c1, c2, c3, c4, c5, c6⟩ := Y.pz.all; clear bb T3 z)
                  | (go_at_call 19; refine (rcanon_o _ v c _ X _ (H0.out.later Y.pz.bel) (by have := F.l; omega) (by have := F.p; omega) Hc.out Hk.out HX.out).mono ?_; rintro e w6 ⟨la, lc, pa, pc, rfl, Rl, Rp, bb, _, _⟩; replace Y := (Y.next bb).next (b_alloc w6 (.cells #[.int .i64 3, .string X, .slice la c.l.length lc, .slice pa c.p.length pc] 27)); have Q := Bx.made w6 #[.int .i64 3, .string X, .slice la c.l.length lc, .slice pa c.p.length pc] 27; obtain ⟨q0, q1, q2, q3⟩ := cells4 Q; obtain ⟨r0, r1, r2, r3, r4⟩ := cells5 Y.rule; clear bb; clear d0 d1 d2 e0 e1 e2 f0 f1 f2 c0 c1 c2 c3 c4 c5 c6))
                all_goals go_ret
                all_goals exact ⟨rfl, Y.pz.bel⟩
end Go.Proofs.Ytpfcfadbilaleaa
