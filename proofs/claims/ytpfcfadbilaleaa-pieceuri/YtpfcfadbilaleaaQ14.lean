/-
  TEXTS JOINED: V11, I1, R1, J2, J3, U0.
-/
import Derived.Deep.AppendLies
import Derived.Deep.RegionHeld3
import Derived.Laws.StructEq
import Derived.Maps.OwnSet
import Derived.Test.YtpfcfadbilaleaaQ03
import Derived.Test.YtpfcfadbilaleaaQ06
import Derived.Test.YtpfcfadbilaleaaQ07
import Derived.Test.YtpfcfadbilaleaaQ11
import Derived.Test.YtpfcfadbilaleaaQ12
import Derived.Test.YtpfcfadbilaleaaQ13
/-
  WALKS: the reference's Valid, Very (layer 8).
-/
namespace Go.Proofs.Ytpfcfadbilaleaa
open Go.RowKit
open Go.Proofs.Ytpfcfadbilaleaau (validB blen begin_any)
def validT (y : List UInt8) : Bool := validB y
set_option maxRecDepth 20000 in
theorem rvalid_one (s : ByteArray) (b : Bool) (w : World) (hs : s.size ≤ 17592186044415) (h : validT s.data.toList = b) : Calls Try.prog 34 #[.string s] w fun e w' => e = .returned (.bool b) ∧ Below w.heap.size w w' := by
  have hb : ((blen s.data.toList : Int) == (s.size : Int)) = b := by
    rw [← h]; unfold validT validB
    rw [Bool.eq_iff_iff]; simp only [beq_iff_eq, decide_eq_true_eq, size_list]; omega
  go_enter Try.func34, Try.ntmps34
  go_wp2_with (go_at_call 56; refine (begin_any _ _ hs).mono ?_; rintro e w1 ⟨v, rfl, _, bb⟩)
  go_ret
  exact ⟨rfl, bb⟩
def validV (v : Vl) : Bool := (textsV v).all validT
set_option maxRecDepth 20000 in
set_option maxHeartbeats 4000000 in
theorem rvalid_any (x : Value) (v : Vl) (w : World) (H : VlAt w x v) (hl : v.l.length ≤ 1000) (hp : v.p.length ≤ 1000) (hts : ∀ y ∈ textsV v, y.length ≤ 10000) :
    Calls Try.prog 16 #[x] w fun e w' => e = .returned (.bool (validV v)) ∧ Below w.heap.size w w' := by
  have H0 := hide H
  obtain ⟨sl, sp, rfl, _, _⟩ := H
  obtain ⟨S, hS⟩ : ∃ S : ByteArray, (⟨v.s.toArray⟩ : ByteArray) = S := ⟨_, rfl⟩
  obtain ⟨k, hk⟩ : ∃ k, v.kind = k := ⟨_, rfl⟩
  rw [hS, hk] at H0 ⊢
  have hv : validV v = (textsV v).all validT := rfl
  obtain ⟨ts, ht⟩ : ∃ ts, textsV v = ts := ⟨_, rfl⟩
  have hln : ts.length ≤ 2000 := by rw [← ht]; exact texts_len v hl hp
  have Ht := hide ht
  rw [ht] at hv hts
  rw [hv]
  have Hts := hide hts
  clear hS hk ht hv hts
  have X0 := Bx.made w #[.int .i64 k, .string S, sl, sp] 27
  have B0 := b_alloc w (.cells #[.int .i64 k, .string S, sl, sp] 27)
  obtain ⟨W0, hW0⟩ : ∃ W0, w.alloc (.cells #[.int .i64 k, .string S, sl, sp] 27) = W0 := ⟨_, rfl⟩
  rw [hW0] at X0 B0
  obtain ⟨c0, c1, c2, c3⟩ := cells4 X0
  go_enter Try.func16, Try.ntmps16
  go_wp2_with (go_at_call 33; refine (rtexts_is _ v ts _ (H0.out.later B0) hl hp Ht.out).mono ?_; rintro e w1 ⟨ta, tc, rfl, T1, bb⟩)
  replace bb := B0.trans (bb.mono B0.size)
  clear c0 c1 c2 c3 hW0
  go_loopw [4] (fun i wr => ∃ q : Nat, q ≤ ts.length ∧ i = .int .i64 q ∧ (ts.take q).all validT = true ∧ StrsAt wr (.slice ta ts.length tc) ts ∧ Below w.heap.size w wr) (fun i _ => ts.length - (intOf i).toNat)
  case atStart => exact ⟨0, Nat.zero_le _, rfl, by simp, T1, bb⟩
  case round =>
    clear T1 bb X0 B0 H0
    obtain ⟨q, hq, rfl, hall, T, B⟩ := hrel
    by_cases hlt : q < ts.length
    · obtain ⟨b, off, cap, e, hb, g1⟩ := T.at q hlt
      cases e
      have hsn := all_snoc validT ts q hlt
      rw [hall, Bool.true_and] at hsn
      have hbad := all_not validT ts q ts.length hlt hlt
      rw [List.take_length] at hbad
      have hy := Hts.out _ (List.getElem_mem hlt)
      obtain ⟨y, ey⟩ : ∃ y, ts[q] = y := ⟨_, rfl⟩
      rw [ey] at g1 hsn hbad hy
      obtain ⟨N, hN⟩ : ∃ N : ByteArray, (⟨y.toArray⟩ : ByteArray) = N := ⟨_, rfl⟩
      have hNd : N.data.toList = y := by rw [← hN]
      have hNs : N.size ≤ 17592186044415 := by rw [← hN]; show y.toArray.size ≤ _; simp; omega
      rw [hN] at g1
      have Hsn := hide hsn
      have Hbad := hide hbad
      have HNd := hide hNd
      clear hsn hbad ey hN hNd hy hall
      cases hv : validT y with
      | true =>
        have Hv : Hid (validT N.data.toList = true) := by rw [HNd.out]; exact hide hv
        have Hs2 : Hid ((ts.take (q + 1)).all validT = true) := by rw [Hsn.out, hv]; exact hide rfl
        clear hv Hbad Hsn
        go_wp2_with (go_at_call 34; refine (rvalid_one _ true _ hNs Hv.out).mono ?_; rintro e w2 ⟨rfl, bb⟩)
        go_roundw
        case rel => exact ⟨q + 1, by omega, by go_num, Hs2.out, T.later bb, B.trans (bb.mono B.size)⟩
        case measure => simp [intOf]; omega
      | false =>
        have Hv : Hid (validT N.data.toList = false) := by rw [HNd.out]; exact hide hv
        have Hb : Hid (ts.all validT = false) := hide (Hbad.out hv)
        clear hv Hbad Hsn
        go_wp2_with (go_at_call 34; refine (rvalid_one _ false _ hNs Hv.out).mono ?_; rintro e w2 ⟨rfl, bb⟩)
        go_ret
        exact ⟨ret_bool Hb.out.symm, B.trans (bb.mono B.size)⟩
    · have hend : ts.all validT = true := by rw [List.take_of_length_le (by omega)] at hall; exact hall
      have Hend := hide hend
      clear hend hall
      go_wp2
      go_ret
      exact ⟨ret_bool Hend.out.symm, B⟩
set_option maxRecDepth 20000 in
theorem rvalid_is (x : Value) (v : Vl) (r : Bool) (w : World) (H : VlAt w x v) (hl : v.l.length ≤ 1000) (hp : v.p.length ≤ 1000) (hts : ∀ y ∈ textsV v, y.length ≤ 10000) (h : validV v = r) :
    Calls Try.prog 16 #[x] w fun e w' => e = .returned (.bool r) ∧ Below w.heap.size w w' := by
  subst h; exact rvalid_any x v w H hl hp hts

end Go.Proofs.Ytpfcfadbilaleaa
/-
  PLAIN LEAN, no program in it: operators' rules (layer 10); a variable's text (layer 11); what follows.
-/
namespace Go.Proofs.Ytpfcfadbilaleaa
open Go.Proofs.Ytpfcfadbilaleaau (prefL validB chars textL blen valid_text chars_len)
/-- what is an operator, by its number (0: none) -/
def opZ (n : Nat) : Bool := [0, 43, 35, 46, 47, 59, 63, 38].contains n
structure Rl where
  first : List UInt8
  sep : List UInt8
  named : Bool
  empty : List UInt8
  keep : Bool
/-- an operator's rule -/
def rlN (n : Nat) : Rl :=
  ⟨if n = 0 ∨ n = 43 then [] else [n.toUInt8], if n = 63 then [38] else if n = 46 ∨ n = 47 ∨ n = 59 ∨ n = 38 then [n.toUInt8] else [44],
    decide (n = 59 ∨ n = 63 ∨ n = 38), if n = 63 ∨ n = 38 then [61] else [], decide (n = 43 ∨ n = 35)⟩
/-- a name, and a value behind it -/
def namedL (r : Rl) (nm s : List UInt8) : List UInt8 := if s = [] then nm ++ r.empty else nm ++ 61 :: s
/-- texts, with something between -/
def joinL (sep : List UInt8) : List (List UInt8) → List UInt8
  | [] => []
  | x :: t => x ++ t.flatMap (sep ++ ·)
/-- a list's text, with its star -/
def itemL (r : Rl) (nm : List UInt8) (t : List UInt8) : List UInt8 := if r.named then namedL r nm (encL r.keep t) else encL r.keep t
/-- a pair's, with its star -/
def itemP (r : Rl) (q : List UInt8 × List UInt8) : List UInt8 := if r.named then namedL r (encL true q.1) (encL r.keep q.2) else encL r.keep q.1 ++ 61 :: encL r.keep q.2
/-- a list's, or pairs', text -/
def listP (r : Rl) (x : Sp) (v : Vl) : List UInt8 :=
  if x.star then joinL r.sep (if v.kind = 2 then v.l.map (itemL r x.name) else v.p.map (itemP r))
  else (if r.named then x.name ++ [61] else []) ++ joinL [44] ((textsV v).map (encL r.keep))
/-- a text's -/
def textP (r : Rl) (x : Sp) (s : List UInt8) : List UInt8 :=
  let e := encL r.keep (if 0 < x.max then prefL s x.max else s)
  if r.named then namedL r x.name e else e
def tellP (r : Rl) (x : Sp) (v : Vl) : List UInt8 := if v.kind = 1 then textP r x v.s else listP r x v
/-- a variable's text, whether it is defined, and the error -/
def oneP (n : Nat) (x : Sp) (v : Vl) : List UInt8 × Bool × Int :=
  if opZ n = false ∨ mayX x = false then ([], false, 1)
  else if definedV v = false then ([], false, 0)
  else if 0 < x.max ∧ v.kind ≠ 1 then ([], false, 4)
  else if validV v = false then ([], false, 3)
  else (tellP (rlN n) x v, true, 0)

/-! ### Bytes that may stand in a URI -/
theorem trip_app {a : List UInt8} (h : tripB a = true) (b : List UInt8) : tripB (a ++ b) = true := by
  obtain ⟨x, y, r, rfl, hx, hy⟩ := trip_is h
  rw [List.cons_append, List.cons_append, List.cons_append, trip_three, hx, hy]; rfl
theorem uri_app {k : Bool} : ∀ {a b : List UInt8}, uriB k a = true → uriB k b = true → uriB k (a ++ b) = true
  | [], _, _, h => h
  | a :: t, b, h, g => by
    rw [uriB, Bool.and_eq_true] at h
    rw [List.cons_append, uriB, Bool.and_eq_true]
    refine ⟨?_, uri_app h.2 g⟩
    have h1 := h.1
    rw [Bool.or_eq_true] at h1 ⊢
    exact h1.imp id (fun e => trip_app e b)
theorem uri_true {k : Bool} : ∀ {l : List UInt8}, uriB k l = true → uriB true l = true
  | [], _ => rfl
  | a :: t, h => by
    rw [uriB, Bool.and_eq_true] at h ⊢
    refine ⟨?_, uri_true h.2⟩
    have h1 := h.1
    cases k
    · rw [Bool.false_and, Bool.or_false] at h1
      rw [Bool.or_eq_true] at h1 ⊢
      exact h1.imp (fun e => by rw [e]; rfl) id
    · exact h1
theorem word_un0 : ∀ n : Fin 256, wordN n.val = true → unN n.val = true := by decide +kernel
theorem uri_name' (l : List UInt8) : ∀ q, q ≤ 1 → runN q l = 1 → uriB true l = true := by
  refine by_begin (P := fun l => ∀ q, q ≤ 1 → runN q l = 1 → uriB true l = true) (fun _ _ _ => rfl) (fun b c r hb hc ih q hq h => ?_) (fun a t ht ih q hq h => ?_) l
  · rw [run_trip hq hb hc] at h
    rw [uri_trip hb hc]
    exact ih 1 (Nat.le_refl _) h
  · by_cases hw : wordB a = true
    · rw [run_word hq hw] at h
      have hu : unN a.toNat = true := word_un0 ⟨a.toNat, UInt8.toNat_lt a⟩ hw
      rw [uriB, hu, ih 1 (Nat.le_refl _) h]; rfl
    · by_cases h37 : a = 37
      · subst h37; exact absurd h (run_half hq ht)
      · by_cases h46 : a = 46
        · subst h46
          by_cases h0 : q = 0
          · subst h0; rw [(run_point t).2] at h; cases h
          · obtain rfl : q = 1 := by omega
            rw [(run_point t).1] at h
            rw [uriB, ih 0 (by omega) h]; rfl
        · rw [run_other hq (by simpa using hw) h37 (.inl h46)] at h; cases h
theorem uri_name {l : List UInt8} (h : nameB l = true) : uriB true l = true := uri_name' l 0 (by omega) (name_run.1 h)
theorem uri_enc (k : Bool) (s : List UInt8) : uriB true (encL k s) = true := uri_true (enc_uri k s)
theorem op_cases {n : Nat} (h : opZ n = true) : n = 0 ∨ n = 43 ∨ n = 35 ∨ n = 46 ∨ n = 47 ∨ n = 59 ∨ n = 63 ∨ n = 38 := by simpa [opZ] using h
theorem rule_uri {n : Nat} (h : opZ n = true) : uriB true (rlN n).first = true ∧ uriB true (rlN n).sep = true ∧ uriB true (rlN n).empty = true := by
  rcases op_cases h with rfl | rfl | rfl | rfl | rfl | rfl | rfl | rfl <;> decide
theorem uri_named {r : Rl} {nm s : List UInt8} (hr : uriB true r.empty = true) (hn : uriB true nm = true) (hs : uriB true s = true) : uriB true (namedL r nm s) = true := by
  unfold namedL
  split
  · exact uri_app hn hr
  · exact uri_app hn (uri_app (a := [61]) rfl hs)
theorem uri_join {sep : List UInt8} {l : List (List UInt8)} (hs : uriB true sep = true) (hl : ∀ x ∈ l, uriB true x = true) : uriB true (joinL sep l) = true := by
  cases l with
  | nil => rfl
  | cons x t =>
    refine uri_app (hl x (List.mem_cons_self ..)) ?_
    have ht : ∀ y ∈ t, uriB true y = true := fun y hy => hl y (List.mem_cons_of_mem _ hy)
    clear hl
    induction t with
    | nil => rfl
    | cons y t ih =>
      rw [List.flatMap_cons]
      exact uri_app (uri_app hs (ht y (List.mem_cons_self ..))) (ih (fun z hz => ht z (List.mem_cons_of_mem _ hz)))
theorem uri_one (n : Nat) (x : Sp) (v : Vl) : uriB true (oneP n x v).1 = true := by
  unfold oneP
  split
  · rfl
  rename_i h
  split
  · rfl
  split
  · rfl
  split
  · rfl
  obtain ⟨ho, hm⟩ : opZ n = true ∧ mayX x = true := ⟨by simpa using fun e => h (.inl e), by simpa using fun e => h (.inr e)⟩
  obtain ⟨_, h2, h3⟩ := rule_uri ho
  have hn := uri_name ((may_iff x).1 hm).1
  show uriB true (tellP (rlN n) x v) = true
  unfold tellP
  split
  · unfold textP
    simp only
    split
    · exact uri_named h3 hn (uri_enc _ _)
    · exact uri_enc _ _
  · unfold listP
    split
    · refine uri_join h2 fun y hy => ?_
      split at hy
      · obtain ⟨t, _, rfl⟩ := List.mem_map.1 hy
        unfold itemL
        split
        · exact uri_named h3 hn (uri_enc _ _)
        · exact uri_enc _ _
      · obtain ⟨t, _, rfl⟩ := List.mem_map.1 hy
        unfold itemP
        split
        · exact uri_named h3 (uri_enc _ _) (uri_enc _ _)
        · exact uri_app (uri_enc _ _) (uri_app (a := [61]) rfl (uri_enc _ _))
    · refine uri_app ?_ (uri_join rfl fun y hy => ?_)
      · split
        · exact uri_app hn rfl
        · rfl
      · obtain ⟨t, _, rfl⟩ := List.mem_map.1 hy
        exact uri_enc _ _

/-! ### Told back -/
theorem enc_nil_iff (k : Bool) (s : List UInt8) : encL k s = [] ↔ s = [] := by
  constructor
  · intro h
    have := (enc_len k s).1
    rw [h] at this
    exact List.length_eq_zero_iff.1 (by simpa using this)
  · rintro rfl; rfl
/-- what is behind a name, without the sign that is ahead of it -/
def behind (n : List UInt8) (s : List UInt8) : List UInt8 := (s.drop n.length).drop 1
theorem named_back (r : Rl) (hr : r.empty.length ≤ 1) (hk : r.keep = false) (n s : List UInt8) : (namedL r n (encL r.keep s)).take n.length = n ∧ decL (behind n (namedL r n (encL r.keep s))) = some s := by
  unfold namedL behind
  rw [hk]
  split
  · rename_i h
    obtain rfl := (enc_nil_iff _ _).1 h
    rw [List.take_left, List.drop_left]
    refine ⟨rfl, ?_⟩
    rw [List.drop_eq_nil_of_le hr]; rfl
  · rw [List.take_left, List.drop_left]
    exact ⟨rfl, back_false s⟩
theorem rule_small {n : Nat} (h : opZ n = true) : (rlN n).first.length ≤ 1 ∧ (rlN n).sep.length = 1 ∧ (rlN n).empty.length ≤ 1 := by
  rcases op_cases h with rfl | rfl | rfl | rfl | rfl | rfl | rfl | rfl <;> decide
/-- a text's value -/
def textV (s : List UInt8) : Vl := ⟨1, s, [], []⟩
theorem texts_text (s : List UInt8) : textsV (textV s) = [s] := rfl
theorem defined_text (s : List UInt8) : definedV (textV s) = true := rfl
theorem one_text {n : Nat} {x : Sp} {s : List UInt8} (ho : opZ n = true) (hm : mayX x = true) (hv : validV (textV s) = true) : oneP n x (textV s) = (textP (rlN n) x s, true, 0) := by
  unfold oneP
  rw [if_neg (by simp [ho, hm]), if_neg (by simp [defined_text]), if_neg (by simp [textV]), if_neg (by simp [hv])]
  rfl

/-! ### Errors -/
theorem one_none {n : Nat} {x : Sp} {v : Vl} (ho : opZ n = true) (hm : mayX x = true) (hd : definedV v = false) : oneP n x v = ([], false, 0) := by
  unfold oneP
  rw [if_neg (by simp [ho, hm]), if_pos hd]
theorem one_error {n : Nat} {x : Sp} {v : Vl} (ho : opZ n = true) (hm : mayX x = true) (hd : definedV v = true) :
    (oneP n x v = ([], false, 4) ∧ 0 < x.max ∧ v.kind ≠ 1) ∨ (oneP n x v = ([], false, 3) ∧ ¬(0 < x.max ∧ v.kind ≠ 1) ∧ validV v = false) ∨ (oneP n x v = (tellP (rlN n) x v, true, 0) ∧ ¬(0 < x.max ∧ v.kind ≠ 1) ∧ validV v = true) := by
  unfold oneP
  rw [if_neg (by simp [ho, hm]), if_neg (by simp [hd])]
  by_cases h : 0 < x.max ∧ v.kind ≠ 1
  · rw [if_pos h]; exact .inl ⟨rfl, h⟩
  · rw [if_neg h]
    cases hv : validV v with
    | false => rw [if_pos rfl]; exact .inr (.inl ⟨rfl, h, rfl⟩)
    | true => rw [if_neg (by simp)]; exact .inr (.inr ⟨rfl, h, rfl⟩)
theorem valid_canon (v : Vl) : validV (canonV v) = validV v := by unfold validV; rw [texts_canon]
/-! ### Stars, long prefixes -/
theorem pref_all {s : List UInt8} (hv : validB s = true) {m : Int} (hm : s.length ≤ m.toNat) : prefL s m = s := by
  unfold prefL
  have h := chars_len s
  rw [List.take_of_length_le (by omega)]
  exact valid_text s (by simpa [validB] using hv)
theorem text_star (r : Rl) (x y : Sp) (s : List UInt8) (hn : x.name = y.name) (hx : (if 0 < x.max then prefL s x.max else s) = (if 0 < y.max then prefL s y.max else s)) : textP r x s = textP r y s := by
  unfold textP
  rw [hx, hn]
theorem join_one (sep x : List UInt8) : joinL sep [x] = x := by simp [joinL]
theorem list_star {r : Rl} (hr : r.named = false) (n : List UInt8) {v : Vl} (hk : v.kind = 2) (hl : v.l.length = 1) : listP r ⟨n, 0, true⟩ v = listP r ⟨n, 0, false⟩ v := by
  obtain ⟨t, ht⟩ := List.length_eq_one_iff.1 hl
  have e : textsV v = v.l := by unfold textsV; rw [if_neg (by omega), if_pos hk]
  show joinL r.sep (if v.kind = 2 then v.l.map (itemL r n) else v.p.map (itemP r)) = (if r.named then n ++ [61] else []) ++ joinL [44] ((textsV v).map (encL r.keep))
  rw [if_pos hk, e, ht, hr]
  simp [join_one, itemL, hr]

/-! ### Reserved bytes -/
def cntR (l : List UInt8) : Nat := (l.filter fun c => reN c.toNat).length
theorem cnt_cons (a : UInt8) (t : List UInt8) : cntR (a :: t) = (if reN a.toNat then 1 else 0) + cntR t := by
  unfold cntR
  rw [List.filter_cons]
  split <;> simp [Nat.add_comm]
theorem cnt_app (a b : List UInt8) : cntR (a ++ b) = cntR a + cntR b := by unfold cntR; rw [List.filter_append, List.length_append]
theorem re_fin0 : ∀ n : Fin 256, (hexN n.val = true → reN n.val = false) ∧ (unN n.val = true → reN n.val = false) := by decide +kernel
theorem hex_re {c : UInt8} (h : hexB c = true) : reN c.toNat = false := (re_fin0 ⟨c.toNat, UInt8.toNat_lt c⟩).1 h
theorem cnt_trip {b c : UInt8} (hb : hexB b = true) (hc : hexB c = true) (r : List UInt8) : cntR (37 :: b :: c :: r) = cntR r := by
  have h37 : reN (37 : UInt8).toNat = false := by decide
  rw [cnt_cons, cnt_cons, cnt_cons, h37, hex_re hb, hex_re hc]; simp
theorem cnt_one (a : UInt8) : cntR (oneL a) = 0 := by
  obtain ⟨x, y, e, hx, hy, _⟩ := one_hex a
  rw [e, cnt_trip hx hy]; rfl
theorem cnt_keep (l : List UInt8) : cntR (encL true l) = cntR l := by
  refine by_begin (P := fun l => cntR (encL true l) = cntR l) rfl (fun b c r hb hc ih => ?_) (fun a t ht ih => ?_) l
  · rw [enc_trip hb hc, cnt_trip hb hc, cnt_trip hb hc, ih]
  · rw [enc_byte (by simpa using ht), cnt_app, ih, cnt_cons]
    congr 1
    by_cases h : stayB true a = true
    · rw [if_pos h, cnt_cons]; rfl
    · rw [if_neg h, cnt_one]
      have : reN a.toNat = false := by
        unfold stayB at h
        simp at h
        exact h.2
      rw [this]; rfl
theorem cnt_none (l : List UInt8) : cntR (encL false l) = 0 := by
  induction l with
  | nil => rfl
  | cons a t ih =>
    rw [enc_false_byte, cnt_app, ih]
    by_cases h : stayB false a = true
    · rw [if_pos h, cnt_cons, (re_fin0 ⟨a.toNat, UInt8.toNat_lt a⟩).2 (by simpa [stayB] using h)]; rfl
    · rw [if_neg h, cnt_one]
end Go.Proofs.Ytpfcfadbilaleaa
/-
  WALKS: the reference's rule of an operator (layer 10).
-/
namespace Go.Proofs.Ytpfcfadbilaleaa
open Go.RowKit
set_option maxRecDepth 20000 in
theorem roper_is (n : Int) (b : Bool) (w : World) (h0 : 0 ≤ n) (h1 : n ≤ 255) (h : opZ n.toNat = b) : Calls Try.prog 41 #[.int .u8 n] w fun e w' => e = .returned (.bool b) ∧ w' = w := by
  have e : n = ((n.toNat.toUInt8).toNat : Int) := by rw [u8_of _ (by omega)]; omega
  have hb : operB n.toNat.toUInt8 = b := by
    rw [← h]
    have : ∀ k : Fin 256, operB k.val.toUInt8 = opZ k.val := by decide +kernel
    exact this ⟨n.toNat, by omega⟩
  have := roper_any n.toNat.toUInt8 w
  rw [← e, hb] at this
  exact this
set_option maxRecDepth 20000 in
theorem conv_at (x : Int) (h0 : 0 ≤ x) (h1 : x ≤ 255) (W : World) (n : Nat) (h : n = W.heap.size) :
    (convert 62 9 (.slice (some ⟨n, 0, none⟩) 1 1)).run Try.prog (W.alloc (.cells #[.int .u8 x] 5)) = .ok (.string ⟨#[x.toNat.toUInt8]⟩) (W.alloc (.cells #[.int .u8 x] 5)) := by
  subst h; exact conv_one W x h0 h1
set_option maxRecDepth 20000 in
theorem b_more {w W : World} (h : Below w.heap.size w W) (o : Obj) : Below w.heap.size w (W.alloc o) := h.alloc h.size o
def rlV (r : Rl) : Value := .agg #[.string ⟨r.first.toArray⟩, .string ⟨r.sep.toArray⟩, .bool r.named, .string ⟨r.empty.toArray⟩, .bool r.keep]
set_option maxRecDepth 20000 in
set_option maxHeartbeats 4000000 in
theorem rule_0 (w : World) : Calls Try.prog 18 #[.int .u8 0] w fun e w' => e = .returned (.tuple #[.agg #[.string ⟨#[]⟩, .string ⟨#[44]⟩, .bool false, .string ⟨#[]⟩, .bool false], .bool true]) ∧ Below w.heap.size w w' := by
  have hc := conv_at 0 (by decide) (by decide)
  go_enter Try.func18, Try.ntmps18
  go_wp2_with (go_at_call 41; refine (roper_is 0 true _ (by decide) (by decide) (by decide)).mono ?_; rintro e w1 ⟨rfl, rfl⟩)
  exact bodyPost_ret (v := .tuple #[.agg #[.string ⟨#[]⟩, .string ⟨#[44]⟩, .bool false, .string ⟨#[]⟩, .bool false], .bool true]) (ret_cell_tmp Try.results18 _ _ rfl ((Bx.made w _ _).later _) Try.underlying45 rfl (by kernel_rfl)) rfl ⟨rfl, b_more (b_alloc w _) _⟩
set_option maxRecDepth 20000 in
set_option maxHeartbeats 4000000 in
theorem rule_43 (w : World) : Calls Try.prog 18 #[.int .u8 43] w fun e w' => e = .returned (.tuple #[.agg #[.string ⟨#[]⟩, .string ⟨#[44]⟩, .bool false, .string ⟨#[]⟩, .bool true], .bool true]) ∧ Below w.heap.size w w' := by
  have hc := conv_at 43 (by decide) (by decide)
  go_enter Try.func18, Try.ntmps18
  go_wp2_with (go_at_call 41; refine (roper_is 43 true _ (by decide) (by decide) (by decide)).mono ?_; rintro e w1 ⟨rfl, rfl⟩)
  exact bodyPost_ret (v := .tuple #[.agg #[.string ⟨#[]⟩, .string ⟨#[44]⟩, .bool false, .string ⟨#[]⟩, .bool true], .bool true]) (ret_cell_tmp Try.results18 _ _ rfl ((Bx.made w _ _).later _) Try.underlying45 rfl (by kernel_rfl)) rfl ⟨rfl, b_more (b_alloc w _) _⟩
set_option maxRecDepth 20000 in
set_option maxHeartbeats 4000000 in
theorem rule_35 (w : World) : Calls Try.prog 18 #[.int .u8 35] w fun e w' => e = .returned (.tuple #[.agg #[.string ⟨#[35]⟩, .string ⟨#[44]⟩, .bool false, .string ⟨#[]⟩, .bool true], .bool true]) ∧ Below w.heap.size w w' := by
  have hc := conv_at 35 (by decide) (by decide)
  go_enter Try.func18, Try.ntmps18
  go_wp2_with (go_at_call 41; refine (roper_is 35 true _ (by decide) (by decide) (by decide)).mono ?_; rintro e w1 ⟨rfl, rfl⟩)
  exact bodyPost_ret (v := .tuple #[.agg #[.string ⟨#[35]⟩, .string ⟨#[44]⟩, .bool false, .string ⟨#[]⟩, .bool true], .bool true]) (ret_cell_tmp Try.results18 _ _ rfl (((Bx.made w _ _).later _).later _) Try.underlying45 rfl (by kernel_rfl)) rfl ⟨rfl, b_more (b_more (b_alloc w _) _) _⟩
set_option maxRecDepth 20000 in
set_option maxHeartbeats 4000000 in
theorem rule_46 (w : World) : Calls Try.prog 18 #[.int .u8 46] w fun e w' => e = .returned (.tuple #[.agg #[.string ⟨#[46]⟩, .string ⟨#[46]⟩, .bool false, .string ⟨#[]⟩, .bool false], .bool true]) ∧ Below w.heap.size w w' := by
  have hc := conv_at 46 (by decide) (by decide)
  go_enter Try.func18, Try.ntmps18
  go_wp2_with (go_at_call 41; refine (roper_is 46 true _ (by decide) (by decide) (by decide)).mono ?_; rintro e w1 ⟨rfl, rfl⟩)
  exact bodyPost_ret (v := .tuple #[.agg #[.string ⟨#[46]⟩, .string ⟨#[46]⟩, .bool false, .string ⟨#[]⟩, .bool false], .bool true]) (ret_cell_tmp Try.results18 _ _ rfl ((((Bx.made w _ _).later _).later _).later _) Try.underlying45 rfl (by kernel_rfl)) rfl ⟨rfl, b_more (b_more (b_more (b_alloc w _) _) _) _⟩
set_option maxRecDepth 20000 in
set_option maxHeartbeats 4000000 in
theorem rule_47 (w : World) : Calls Try.prog 18 #[.int .u8 47] w fun e w' => e = .returned (.tuple #[.agg #[.string ⟨#[47]⟩, .string ⟨#[47]⟩, .bool false, .string ⟨#[]⟩, .bool false], .bool true]) ∧ Below w.heap.size w w' := by
  have hc := conv_at 47 (by decide) (by decide)
  go_enter Try.func18, Try.ntmps18
  go_wp2_with (go_at_call 41; refine (roper_is 47 true _ (by decide) (by decide) (by decide)).mono ?_; rintro e w1 ⟨rfl, rfl⟩)
  exact bodyPost_ret (v := .tuple #[.agg #[.string ⟨#[47]⟩, .string ⟨#[47]⟩, .bool false, .string ⟨#[]⟩, .bool false], .bool true]) (ret_cell_tmp Try.results18 _ _ rfl ((((Bx.made w _ _).later _).later _).later _) Try.underlying45 rfl (by kernel_rfl)) rfl ⟨rfl, b_more (b_more (b_more (b_alloc w _) _) _) _⟩
set_option maxRecDepth 20000 in
set_option maxHeartbeats 4000000 in
theorem rule_59 (w : World) : Calls Try.prog 18 #[.int .u8 59] w fun e w' => e = .returned (.tuple #[.agg #[.string ⟨#[59]⟩, .string ⟨#[59]⟩, .bool true, .string ⟨#[]⟩, .bool false], .bool true]) ∧ Below w.heap.size w w' := by
  have hc := conv_at 59 (by decide) (by decide)
  go_enter Try.func18, Try.ntmps18
  go_wp2_with (go_at_call 41; refine (roper_is 59 true _ (by decide) (by decide) (by decide)).mono ?_; rintro e w1 ⟨rfl, rfl⟩)
  exact bodyPost_ret (v := .tuple #[.agg #[.string ⟨#[59]⟩, .string ⟨#[59]⟩, .bool true, .string ⟨#[]⟩, .bool false], .bool true]) (ret_cell_tmp Try.results18 _ _ rfl ((((Bx.made w _ _).later _).later _).later _) Try.underlying45 rfl (by kernel_rfl)) rfl ⟨rfl, b_more (b_more (b_more (b_alloc w _) _) _) _⟩
set_option maxRecDepth 20000 in
set_option maxHeartbeats 4000000 in
theorem rule_63 (w : World) : Calls Try.prog 18 #[.int .u8 63] w fun e w' => e = .returned (.tuple #[.agg #[.string ⟨#[63]⟩, .string ⟨#[38]⟩, .bool true, .string ⟨#[61]⟩, .bool false], .bool true]) ∧ Below w.heap.size w w' := by
  have hc := conv_at 63 (by decide) (by decide)
  go_enter Try.func18, Try.ntmps18
  go_wp2_with (go_at_call 41; refine (roper_is 63 true _ (by decide) (by decide) (by decide)).mono ?_; rintro e w1 ⟨rfl, rfl⟩)
  exact bodyPost_ret (v := .tuple #[.agg #[.string ⟨#[63]⟩, .string ⟨#[38]⟩, .bool true, .string ⟨#[61]⟩, .bool false], .bool true]) (ret_cell_tmp Try.results18 _ _ rfl (((Bx.made w _ _).later _).later _) Try.underlying45 rfl (by kernel_rfl)) rfl ⟨rfl, b_more (b_more (b_alloc w _) _) _⟩
set_option maxRecDepth 20000 in
set_option maxHeartbeats 4000000 in
theorem rule_38 (w : World) : Calls Try.prog 18 #[.int .u8 38] w fun e w' => e = .returned (.tuple #[.agg #[.string ⟨#[38]⟩, .string ⟨#[38]⟩, .bool true, .string ⟨#[61]⟩, .bool false], .bool true]) ∧ Below w.heap.size w w' := by
  have hc := conv_at 38 (by decide) (by decide)
  go_enter Try.func18, Try.ntmps18
  go_wp2_with (go_at_call 41; refine (roper_is 38 true _ (by decide) (by decide) (by decide)).mono ?_; rintro e w1 ⟨rfl, rfl⟩)
  exact bodyPost_ret (v := .tuple #[.agg #[.string ⟨#[38]⟩, .string ⟨#[38]⟩, .bool true, .string ⟨#[61]⟩, .bool false], .bool true]) (ret_cell_tmp Try.results18 _ _ rfl ((((Bx.made w _ _).later _).later _).later _) Try.underlying45 rfl (by kernel_rfl)) rfl ⟨rfl, b_more (b_more (b_more (b_alloc w _) _) _) _⟩
set_option maxRecDepth 20000 in
set_option maxHeartbeats 4000000 in
theorem rule_no (n : Int) (w : World) (h0 : 0 ≤ n) (h1 : n ≤ 255) (h : opZ n.toNat = false) : Calls Try.prog 18 #[.int .u8 n] w fun e w' => e = .returned (.tuple #[.agg #[.string ⟨#[]⟩, .string ⟨#[]⟩, .bool false, .string ⟨#[]⟩, .bool false], .bool false]) ∧ Below w.heap.size w w' := by
  go_enter Try.func18, Try.ntmps18
  go_wp2_with (go_at_call 41; refine (roper_is n false _ h0 h1 h).mono ?_; rintro e w1 ⟨rfl, rfl⟩)
  exact bodyPost_ret (v := .tuple #[.agg #[.string ⟨#[]⟩, .string ⟨#[]⟩, .bool false, .string ⟨#[]⟩, .bool false], .bool false]) (ret_cell_tmp Try.results18 _ _ rfl (Bx.made w _ _) Try.underlying45 rfl (by kernel_rfl)) rfl ⟨rfl, b_alloc w _⟩
set_option maxRecDepth 20000 in
theorem rule_yes (n : Int) (w : World) (h0 : 0 ≤ n) (h : opZ n.toNat = true) : Calls Try.prog 18 #[.int .u8 n] w fun e w' => e = .returned (.tuple #[rlV (rlN n.toNat), .bool true]) ∧ Below w.heap.size w w' := by
  obtain ⟨k, rfl⟩ : ∃ k : Nat, n = (k : Int) := ⟨n.toNat, by omega⟩
  rw [Int.toNat_natCast] at h ⊢
  rcases op_cases h with rfl | rfl | rfl | rfl | rfl | rfl | rfl | rfl
  · exact rule_0 w
  · exact rule_43 w
  · exact rule_35 w
  · exact rule_46 w
  · exact rule_47 w
  · exact rule_59 w
  · exact rule_63 w
  · exact rule_38 w
end Go.Proofs.Ytpfcfadbilaleaa
/-
  WALKS: the program's rules: a map of all operators' rules, and what is looked up there (layer 10).
-/
namespace Go.Proofs.Ytpfcfadbilaleaa
open Go.RowKit Go.Maps

set_option maxRecDepth 20000 in
/-- a map's store where the map is written out: as any store -/
theorem wpList_insert_own {H : Type} {P : Program} (w : World) {ops : Array Oper} {rest : List Oper} {o : Oper} {a : Act} {Q : Exit → Act → World → Prop}
    (hg : o.guard = none) (m x v : Operand) (t : TypeId) (hop : o.op = Op.insert t m x v)
    (k e : TypeId) (K : Keyed P k) (ht : P.underlying t = some (.map k e)) (R : Value → Option (DataW H × List MemPlace)) (b n : Nat) (D : DataW H)
    (hm : a.eval m = .map (some b)) (hown : w.ownsMap P k R b n D) (hn : n < maxLen) (key val : Value) (kl : Lit) (hx : a.eval x = key) (hv : a.eval v = val) (hkey : keyOf P k key = some kl)
    (d : DataW H) (ps : List MemPlace) (hval : R val = some (d, ps))
    (hK : ∀ w', w'.ownsMap P k R b (n + 1) (D.put kl d) → w.grownBy w' (some b) → wpList P ops Q rest (a.put o.dst undef) w') :
    wpList P ops Q (o :: rest) a w := by
  refine wpList_plain hg fun K' hK' => ?_
  obtain ⟨w', hrun, r1, r2⟩ := hown.update K ht hn hkey hval
  unfold Oper.wp
  simp [execOp, hop, hm, hx, hv, hrun, Result.andThen]
  exact hK' _ _ (hK w' r1 r2)
/-- an element reads as itself -/
def selfR (v : Value) : Option (DataW Value × List MemPlace) := some (.held v, [])
set_option maxRecDepth 20000 in
theorem key5 : Keyed Try.prog 5 := int_keyed Try.underlying5
set_option maxRecDepth 20000 in
theorem key_byte (n : Int) (h0 : 0 ≤ n) (h1 : n ≤ 255) : keyOf Try.prog 5 (.int .u8 n) = some (.int .u8 n) := keyOf_int_mk Try.underlying5 (WalkArith.wf_u8 ⟨h0, h1⟩)
def rowD (D : DataW Value) (n : Int) (f s : ByteArray) (nd : Bool) (e : ByteArray) (kp : Bool) : DataW Value := D.put (.int .u8 n) (.held (.agg #[.string f, .string s, .bool nd, .string e, .bool kp]))
def rulesD : DataW Value :=
  rowD (rowD (rowD (rowD (rowD (rowD (rowD (rowD (.map []) 0 ⟨#[]⟩ ⟨#[44]⟩ false ⟨#[]⟩ false) 43 ⟨#[]⟩ ⟨#[44]⟩ false ⟨#[]⟩ true) 35 ⟨#[35]⟩ ⟨#[44]⟩ false ⟨#[]⟩ true) 46 ⟨#[46]⟩ ⟨#[46]⟩ false ⟨#[]⟩ false) 47 ⟨#[47]⟩ ⟨#[47]⟩ false ⟨#[]⟩ false)
    59 ⟨#[59]⟩ ⟨#[59]⟩ true ⟨#[]⟩ false) 63 ⟨#[63]⟩ ⟨#[38]⟩ true ⟨#[61]⟩ false) 38 ⟨#[38]⟩ ⟨#[38]⟩ true ⟨#[61]⟩ false
/-- the map while it is written -/
structure Mp (w W : World) (n : Nat) (D : DataW Value) : Prop where
  bel : Below w.heap.size w W
  map : W.ownsMap Try.prog 5 selfR w.heap.size n D
set_option maxRecDepth 20000 in
theorem Mp.put {w W W' : World} {n : Nat} {D D' : DataW Value} (h : Mp w W n D) (hm : W'.ownsMap Try.prog 5 selfR w.heap.size (n + 1) D') (hg : W.grownBy W' (some w.heap.size)) : Mp w W' (n + 1) D' :=
  ⟨h.bel.grown hg h.bel.size (fun j hj => by cases hj; exact Nat.le_refl _), hm⟩
set_option maxRecDepth 20000 in
set_option maxHeartbeats 4000000 in
theorem rules_any (w : World) : Calls Try.prog 31 #[] w fun e w' => ∃ b, e = .returned (.map (some b)) ∧ w'.ownsMap Try.prog 5 selfR b 8 rulesD ∧ Below w.heap.size w w' := by
  have hmm := @run_makeMap Try.prog
  have M : Mp w (w.alloc (.map #[] 0)) 0 (.map []) := ⟨b_alloc w _, World.ownsMap_made _ _ _ _⟩
  go_enter Try.func31, Try.ntmps31
  go_wp2_with (first
    | (refine wpList_insert_own _ rfl _ _ _ 58 rfl 5 37 key5 Try.underlying58 selfR _ _ _ rfl M.map (by unfold maxLen; omega) _ _ _ rfl rfl (key_byte _ (by decide) (by decide)) _ [] rfl ?_; intro w1 hm hg; replace M := M.put hm hg; clear hm hg)
    | go_in)
  go_ret
  exact ⟨_, rfl, M.map, M.bel⟩
end Go.Proofs.Ytpfcfadbilaleaa
/-
  WALKS: the program's Of: what the map of rules says (layer 10).
-/
namespace Go.Proofs.Ytpfcfadbilaleaa
open Go.RowKit Go.Maps

set_option maxRecDepth 20000 in
theorem put5 {w W : World} {o0 o1 o2 o3 o4 : Value} {t : TypeId} (hb : Below w.heap.size w W) (h : Bx W w.heap.size #[o0, o1, o2, o3, o4] t) (a0 a1 a2 a3 a4 : Value) :
    Bx (((((W.setCell ⟨w.heap.size, 0, none⟩ a0).setCell ⟨w.heap.size, 1, none⟩ a1).setCell ⟨w.heap.size, 2, none⟩ a2).setCell ⟨w.heap.size, 3, none⟩ a3).setCell ⟨w.heap.size, 4, none⟩ a4) w.heap.size #[a0, a1, a2, a3, a4] t ∧ Below w.heap.size w (((((W.setCell ⟨w.heap.size, 0, none⟩ a0).setCell ⟨w.heap.size, 1, none⟩ a1).setCell ⟨w.heap.size, 2, none⟩ a2).setCell ⟨w.heap.size, 3, none⟩ a3).setCell ⟨w.heap.size, 4, none⟩ a4) :=
  ⟨((((h.put 0 a0).put 1 a1).put 2 a2).put 3 a3).put 4 a4, ((((hb.setCell (p := ⟨w.heap.size, 0, none⟩) (by simp) _).setCell (p := ⟨w.heap.size, 1, none⟩) (by simp) _).setCell (p := ⟨w.heap.size, 2, none⟩) (by simp) _).setCell (p := ⟨w.heap.size, 3, none⟩) (by simp) _).setCell (p := ⟨w.heap.size, 4, none⟩) (by simp) _⟩
set_option maxRecDepth 20000 in
theorem cells5 {W : World} {b : Nat} {v0 v1 v2 v3 v4 : Value} {t : TypeId} (h : Bx W b #[v0, v1, v2, v3, v4] t) : W.cell? ⟨b, 0, none⟩ = some v0 ∧ W.cell? ⟨b, 1, none⟩ = some v1 ∧ W.cell? ⟨b, 2, none⟩ = some v2 ∧ W.cell? ⟨b, 3, none⟩ = some v3 ∧ W.cell? ⟨b, 4, none⟩ = some v4 :=
  ⟨h.cell 0 v0 rfl, h.cell 1 v1 rfl, h.cell 2 v2 rfl, h.cell 3 v3 rfl, h.cell 4 v4 rfl⟩
set_option maxRecDepth 20000 in
theorem b_then {w W W' : World} (h : Below w.heap.size w W) (b : Below W.heap.size W W') : Below w.heap.size w W' := h.trans (b.mono h.size)
/-- what the map holds of a byte, a rule and whether it is one -/
def zeroV_k : Value := .agg #[.string ⟨#[]⟩, .string ⟨#[]⟩, .bool false, .string ⟨#[]⟩, .bool false]
set_option maxRecDepth 20000 in
theorem zero24 (w : World) : (zeroValue 37).run Try.prog w = .ok zeroV_k w := by kernel_rfl
set_option maxRecDepth 20000 in
theorem look_at {W : World} {b : Nat} (h : W.ownsMap Try.prog 5 selfR b 8 rulesD) (n : Int) (h0 : 0 ≤ n) (h1 : n ≤ 255) (is : Bool) (v : Value) (hh : Maps.has rulesD (.int .u8 n) = is) (hv : rulesD.atKey (.int .u8 n) (.held zeroV_k) = .held v) :
    (Instr.lookup 58 (.map (some b)) (.int .u8 n) true).run Try.prog W = .ok (.tuple #[v, .bool is]) W := by
  obtain ⟨x, ps, hr, hR⟩ := h.look_ok key5 Try.underlying58 (zero24 W) (zd := .held zeroV_k) (zp := []) rfl (key_byte n h0 h1)
  have hx : x = v := by
    rw [hv] at hR
    unfold selfR at hR
    have e := Option.some.inj hR
    have e1 := congrArg Prod.fst e
    injection e1
  rw [hr, hh, hx]
set_option maxRecDepth 20000 in
theorem lit_ne {a b : Int} (h : a ≠ b) : (Lit.int .u8 a) ≠ .int .u8 b := by intro e; injection e; contradiction
set_option maxRecDepth 20000 in
theorem rules_no (n : Int) (h : opZ n.toNat = false) (h0 : 0 ≤ n) : Maps.has rulesD (.int .u8 n) = false := by
  have hn : n ≠ 0 ∧ n ≠ 43 ∧ n ≠ 35 ∧ n ≠ 46 ∧ n ≠ 47 ∧ n ≠ 59 ∧ n ≠ 63 ∧ n ≠ 38 := by
    refine ⟨?_, ?_, ?_, ?_, ?_, ?_, ?_, ?_⟩ <;> rintro rfl <;> exact absurd h (by decide)
  obtain ⟨n0, n1, n2, n3, n4, n5, n6, n7⟩ := hn
  unfold rulesD rowD
  rw [has_put_other (lit_ne n7), has_put_other (lit_ne n6), has_put_other (lit_ne n5), has_put_other (lit_ne n4), has_put_other (lit_ne n3), has_put_other (lit_ne n2), has_put_other (lit_ne n1), has_put_other (lit_ne n0)]
  rfl
set_option maxRecDepth 20000 in
theorem look_no {W : World} {b : Nat} (h : W.ownsMap Try.prog 5 selfR b 8 rulesD) (n : Int) (h0 : 0 ≤ n) (h1 : n ≤ 255) (ho : opZ n.toNat = false) :
    (Instr.lookup 58 (.map (some b)) (.int .u8 n) true).run Try.prog W = .ok (.tuple #[.agg #[.string ⟨#[]⟩, .string ⟨#[]⟩, .bool false, .string ⟨#[]⟩, .bool false], .bool false]) W :=
  look_at h n h0 h1 false zeroV_k (rules_no n ho h0) (atKey_of_not_has (rules_no n ho h0) _)
set_option maxRecDepth 20000 in
theorem look_yes {W : World} {b : Nat} (h : W.ownsMap Try.prog 5 selfR b 8 rulesD) (n : Int) (h0 : 0 ≤ n) (ho : opZ n.toNat = true) :
    (Instr.lookup 58 (.map (some b)) (.int .u8 n) true).run Try.prog W = .ok (.tuple #[rlV (rlN n.toNat), .bool true]) W := by
  obtain ⟨k, rfl⟩ : ∃ k : Nat, n = (k : Int) := ⟨n.toNat, by omega⟩
  rw [Int.toNat_natCast] at ho ⊢
  rcases op_cases ho with rfl | rfl | rfl | rfl | rfl | rfl | rfl | rfl
  all_goals exact look_at h _ (by decide) (by decide) true _ (by kernel_rfl) (by kernel_rfl)
set_option maxRecDepth 20000 in
set_option maxHeartbeats 4000000 in
theorem pof_at (n : Int) (FA SA EA : ByteArray) (nd kp is : Bool) (w : World)
    (hl : ∀ (W : World) (b : Nat), W.ownsMap Try.prog 5 selfR b 8 rulesD → (Instr.lookup 58 (.map (some b)) (.int .u8 n) true).run Try.prog W = .ok (.tuple #[.agg #[.string FA, .string SA, .bool nd, .string EA, .bool kp], .bool is]) W) :
    Calls Try.prog 14 #[.int .u8 n] w fun e w' => e = .returned (.tuple #[.agg #[.string FA, .string SA, .bool nd, .string EA, .bool kp], .bool is]) ∧ Below w.heap.size w w' := by
  have B0 := b_alloc w (.cells #[.string ⟨#[]⟩, .string ⟨#[]⟩, .bool false, .string ⟨#[]⟩, .bool false] 37)
  have X0 := Bx.made w #[.string ⟨#[]⟩, .string ⟨#[]⟩, .bool false, .string ⟨#[]⟩, .bool false] 37
  go_enter Try.func14, Try.ntmps14
  go_wp2_with (go_at_call 31; refine (rules_any _).mono ?_; rintro e w1 ⟨b, rfl, hm, bb⟩; have hlk := hl w1 b hm; clear hm; replace B0 := b_more (b_then B0 bb) (.cells #[.string FA, .string SA, .bool nd, .string EA, .bool kp] 37); replace X0 := (X0.next bb).later (.cells #[.string FA, .string SA, .bool nd, .string EA, .bool kp] 37); obtain ⟨x0, x1, x2, x3, x4⟩ := cells5 X0; have f0 := X0.free 0; have f1 := X0.free 1; have f2 := X0.free 2; have f3 := X0.free 3; have f4 := X0.free 4; have r := put5 B0 X0 (.string FA) (.string SA) (.bool nd) (.string EA) (.bool kp))
  exact bodyPost_ret (v := .tuple #[.agg #[.string FA, .string SA, .bool nd, .string EA, .bool kp], .bool is]) (ret_cell_tmp Try.results14 _ _ rfl r.1 Try.underlying37 rfl (by kernel_rfl)) rfl ⟨rfl, r.2⟩
set_option maxRecDepth 20000 in
theorem pof_no (n : Int) (w : World) (h0 : 0 ≤ n) (h1 : n ≤ 255) (h : opZ n.toNat = false) : Calls Try.prog 14 #[.int .u8 n] w fun e w' => e = .returned (.tuple #[.agg #[.string ⟨#[]⟩, .string ⟨#[]⟩, .bool false, .string ⟨#[]⟩, .bool false], .bool false]) ∧ Below w.heap.size w w' :=
  pof_at n _ _ _ _ _ _ w (fun _ _ hm => look_no hm n h0 h1 h)
set_option maxRecDepth 20000 in
theorem pof_yes (n : Int) (FA SA EA : ByteArray) (nd kp : Bool) (w : World) (h0 : 0 ≤ n) (h : opZ n.toNat = true) (hr : rlV (rlN n.toNat) = .agg #[.string FA, .string SA, .bool nd, .string EA, .bool kp]) : Calls Try.prog 14 #[.int .u8 n] w fun e w' => e = .returned (.tuple #[.agg #[.string FA, .string SA, .bool nd, .string EA, .bool kp], .bool true]) ∧ Below w.heap.size w w' :=
  pof_at n _ _ _ _ _ _ w (fun _ _ hm => by rw [← hr]; exact look_yes hm n h0 h)
end Go.Proofs.Ytpfcfadbilaleaa
/-
  PLAIN, and rows of texts (layer 11).
-/
namespace Go.Proofs.Ytpfcfadbilaleaa
open Go.RowKit

theorem join_len (sep : List UInt8) (k : Nat) (l : List (List UInt8)) (h : ∀ y ∈ l, y.length ≤ k) : (joinL sep l).length ≤ l.length * (sep.length + k) := by
  cases l with
  | nil => simp [joinL]
  | cons x t =>
    have hx := h x (List.mem_cons_self ..)
    have ht : ∀ y ∈ t, y.length ≤ k := fun y hy => h y (List.mem_cons_of_mem _ hy)
    have hf : (t.flatMap (sep ++ ·)).length ≤ t.length * (sep.length + k) := by
      clear h hx
      induction t with
      | nil => simp
      | cons y t ih =>
        have := ih (fun z hz => ht z (List.mem_cons_of_mem _ hz))
        have hy := ht y (List.mem_cons_self ..)
        simp only [List.flatMap_cons, List.length_append, List.length_cons, Nat.add_mul, Nat.one_mul] at *
        omega
    simp only [joinL, List.length_append, List.length_cons, Nat.add_mul, Nat.one_mul] at *
    omega
/-- a row of texts that grows -/
structure Sr (W0 W : World) (v : Value) (ms : List (List UInt8)) : Prop where
  bel : Below W0.heap.size W0 W
  row : W.ownsRow W0.heap.size 9 1 v ms.length (strsV ms)
section
variable {W0 W W' : World} {v : Value} {ms : List (List UInt8)}
theorem Sr.nil (W : World) : Sr W W (.slice none 0 0) [] := ⟨Below.refl _ _, World.ownsRow_nil _ _ _ _⟩
theorem Sr.next (h : Sr W0 W v ms) (bb : Below W.heap.size W W') : Sr W0 W' v ms := ⟨h.bel.trans (bb.mono h.bel.size), own_later h.row bb⟩
theorem Sr.drew (h : Sr W0 W v ms) : Sr W0 W.drew v ms := h.next (b_drew W)
theorem Sr.alloc (h : Sr W0 W v ms) (o : Obj) : Sr W0 (W.alloc o) v ms := h.next (b_alloc W o)
theorem Sr.snoc {X : ByteArray} {x : List UInt8} {g cap : Nat} {o : Obj} (h : Sr W0 W v ms) (hX : X.data.toList = x) (hg : (W.alloc o).grownBy W' v.ownBlock) (ho : W'.ownsRow W0.heap.size 9 1 (.slice (some ⟨g, 0, none⟩) (ms.length + 1) cap) (ms.length + 1) (strsV ms ++ [.string X])) :
    Sr W0 W' (.slice (some ⟨g, 0, none⟩) (ms ++ [x]).length cap) (ms ++ [x]) := by
  have ha := h.alloc o
  have eX : (⟨x.toArray⟩ : ByteArray) = X := by rw [← hX]
  refine ⟨ha.bel.grown hg ha.bel.size (fun j hj => by have := (h.row.lt j hj).1; omega), ?_⟩
  have hl : (ms ++ [x]).length = ms.length + 1 := by simp
  rw [hl, strs_snoc, eX]
  exact ho
end
theorem news1 {w : World} {X : ByteArray} {t : TypeId} : ∀ j u, [Value.string X][j]? = some u → (w.alloc (.cells #[.string X] t)).cell? ((⟨w.heap.size, 0, none⟩ : Addr).add j) = some u := by
  intro j u hj
  match j, hj with
  | 0, hj => simp at hj; subst hj; simp [Addr.add]
theorem enc_le {k : Bool} {y : List UInt8} (h : y.length ≤ 10000) : (encL k y).length ≤ 30000 := by have := (enc_len k y).2; omega
theorem map_next {α β : Type} (f : α → β) (l : List α) (q : Nat) (h : q < l.length) : (l.take (q + 1)).map f = (l.take q).map f ++ [f l[q]] := by
  rw [List.take_succ_eq_append_getElem h, List.map_append]; rfl
theorem named_le {r : Rl} (he : r.empty.length ≤ 1) (nm s : List UInt8) : (namedL r nm s).length ≤ nm.length + 1 + s.length := by
  unfold namedL
  split
  · rename_i h; subst h; simp; omega
  · simp; omega
theorem item_le {r : Rl} (he : r.empty.length ≤ 1) {nm t : List UInt8} (hn : nm.length ≤ 10000) (ht : t.length ≤ 10000) : (itemL r nm t).length ≤ 60000 := by
  have := enc_le (k := r.keep) ht
  unfold itemL
  split
  · have := named_le he nm (encL r.keep t); omega
  · omega
theorem itemp_le {r : Rl} (he : r.empty.length ≤ 1) {q : List UInt8 × List UInt8} (h1 : q.1.length ≤ 10000) (h2 : q.2.length ≤ 10000) : (itemP r q).length ≤ 70000 := by
  have a1 := enc_le (k := r.keep) h1
  have a2 := enc_le (k := r.keep) h2
  have a3 := enc_le (k := true) h1
  unfold itemP
  split
  · have := named_le he (encL true q.1) (encL r.keep q.2); omega
  · simp; omega
theorem kinds_of (v : Vl) : (definedV v = false ∧ (canonV v).kind = 0) ∨ (definedV v = true ∧ (canonV v).kind = v.kind ∧ (v.kind = 1 ∨ v.kind = 2 ∨ v.kind = 3)) := by
  cases h : definedV v with
  | false => exact .inl ⟨rfl, by rw [canon_no h]; rfl⟩
  | true =>
    refine .inr ⟨rfl, by rw [kind_canon, if_pos h], ?_⟩
    unfold definedV textsV at h
    by_cases h1 : v.kind = 1
    · exact .inl h1
    by_cases h2 : v.kind = 2
    · exact .inr (.inl h2)
    by_cases h3 : v.kind = 3
    · exact .inr (.inr h3)
    rw [if_neg h1, if_neg h2, if_neg h3] at h
    simp at h
end Go.Proofs.Ytpfcfadbilaleaa
