/-
  TEXTS JOINED: V11, I1, R1, J2, J3, U0.
-/
import Derived.Deep.AppendLies
import Derived.Deep.RegionHeld3
import Derived.Laws.StructEq
import Derived.Maps.OwnSet
import Derived.Test.YtpfcfadbilaleaaQ03
import Derived.Test.YtpfcfadbilaleaaQ06
import Derived.Test.YtpfcfadbilaleaaQ07
import Derived.Test.YtpfcfadbilaleaaQ11
import Derived.Test.YtpfcfadbilaleaaQ12
import Derived.Test.YtpfcfadbilaleaaQ13
/-
  WALKS: the reference's Valid, Very (layer 8).
-/
namespace Go.Proofs.Ytpfcfadbilaleaa
open Go.RowKit
open Go.Proofs.Ytpfcfadbilaleaau (validB blen)
def validT (y : List UInt8) : Bool := validB y
def validV (v : Vl) : Bool := (textsV v).all validT
end Go.Proofs.Ytpfcfadbilaleaa
/-
  PLAIN LEAN, no program in it: operators' rules (layer 10); a variable's text (layer 11); what follows.
-/
namespace Go.Proofs.Ytpfcfadbilaleaa
open Go.Proofs.Ytpfcfadbilaleaau (prefL validB chars textL blen)
/-- what is an operator, by its number (0: none) -/
def opZ (n : Nat) : Bool := [0, 43, 35, 46, 47, 59, 63, 38].contains n
structure Rl where
  first : List UInt8
  sep : List UInt8
  named : Bool
  empty : List UInt8
  keep : Bool
/-- an operator's rule -/
def rlN (n : Nat) : Rl :=
  ⟨if n = 0 ∨ n = 43 then [] else [n.toUInt8], if n = 63 then [38] else if n = 46 ∨ n = 47 ∨ n = 59 ∨ n = 38 then [n.toUInt8] else [44],
    decide (n = 59 ∨ n = 63 ∨ n = 38), if n = 63 ∨ n = 38 then [61] else [], decide (n = 43 ∨ n = 35)⟩
/-- a name, and a value behind it -/
def namedL (r : Rl) (nm s : List UInt8) : List UInt8 := if s = [] then nm ++ r.empty else nm ++ 61 :: s
/-- texts, with something between -/
def joinL (sep : List UInt8) : List (List UInt8) → List UInt8
  | [] => []
  | x :: t => x ++ t.flatMap (sep ++ ·)
/-- a list's text, with its star -/
def itemL (r : Rl) (nm : List UInt8) (t : List UInt8) : List UInt8 := if r.named then namedL r nm (encL r.keep t) else encL r.keep t
/-- a pair's, with its star -/
def itemP (r : Rl) (q : List UInt8 × List UInt8) : List UInt8 := if r.named then namedL r (encL true q.1) (encL r.keep q.2) else encL r.keep q.1 ++ 61 :: encL r.keep q.2
/-- a list's, or pairs', text -/
def listP (r : Rl) (x : Sp) (v : Vl) : List UInt8 :=
  if x.star then joinL r.sep (if v.kind = 2 then v.l.map (itemL r x.name) else v.p.map (itemP r))
  else (if r.named then x.name ++ [61] else []) ++ joinL [44] ((textsV v).map (encL r.keep))
/-- a text's -/
def textP (r : Rl) (x : Sp) (s : List UInt8) : List UInt8 :=
  let e := encL r.keep (if 0 < x.max then prefL s x.max else s)
  if r.named then namedL r x.name e else e
def tellP (r : Rl) (x : Sp) (v : Vl) : List UInt8 := if v.kind = 1 then textP r x v.s else listP r x v
/-- a variable's text, whether it is defined, and the error -/
def oneP (n : Nat) (x : Sp) (v : Vl) : List UInt8 × Bool × Int :=
  if opZ n = false ∨ mayX x = false then ([], false, 1)
  else if definedV v = false then ([], false, 0)
  else if 0 < x.max ∧ v.kind ≠ 1 then ([], false, 4)
  else if validV v = false then ([], false, 3)
  else (tellP (rlN n) x v, true, 0)

/-! ### Bytes that may stand in a URI -/
theorem trip_app {a : List UInt8} (h : tripB a = true) (b : List UInt8) : tripB (a ++ b) = true := by
  obtain ⟨x, y, r, rfl, hx, hy⟩ := trip_is h
  rw [List.cons_append, List.cons_append, List.cons_append, trip_three, hx, hy]; rfl
theorem uri_app {k : Bool} : ∀ {a b : List UInt8}, uriB k a = true → uriB k b = true → uriB k (a ++ b) = true
  | [], _, _, h => h
  | a :: t, b, h, g => by
    rw [uriB, Bool.and_eq_true] at h
    rw [List.cons_append, uriB, Bool.and_eq_true]
    refine ⟨?_, uri_app h.2 g⟩
    have h1 := h.1
    rw [Bool.or_eq_true] at h1 ⊢
    exact h1.imp id (fun e => trip_app e b)
theorem uri_true {k : Bool} : ∀ {l : List UInt8}, uriB k l = true → uriB true l = true
  | [], _ => rfl
  | a :: t, h => by
    rw [uriB, Bool.and_eq_true] at h ⊢
    refine ⟨?_, uri_true h.2⟩
    have h1 := h.1
    cases k
    · rw [Bool.false_and, Bool.or_false] at h1
      rw [Bool.or_eq_true] at h1 ⊢
      exact h1.imp (fun e => by rw [e]; rfl) id
    · exact h1
theorem word_un0 : ∀ n : Fin 256, wordN n.val = true → unN n.val = true := by decide +kernel
theorem uri_name' (l : List UInt8) : ∀ q, q ≤ 1 → runN q l = 1 → uriB true l = true := by
  refine by_begin (P := fun l => ∀ q, q ≤ 1 → runN q l = 1 → uriB true l = true) (fun _ _ _ => rfl) (fun b c r hb hc ih q hq h => ?_) (fun a t ht ih q hq h => ?_) l
  · rw [run_trip hq hb hc] at h
    rw [uri_trip hb hc]
    exact ih 1 (Nat.le_refl _) h
  · by_cases hw : wordB a = true
    · rw [run_word hq hw] at h
      have hu : unN a.toNat = true := word_un0 ⟨a.toNat, UInt8.toNat_lt a⟩ hw
      rw [uriB, hu, ih 1 (Nat.le_refl _) h]; rfl
    · by_cases h37 : a = 37
      · subst h37; exact absurd h (run_half hq ht)
      · by_cases h46 : a = 46
        · subst h46
          by_cases h0 : q = 0
          · subst h0; rw [(run_point t).2] at h; cases h
          · obtain rfl : q = 1 := by omega
            rw [(run_point t).1] at h
            rw [uriB, ih 0 (by omega) h]; rfl
        · rw [run_other hq (by simpa using hw) h37 (.inl h46)] at h; cases h
theorem uri_name {l : List UInt8} (h : nameB l = true) : uriB true l = true := uri_name' l 0 (by omega) (name_run.1 h)
theorem uri_enc (k : Bool) (s : List UInt8) : uriB true (encL k s) = true := uri_true (enc_uri k s)
theorem op_cases {n : Nat} (h : opZ n = true) : n = 0 ∨ n = 43 ∨ n = 35 ∨ n = 46 ∨ n = 47 ∨ n = 59 ∨ n = 63 ∨ n = 38 := by simpa [opZ] using h
theorem rule_uri {n : Nat} (h : opZ n = true) : uriB true (rlN n).first = true ∧ uriB true (rlN n).sep = true ∧ uriB true (rlN n).empty = true := by
  rcases op_cases h with rfl | rfl | rfl | rfl | rfl | rfl | rfl | rfl <;> decide
theorem uri_named {r : Rl} {nm s : List UInt8} (hr : uriB true r.empty = true) (hn : uriB true nm = true) (hs : uriB true s = true) : uriB true (namedL r nm s) = true := by
  unfold namedL
  split
  · exact uri_app hn hr
  · exact uri_app hn (uri_app (a := [61]) rfl hs)
theorem uri_join {sep : List UInt8} {l : List (List UInt8)} (hs : uriB true sep = true) (hl : ∀ x ∈ l, uriB true x = true) : uriB true (joinL sep l) = true := by
  cases l with
  | nil => rfl
  | cons x t =>
    refine uri_app (hl x (List.mem_cons_self ..)) ?_
    have ht : ∀ y ∈ t, uriB true y = true := fun y hy => hl y (List.mem_cons_of_mem _ hy)
    clear hl
    induction t with
    | nil => rfl
    | cons y t ih =>
      rw [List.flatMap_cons]
      exact uri_app (uri_app hs (ht y (List.mem_cons_self ..))) (ih (fun z hz => ht z (List.mem_cons_of_mem _ hz)))
theorem uri_one (n : Nat) (x : Sp) (v : Vl) : uriB true (oneP n x v).1 = true := by
  unfold oneP
  split
  · rfl
  rename_i h
  split
  · rfl
  split
  · rfl
  split
  · rfl
  obtain ⟨ho, hm⟩ : opZ n = true ∧ mayX x = true := ⟨by simpa using fun e => h (.inl e), by simpa using fun e => h (.inr e)⟩
  obtain ⟨_, h2, h3⟩ := rule_uri ho
  have hn := uri_name ((may_iff x).1 hm).1
  show uriB true (tellP (rlN n) x v) = true
  unfold tellP
  split
  · unfold textP
    simp only
    split
    · exact uri_named h3 hn (uri_enc _ _)
    · exact uri_enc _ _
  · unfold listP
    split
    · refine uri_join h2 fun y hy => ?_
      split at hy
      · obtain ⟨t, _, rfl⟩ := List.mem_map.1 hy
        unfold itemL
        split
        · exact uri_named h3 hn (uri_enc _ _)
        · exact uri_enc _ _
      · obtain ⟨t, _, rfl⟩ := List.mem_map.1 hy
        unfold itemP
        split
        · exact uri_named h3 (uri_enc _ _) (uri_enc _ _)
        · exact uri_app (uri_enc _ _) (uri_app (a := [61]) rfl (uri_enc _ _))
    · refine uri_app ?_ (uri_join rfl fun y hy => ?_)
      · split
        · exact uri_app hn rfl
        · rfl
      · obtain ⟨t, _, rfl⟩ := List.mem_map.1 hy
        exact uri_enc _ _

/-! ### Told back -/
/-- what is behind a name, without the sign that is ahead of it -/
def behind (n : List UInt8) (s : List UInt8) : List UInt8 := (s.drop n.length).drop 1
theorem rule_small {n : Nat} (h : opZ n = true) : (rlN n).first.length ≤ 1 ∧ (rlN n).sep.length = 1 ∧ (rlN n).empty.length ≤ 1 := by
  rcases op_cases h with rfl | rfl | rfl | rfl | rfl | rfl | rfl | rfl <;> decide
/-- a text's value -/
def textV (s : List UInt8) : Vl := ⟨1, s, [], []⟩
theorem texts_text (s : List UInt8) : textsV (textV s) = [s] := rfl
/-! ### Errors -/
/-! ### Stars, long prefixes -/
/-! ### Reserved bytes -/
end Go.Proofs.Ytpfcfadbilaleaa
/-
  WALKS: the reference's rule of an operator (layer 10).
-/
namespace Go.Proofs.Ytpfcfadbilaleaa
open Go.RowKit
set_option maxRecDepth 20000 in
theorem b_more {w W : World} (h : Below w.heap.size w W) (o : Obj) : Below w.heap.size w (W.alloc o) := h.alloc h.size o
def rlV (r : Rl) : Value := .agg #[.string ⟨r.first.toArray⟩, .string ⟨r.sep.toArray⟩, .bool r.named, .string ⟨r.empty.toArray⟩, .bool r.keep]
end Go.Proofs.Ytpfcfadbilaleaa
/-
  WALKS: the program's rules: a map of all operators' rules, and what is looked up there (layer 10).
-/
namespace Go.Proofs.Ytpfcfadbilaleaa
open Go.RowKit Go.Maps

set_option maxRecDepth 20000 in
/-- a map's store where the map is written out: as any store -/
theorem wpList_insert_own {H : Type} {P : Program} (w : World) {ops : Array Oper} {rest : List Oper} {o : Oper} {a : Act} {Q : Exit → Act → World → Prop}
    (hg : o.guard = none) (m x v : Operand) (t : TypeId) (hop : o.op = Op.insert t m x v)
    (k e : TypeId) (K : Keyed P k) (ht : P.underlying t = some (.map k e)) (R : Value → Option (DataW H × List MemPlace)) (b n : Nat) (D : DataW H)
    (hm : a.eval m = .map (some b)) (hown : w.ownsMap P k R b n D) (hn : n < maxLen) (key val : Value) (kl : Lit) (hx : a.eval x = key) (hv : a.eval v = val) (hkey : keyOf P k key = some kl)
    (d : DataW H) (ps : List MemPlace) (hval : R val = some (d, ps))
    (hK : ∀ w', w'.ownsMap P k R b (n + 1) (D.put kl d) → w.grownBy w' (some b) → wpList P ops Q rest (a.put o.dst undef) w') :
    wpList P ops Q (o :: rest) a w := by
  refine wpList_plain hg fun K' hK' => ?_
  obtain ⟨w', hrun, r1, r2⟩ := hown.update K ht hn hkey hval
  unfold Oper.wp
  simp [execOp, hop, hm, hx, hv, hrun, Result.andThen]
  exact hK' _ _ (hK w' r1 r2)
/-- an element reads as itself -/
def selfR (v : Value) : Option (DataW Value × List MemPlace) := some (.held v, [])
set_option maxRecDepth 20000 in
theorem key5 : Keyed Try.prog 5 := int_keyed Try.underlying5
set_option maxRecDepth 20000 in
theorem key_byte (n : Int) (h0 : 0 ≤ n) (h1 : n ≤ 255) : keyOf Try.prog 5 (.int .u8 n) = some (.int .u8 n) := keyOf_int_mk Try.underlying5 (WalkArith.wf_u8 ⟨h0, h1⟩)
def rowD (D : DataW Value) (n : Int) (f s : ByteArray) (nd : Bool) (e : ByteArray) (kp : Bool) : DataW Value := D.put (.int .u8 n) (.held (.agg #[.string f, .string s, .bool nd, .string e, .bool kp]))
def rulesD : DataW Value :=
  rowD (rowD (rowD (rowD (rowD (rowD (rowD (rowD (.map []) 0 ⟨#[]⟩ ⟨#[44]⟩ false ⟨#[]⟩ false) 43 ⟨#[]⟩ ⟨#[44]⟩ false ⟨#[]⟩ true) 35 ⟨#[35]⟩ ⟨#[44]⟩ false ⟨#[]⟩ true) 46 ⟨#[46]⟩ ⟨#[46]⟩ false ⟨#[]⟩ false) 47 ⟨#[47]⟩ ⟨#[47]⟩ false ⟨#[]⟩ false)
    59 ⟨#[59]⟩ ⟨#[59]⟩ true ⟨#[]⟩ false) 63 ⟨#[63]⟩ ⟨#[38]⟩ true ⟨#[61]⟩ false) 38 ⟨#[38]⟩ ⟨#[38]⟩ true ⟨#[61]⟩ false
/-- the map while it is written -/
structure Mp (w W : World) (n : Nat) (D : DataW Value) : Prop where
  bel : Below w.heap.size w W
  map : W.ownsMap Try.prog 5 selfR w.heap.size n D
set_option maxRecDepth 20000 in
theorem Mp.put {w W W' : World} {n : Nat} {D D' : DataW Value} (h : Mp w W n D) (hm : W'.ownsMap Try.prog 5 selfR w.heap.size (n + 1) D') (hg : W.grownBy W' (some w.heap.size)) : Mp w W' (n + 1) D' :=
  ⟨h.bel.grown hg h.bel.size (fun j hj => by cases hj; exact Nat.le_refl _), hm⟩
set_option maxRecDepth 20000 in
set_option maxHeartbeats 4000000 in
theorem rules_any (w : World) : Calls Try.prog 31 #[] w fun e w' => ∃ b, e = .returned (.map (some b)) ∧ w'.ownsMap Try.prog 5 selfR b 8 rulesD ∧ Below w.heap.size w w' := by
  have hmm := @run_makeMap Try.prog
  have M : Mp w (w.alloc (.map #[] 0)) 0 (.map []) := ⟨b_alloc w _, World.ownsMap_made _ _ _ _⟩
  go_enter Try.func31, Try.ntmps31
  go_wp2_with (first
    | (refine wpList_insert_own _ rfl _ _ _ 58 rfl 5 37 key5 Try.underlying58 selfR _ _ _ rfl M.map (by unfold maxLen; omega) _ _ _ rfl rfl (key_byte _ (by decide) (by decide)) _ [] rfl ?_; intro w1 hm hg; replace M := M.put hm hg; clear hm hg)
    | go_in)
  go_ret
  exact ⟨_, rfl, M.map, M.bel⟩
end Go.Proofs.Ytpfcfadbilaleaa
/-
  WALKS: the program's Of: what the map of rules says (layer 10).
-/
namespace Go.Proofs.Ytpfcfadbilaleaa
open Go.RowKit Go.Maps

set_option maxRecDepth 20000 in
theorem put5 {w W : World} {o0 o1 o2 o3 o4 : Value} {t : TypeId} (hb : Below w.heap.size w W) (h : Bx W w.heap.size #[o0, o1, o2, o3, o4] t) (a0 a1 a2 a3 a4 : Value) :
    Bx (((((W.setCell ⟨w.heap.size, 0, none⟩ a0).setCell ⟨w.heap.size, 1, none⟩ a1).setCell ⟨w.heap.size, 2, none⟩ a2).setCell ⟨w.heap.size, 3, none⟩ a3).setCell ⟨w.heap.size, 4, none⟩ a4) w.heap.size #[a0, a1, a2, a3, a4] t ∧ Below w.heap.size w (((((W.setCell ⟨w.heap.size, 0, none⟩ a0).setCell ⟨w.heap.size, 1, none⟩ a1).setCell ⟨w.heap.size, 2, none⟩ a2).setCell ⟨w.heap.size, 3, none⟩ a3).setCell ⟨w.heap.size, 4, none⟩ a4) :=
  ⟨((((h.put 0 a0).put 1 a1).put 2 a2).put 3 a3).put 4 a4, ((((hb.setCell (p := ⟨w.heap.size, 0, none⟩) (by simp) _).setCell (p := ⟨w.heap.size, 1, none⟩) (by simp) _).setCell (p := ⟨w.heap.size, 2, none⟩) (by simp) _).setCell (p := ⟨w.heap.size, 3, none⟩) (by simp) _).setCell (p := ⟨w.heap.size, 4, none⟩) (by simp) _⟩
set_option maxRecDepth 20000 in
theorem cells5 {W : World} {b : Nat} {v0 v1 v2 v3 v4 : Value} {t : TypeId} (h : Bx W b #[v0, v1, v2, v3, v4] t) : W.cell? ⟨b, 0, none⟩ = some v0 ∧ W.cell? ⟨b, 1, none⟩ = some v1 ∧ W.cell? ⟨b, 2, none⟩ = some v2 ∧ W.cell? ⟨b, 3, none⟩ = some v3 ∧ W.cell? ⟨b, 4, none⟩ = some v4 :=
  ⟨h.cell 0 v0 rfl, h.cell 1 v1 rfl, h.cell 2 v2 rfl, h.cell 3 v3 rfl, h.cell 4 v4 rfl⟩
set_option maxRecDepth 20000 in
theorem b_then {w W W' : World} (h : Below w.heap.size w W) (b : Below W.heap.size W W') : Below w.heap.size w W' := h.trans (b.mono h.size)
/-- what the map holds of a byte, a rule and whether it is one -/
def zeroV_k : Value := .agg #[.string ⟨#[]⟩, .string ⟨#[]⟩, .bool false, .string ⟨#[]⟩, .bool false]
set_option maxRecDepth 20000 in
theorem zero24 (w : World) : (zeroValue 37).run Try.prog w = .ok zeroV_k w := by kernel_rfl
set_option maxRecDepth 20000 in
theorem look_at {W : World} {b : Nat} (h : W.ownsMap Try.prog 5 selfR b 8 rulesD) (n : Int) (h0 : 0 ≤ n) (h1 : n ≤ 255) (is : Bool) (v : Value) (hh : Maps.has rulesD (.int .u8 n) = is) (hv : rulesD.atKey (.int .u8 n) (.held zeroV_k) = .held v) :
    (Instr.lookup 58 (.map (some b)) (.int .u8 n) true).run Try.prog W = .ok (.tuple #[v, .bool is]) W := by
  obtain ⟨x, ps, hr, hR⟩ := h.look_ok key5 Try.underlying58 (zero24 W) (zd := .held zeroV_k) (zp := []) rfl (key_byte n h0 h1)
  have hx : x = v := by
    rw [hv] at hR
    unfold selfR at hR
    have e := Option.some.inj hR
    have e1 := congrArg Prod.fst e
    injection e1
  rw [hr, hh, hx]
set_option maxRecDepth 20000 in
theorem lit_ne {a b : Int} (h : a ≠ b) : (Lit.int .u8 a) ≠ .int .u8 b := by intro e; injection e; contradiction
set_option maxRecDepth 20000 in
theorem rules_no (n : Int) (h : opZ n.toNat = false) (h0 : 0 ≤ n) : Maps.has rulesD (.int .u8 n) = false := by
  have hn : n ≠ 0 ∧ n ≠ 43 ∧ n ≠ 35 ∧ n ≠ 46 ∧ n ≠ 47 ∧ n ≠ 59 ∧ n ≠ 63 ∧ n ≠ 38 := by
    refine ⟨?_, ?_, ?_, ?_, ?_, ?_, ?_, ?_⟩ <;> rintro rfl <;> exact absurd h (by decide)
  obtain ⟨n0, n1, n2, n3, n4, n5, n6, n7⟩ := hn
  unfold rulesD rowD
  rw [has_put_other (lit_ne n7), has_put_other (lit_ne n6), has_put_other (lit_ne n5), has_put_other (lit_ne n4), has_put_other (lit_ne n3), has_put_other (lit_ne n2), has_put_other (lit_ne n1), has_put_other (lit_ne n0)]
  rfl
set_option maxRecDepth 20000 in
theorem look_no {W : World} {b : Nat} (h : W.ownsMap Try.prog 5 selfR b 8 rulesD) (n : Int) (h0 : 0 ≤ n) (h1 : n ≤ 255) (ho : opZ n.toNat = false) :
    (Instr.lookup 58 (.map (some b)) (.int .u8 n) true).run Try.prog W = .ok (.tuple #[.agg #[.string ⟨#[]⟩, .string ⟨#[]⟩, .bool false, .string ⟨#[]⟩, .bool false], .bool false]) W :=
  look_at h n h0 h1 false zeroV_k (rules_no n ho h0) (atKey_of_not_has (rules_no n ho h0) _)
set_option maxRecDepth 20000 in
theorem look_yes {W : World} {b : Nat} (h : W.ownsMap Try.prog 5 selfR b 8 rulesD) (n : Int) (h0 : 0 ≤ n) (ho : opZ n.toNat = true) :
    (Instr.lookup 58 (.map (some b)) (.int .u8 n) true).run Try.prog W = .ok (.tuple #[rlV (rlN n.toNat), .bool true]) W := by
  obtain ⟨k, rfl⟩ : ∃ k : Nat, n = (k : Int) := ⟨n.toNat, by omega⟩
  rw [Int.toNat_natCast] at ho ⊢
  rcases op_cases ho with rfl | rfl | rfl | rfl | rfl | rfl | rfl | rfl
  all_goals exact look_at h _ (by decide) (by decide) true _ (by kernel_rfl) (by kernel_rfl)
set_option maxRecDepth 20000 in
set_option maxHeartbeats 4000000 in
theorem pof_at (n : Int) (FA SA EA : ByteArray) (nd kp is : Bool) (w : World)
    (hl : ∀ (W : World) (b : Nat), W.ownsMap Try.prog 5 selfR b 8 rulesD → (Instr.lookup 58 (.map (some b)) (.int .u8 n) true).run Try.prog W = .ok (.tuple #[.agg #[.string FA, .string SA, .bool nd, .string EA, .bool kp], .bool is]) W) :
    Calls Try.prog 14 #[.int .u8 n] w fun e w' => e = .returned (.tuple #[.agg #[.string FA, .string SA, .bool nd, .string EA, .bool kp], .bool is]) ∧ Below w.heap.size w w' := by
  have B0 := b_alloc w (.cells #[.string ⟨#[]⟩, .string ⟨#[]⟩, .bool false, .string ⟨#[]⟩, .bool false] 37)
  have X0 := Bx.made w #[.string ⟨#[]⟩, .string ⟨#[]⟩, .bool false, .string ⟨#[]⟩, .bool false] 37
  go_enter Try.func14, Try.ntmps14
  go_wp2_with (go_at_call 31; refine (rules_any _).mono ?_; rintro e w1 ⟨b, rfl, hm, bb⟩; have hlk := hl w1 b hm; clear hm; replace B0 := b_more (b_then B0 bb) (.cells #[.string FA, .string SA, .bool nd, .string EA, .bool kp] 37); replace X0 := (X0.next bb).later (.cells #[.string FA, .string SA, .bool nd, .string EA, .bool kp] 37); obtain ⟨x0, x1, x2, x3, x4⟩ := cells5 X0; have f0 := X0.free 0; have f1 := X0.free 1; have f2 := X0.free 2; have f3 := X0.free 3; have f4 := X0.free 4; have r := put5 B0 X0 (.string FA) (.string SA) (.bool nd) (.string EA) (.bool kp))
  exact bodyPost_ret (v := .tuple #[.agg #[.string FA, .string SA, .bool nd, .string EA, .bool kp], .bool is]) (ret_cell_tmp Try.results14 _ _ rfl r.1 Try.underlying37 rfl (by kernel_rfl)) rfl ⟨rfl, r.2⟩
set_option maxRecDepth 20000 in
theorem pof_no (n : Int) (w : World) (h0 : 0 ≤ n) (h1 : n ≤ 255) (h : opZ n.toNat = false) : Calls Try.prog 14 #[.int .u8 n] w fun e w' => e = .returned (.tuple #[.agg #[.string ⟨#[]⟩, .string ⟨#[]⟩, .bool false, .string ⟨#[]⟩, .bool false], .bool false]) ∧ Below w.heap.size w w' :=
  pof_at n _ _ _ _ _ _ w (fun _ _ hm => look_no hm n h0 h1 h)
set_option maxRecDepth 20000 in
theorem pof_yes (n : Int) (FA SA EA : ByteArray) (nd kp : Bool) (w : World) (h0 : 0 ≤ n) (h : opZ n.toNat = true) (hr : rlV (rlN n.toNat) = .agg #[.string FA, .string SA, .bool nd, .string EA, .bool kp]) : Calls Try.prog 14 #[.int .u8 n] w fun e w' => e = .returned (.tuple #[.agg #[.string FA, .string SA, .bool nd, .string EA, .bool kp], .bool true]) ∧ Below w.heap.size w w' :=
  pof_at n _ _ _ _ _ _ w (fun _ _ hm => by rw [← hr]; exact look_yes hm n h0 h)
end Go.Proofs.Ytpfcfadbilaleaa
/-
  PLAIN, and rows of texts (layer 11).
-/
namespace Go.Proofs.Ytpfcfadbilaleaa
open Go.RowKit

theorem join_len (sep : List UInt8) (k : Nat) (l : List (List UInt8)) (h : ∀ y ∈ l, y.length ≤ k) : (joinL sep l).length ≤ l.length * (sep.length + k) := by
  cases l with
  | nil => simp [joinL]
  | cons x t =>
    have hx := h x (List.mem_cons_self ..)
    have ht : ∀ y ∈ t, y.length ≤ k := fun y hy => h y (List.mem_cons_of_mem _ hy)
    have hf : (t.flatMap (sep ++ ·)).length ≤ t.length * (sep.length + k) := by
      clear h hx
      induction t with
      | nil => simp
      | cons y t ih =>
        have := ih (fun z hz => ht z (List.mem_cons_of_mem _ hz))
        have hy := ht y (List.mem_cons_self ..)
        simp only [List.flatMap_cons, List.length_append, List.length_cons, Nat.add_mul, Nat.one_mul] at *
        omega
    simp only [joinL, List.length_append, List.length_cons, Nat.add_mul, Nat.one_mul] at *
    omega
/-- a row of texts that grows -/
structure Sr (W0 W : World) (v : Value) (ms : List (List UInt8)) : Prop where
  bel : Below W0.heap.size W0 W
  row : W.ownsRow W0.heap.size 9 1 v ms.length (strsV ms)
section
variable {W0 W W' : World} {v : Value} {ms : List (List UInt8)}
theorem Sr.nil (W : World) : Sr W W (.slice none 0 0) [] := ⟨Below.refl _ _, World.ownsRow_nil _ _ _ _⟩
theorem Sr.next (h : Sr W0 W v ms) (bb : Below W.heap.size W W') : Sr W0 W' v ms := ⟨h.bel.trans (bb.mono h.bel.size), own_later h.row bb⟩
theorem Sr.drew (h : Sr W0 W v ms) : Sr W0 W.drew v ms := h.next (b_drew W)
theorem Sr.alloc (h : Sr W0 W v ms) (o : Obj) : Sr W0 (W.alloc o) v ms := h.next (b_alloc W o)
theorem Sr.snoc {X : ByteArray} {x : List UInt8} {g cap : Nat} {o : Obj} (h : Sr W0 W v ms) (hX : X.data.toList = x) (hg : (W.alloc o).grownBy W' v.ownBlock) (ho : W'.ownsRow W0.heap.size 9 1 (.slice (some ⟨g, 0, none⟩) (ms.length + 1) cap) (ms.length + 1) (strsV ms ++ [.string X])) :
    Sr W0 W' (.slice (some ⟨g, 0, none⟩) (ms ++ [x]).length cap) (ms ++ [x]) := by
  have ha := h.alloc o
  have eX : (⟨x.toArray⟩ : ByteArray) = X := by rw [← hX]
  refine ⟨ha.bel.grown hg ha.bel.size (fun j hj => by have := (h.row.lt j hj).1; omega), ?_⟩
  have hl : (ms ++ [x]).length = ms.length + 1 := by simp
  rw [hl, strs_snoc, eX]
  exact ho
end
theorem news1 {w : World} {X : ByteArray} {t : TypeId} : ∀ j u, [Value.string X][j]? = some u → (w.alloc (.cells #[.string X] t)).cell? ((⟨w.heap.size, 0, none⟩ : Addr).add j) = some u := by
  intro j u hj
  match j, hj with
  | 0, hj => simp at hj; subst hj; simp [Addr.add]
theorem enc_le {k : Bool} {y : List UInt8} (h : y.length ≤ 10000) : (encL k y).length ≤ 30000 := by have := (enc_len k y).2; omega
theorem map_next {α β : Type} (f : α → β) (l : List α) (q : Nat) (h : q < l.length) : (l.take (q + 1)).map f = (l.take q).map f ++ [f l[q]] := by
  rw [List.take_succ_eq_append_getElem h, List.map_append]; rfl
theorem named_le {r : Rl} (he : r.empty.length ≤ 1) (nm s : List UInt8) : (namedL r nm s).length ≤ nm.length + 1 + s.length := by
  unfold namedL
  split
  · rename_i h; subst h; simp; omega
  · simp; omega
theorem item_le {r : Rl} (he : r.empty.length ≤ 1) {nm t : List UInt8} (hn : nm.length ≤ 10000) (ht : t.length ≤ 10000) : (itemL r nm t).length ≤ 60000 := by
  have := enc_le (k := r.keep) ht
  unfold itemL
  split
  · have := named_le he nm (encL r.keep t); omega
  · omega
theorem itemp_le {r : Rl} (he : r.empty.length ≤ 1) {q : List UInt8 × List UInt8} (h1 : q.1.length ≤ 10000) (h2 : q.2.length ≤ 10000) : (itemP r q).length ≤ 70000 := by
  have a1 := enc_le (k := r.keep) h1
  have a2 := enc_le (k := r.keep) h2
  have a3 := enc_le (k := true) h1
  unfold itemP
  split
  · have := named_le he (encL true q.1) (encL r.keep q.2); omega
  · simp; omega
theorem kinds_of (v : Vl) : (definedV v = false ∧ (canonV v).kind = 0) ∨ (definedV v = true ∧ (canonV v).kind = v.kind ∧ (v.kind = 1 ∨ v.kind = 2 ∨ v.kind = 3)) := by
  cases h : definedV v with
  | false => exact .inl ⟨rfl, by rw [canon_no h]; rfl⟩
  | true =>
    refine .inr ⟨rfl, by rw [kind_canon, if_pos h], ?_⟩
    unfold definedV textsV at h
    by_cases h1 : v.kind = 1
    · exact .inl h1
    by_cases h2 : v.kind = 2
    · exact .inr (.inl h2)
    by_cases h3 : v.kind = 3
    · exact .inr (.inr h3)
    rw [if_neg h1, if_neg h2, if_neg h3] at h
    simp at h
end Go.Proofs.Ytpfcfadbilaleaa
