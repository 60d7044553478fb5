/-
  Joined by program out of the texts G1 R0 G2 P1.
-/
import Derived.Test.YtjbnofljoijnmaaDoorShelf
import Derived.Test.YtjbnofljoijnmaaDoorW3
import Derived.Lib.AppendIntMem
import Derived.Test.YtjbnofljoijnmaaDoorX2
import Derived.Test.YtjbnofljoijnmaaDoorY08
/-
  THE TABLE OF TENS THAT strconv READS: what the walks ask of the world; and how a builder and Itoa answer.
-/
namespace Go.Proofs.YtjbnofljoijnmaaDoor
open Go.RowKit

/-- the table of tens lies as the program's text lays it -/
structure Ran (w : World) : Prop where
  tab : Lib.TabIs Tryd.prog w "internal/strconv.uint64pow10" .u64 Lib.pow10Tab
theorem Ran.at {w W : World} (h : Ran w) (b : Below w.heap.size w W) : Ran W := ⟨Lib.tabBelow_of_tabIs h.tab W b⟩
theorem Ran.alloc {w : World} (h : Ran w) (o : Obj) : Ran (w.alloc o) := h.at ((Below.refl _ _).alloc (Nat.le_refl _) _)
theorem Ran.drew {w : World} (h : Ran w) : Ran w.drew := h.at ((Below.refl _ _).drew)

theorem dec_fig (n : Nat) : Lib.decDigits n = figL n := by
  induction n using Nat.strongRecOn with
  | _ n ih =>
    by_cases h : n < 10
    · rw [Lib.decDigits, dif_pos h, fig_one h]
    · rw [Lib.decDigits, dif_neg h, fig_more h, ih (n / 10) (by omega)]
theorem below_grow (w : World) (q : Nat) (os : Array Obj) : Below w.heap.size w (Go.Sort.grow (w.drewN q) os) :=
  ⟨rfl, rfl, rfl, by first | (simp [Go.Sort.grow]; done) | (simp [Go.Sort.grow]; omega), fun i hi => by
    show ((w.drewN q).heap ++ os)[i]? = _
    rw [Array.getElem?_append_left (by show i < w.heap.size; omega)]
    rfl⟩
theorem itoa_is (n : Int) (f : ByteArray) (w : World) (RN : Ran w) (h0 : 0 ≤ n) (h1 : n ≤ 9999) (h : f.data.toList = figL n.toNat) :
    Calls Tryd.prog 42 #[.int .i64 n] w fun e w' => e = .returned (.string f) ∧ Below w.heap.size w w' := by
  refine (strconv_Itoa n (by omega) (by omega) w RN.tab).mono ?_
  rintro e w' ⟨rfl, k, os, rfl⟩
  refine ⟨ret_str (arr_ext ?_), below_grow _ _ _⟩
  show Lib.itoa n = _
  unfold Lib.itoa
  rw [if_neg (by omega), dec_fig, h]

/-- a builder that holds these bytes -/
def Bd (B b : Nat) (l : List UInt8) (W : World) : Prop := Lib.IsBuilderF 44 5 B b (Lib.byteCells l) W
/-- what a call on the builder leaves -/
structure Aft (B b : Nat) (l : List UInt8) (W W' : World) : Prop where
  bd : Bd B b l W'
  bel : Below B W W'
  kept : Lib.OthersKept 5 (some b) W W'
theorem kept_of_below {b : Option Nat} {W W' : World} (h : Below W.heap.size W W') : Lib.OthersKept 5 b W W' := by
  intro k o hk _ _
  exact (h.block k (lt_of_block hk)).trans hk
theorem builder_moves {B b : Nat} {p : Value} {bs : List Value} {W W' : World} (h : Lib.BuilderAtF 44 5 B b p bs W) (hb : W'.heap[b]? = W.heap[b]?) (hr : ∀ (g : Nat) c fz, W.heap[g]? = some (Obj.cells c 5 fz) → W'.heap[g]? = W.heap[g]?) : Lib.BuilderAtF 44 5 B b p bs W' := by
  obtain ⟨hB, v, h1, hown, hne⟩ := h
  refine ⟨hB, v, hb.trans h1, ⟨hown.1, ?_⟩, hne⟩
  rcases hown.2 with hn | ⟨g, cap, cur, fz, hv, hbg, hg, rest⟩
  · exact .inl hn
  · exact .inr ⟨g, cap, cur, fz, hv, hbg, (hr g _ _ hg).trans hg, rest⟩
theorem Bd.lt {B b : Nat} {l : List UInt8} {W : World} (h : Bd B b l W) : b < W.heap.size := by
  rcases h with ⟨_, v, h1, _⟩ | ⟨_, v, h1, _⟩ <;> exact lt_of_block h1
theorem Bd.moves {B b : Nat} {l : List UInt8} {W W' : World} (h : Bd B b l W) (hb : W'.heap[b]? = W.heap[b]?) (hr : ∀ (g : Nat) c fz, W.heap[g]? = some (Obj.cells c 5 fz) → W'.heap[g]? = W.heap[g]?) : Bd B b l W' :=
  h.elim (fun x => .inl (builder_moves x hb hr)) (fun x => .inr (builder_moves x hb hr))
theorem Bd.later {B b : Nat} {l : List UInt8} {W W' : World} (h : Bd B b l W) (bb : Below W.heap.size W W') : Bd B b l W' :=
  h.moves (bb.block b h.lt) (fun g _ _ hg => bb.block g (lt_of_block hg))
theorem Bd.made (w : World) : Bd w.heap.size w.heap.size [] (w.alloc (.cells #[.pointer none, .slice none 0 0] 44)) := Lib.IsBuilderF.of (Lib.fresh_isBuilder 44 5 w)
/-- the builder's block is not a block of another kind -/
theorem Bd.ne {B b k : Nat} {l : List UInt8} {W : World} {cs : Array Value} {t : TypeId} {fz : Nat × Nat} (h : Bd B b l W) (hk : W.heap[k]? = some (.cells cs t fz)) (ht : t ≠ 44) : k ≠ b := by
  intro e
  rw [e] at hk
  rcases h with ⟨_, v, h1, _⟩ | ⟨_, v, h1, _⟩ <;> (rw [h1] at hk; injection hk with h1; injection h1 with _ h2 _; exact ht h2.symm)
theorem Aft.block {B b k : Nat} {l : List UInt8} {W V : World} {cs : Array Value} {t : TypeId} {fz : Nat × Nat} (h : Aft B b l W V) (hk : W.heap[k]? = some (.cells cs t fz)) (hkb : k ≠ b) (ht : t ≠ 5) : V.heap[k]? = some (.cells cs t fz) :=
  h.kept k _ hk (fun e => hkb (Option.some.inj e)) (fun c f e => by injection e with _ h2 _; exact ht h2)
/-- a byte written -/
theorem wbyte (B b : Nat) (l : List UInt8) (n : Nat) (c : Int) (W : World) (h : Bd B b l W) (hc : c = (n : Int)) (hn : n < 256) (hl : l.length ≤ 3000000) (hBw : B ≤ W.heap.size) :
    Calls Tryd.prog 29 #[.pointer (some ⟨b, 0, none⟩), .int .u8 c] W fun e w' => e = .returned .nilIface ∧ Aft B b (l ++ [n.toUInt8]) W w' := by
  subst hc
  refine (builder_WriteByte B b _ _ W h (by rw [Lib.byteCells_length]; omega) hBw).mono ?_
  rintro e w' ⟨rfl, h1, h2, h3⟩
  refine ⟨rfl, ?_, h2, h3⟩
  unfold Bd
  rw [Lib.byteCells_append]
  have e1 : Lib.byteCells [n.toUInt8] = [.int .u8 (n : Int)] := by
    unfold Lib.byteCells
    rw [List.map_singleton, u8_of n hn]
  rw [e1]
  exact .inr h1
/-- a text written -/
theorem wtext (B b : Nat) (l m : List UInt8) (s : ByteArray) (W : World) (h : Bd B b l W) (hs : s.data.toList = m) (hm : m.length ≤ 3000000) (hl : l.length ≤ 3000000) (hBw : B ≤ W.heap.size) :
    Calls Tryd.prog 18 #[.pointer (some ⟨b, 0, none⟩), .string s] W fun e w' => e = .returned (.tuple #[.int .i64 s.size, .nilIface]) ∧ Aft B b (l ++ m) W w' := by
  have e1 : s.size = m.length := by rw [← hs]; simp
  refine (builder_WriteString B b _ _ W h (by rw [Lib.byteCells_length]; omega) hBw).mono ?_
  rintro e w' ⟨rfl, h1, h2, h3⟩
  refine ⟨rfl, ?_, h2, h3⟩
  unfold Bd
  rw [Lib.byteCells_append, ← hs]
  exact .inr h1
/-- the text told -/
theorem wdone (B b : Nat) (l : List UInt8) (p : ByteArray) (W : World) (h : Bd B b l W) (hp : p.data.toList = l) (hBw : B ≤ W.heap.size) :
    Calls Tryd.prog 20 #[.pointer (some ⟨b, 0, none⟩)] W fun e w' => e = .returned (.string p) ∧ Aft B b l W w' := by
  refine (builder_String B b l W h hBw).mono ?_
  rintro e w' ⟨rfl, h1, h2, h3⟩
  exact ⟨ret_str (arr_ext hp.symm), h1, h2, h3⟩
end Go.Proofs.YtjbnofljoijnmaaDoor

/-
  PLAIN LEAN, no program in it: how a variable is read off a text in one going: its name, then a star, or a number's figures.
-/
namespace Go.Proofs.YtjbnofljoijnmaaDoor

/-- the number of a prefix that a text begins with, and how many figures it has -/
def figS : Nat → Nat → List UInt8 → Nat × Nat
  | m, i, [] => (m, i)
  | m, i, c :: t => if digB c = true ∧ 0 < 10 * m + (c.toNat - 48) ∧ 10 * m + (c.toNat - 48) ≤ 9999 then figS (10 * m + (c.toNat - 48)) (i + 1) t else (m, i)
theorem figS_yes {m i : Nat} {c : UInt8} {t : List UInt8} (h : digB c = true ∧ 0 < 10 * m + (c.toNat - 48) ∧ 10 * m + (c.toNat - 48) ≤ 9999) : figS m i (c :: t) = figS (10 * m + (c.toNat - 48)) (i + 1) t := by
  rw [figS, if_pos h]
theorem figS_no {m i : Nat} {c : UInt8} {t : List UInt8} (h : ¬ (digB c = true ∧ 0 < 10 * m + (c.toNat - 48) ∧ 10 * m + (c.toNat - 48) ≤ 9999)) : figS m i (c :: t) = (m, i) := by
  rw [figS, if_neg h]
theorem figS_le (l : List UInt8) : ∀ m i, m ≤ 9999 → (figS m i l).1 ≤ 9999 ∧ (figS m i l).2 ≤ i + l.length := by
  induction l with
  | nil => intro m i h; exact ⟨h, by simp [figS]⟩
  | cons c t ih =>
    intro m i h
    by_cases hc : digB c = true ∧ 0 < 10 * m + (c.toNat - 48) ∧ 10 * m + (c.toNat - 48) ≤ 9999
    · rw [figS_yes hc]
      have := ih (10 * m + (c.toNat - 48)) (i + 1) hc.2.2
      refine ⟨this.1, ?_⟩
      have := this.2
      simp only [List.length_cons]; omega
    · rw [figS_no hc]; exact ⟨h, by simp⟩
/-- which numbers a state behind the colon stands for -/
def stQ (q m : Nat) : Prop := q = 6 ∧ m = 0 ∨ q = 7 ∧ 1 ≤ m ∧ m ≤ 9 ∨ q = 8 ∧ 10 ≤ m ∧ m ≤ 99 ∨ q = 9 ∧ 100 ≤ m ∧ m ≤ 999 ∨ q = 10 ∧ 1000 ≤ m ∧ m ≤ 9999
theorem st_yes {q m : Nat} (h : stQ q m) {c : UInt8} (hc : digB c = true ∧ 0 < 10 * m + (c.toNat - 48) ∧ 10 * m + (c.toNat - 48) ≤ 9999) : stepX q c ≠ 4 ∧ stQ (stepX q c) (10 * m + (c.toNat - 48)) := by
  obtain ⟨h1, h2, h3⟩ := hc
  rw [dig_iff] at h1
  rcases h with ⟨rfl, h⟩ | ⟨rfl, h⟩ | ⟨rfl, h⟩ | ⟨rfl, h⟩ | ⟨rfl, h⟩
  · have e : stepX 6 c = 7 := stepX_first (by omega) h1.2
    rw [e]; exact ⟨by decide, .inr (.inl ⟨rfl, by omega, by omega⟩)⟩
  · have e : stepX 7 c = 8 := stepX_dig (by omega) (by omega) ((dig_iff c).2 h1)
    rw [e]; exact ⟨by decide, .inr (.inr (.inl ⟨rfl, by omega, by omega⟩))⟩
  · have e : stepX 8 c = 9 := stepX_dig (by omega) (by omega) ((dig_iff c).2 h1)
    rw [e]; exact ⟨by decide, .inr (.inr (.inr (.inl ⟨rfl, by omega, by omega⟩)))⟩
  · have e : stepX 9 c = 10 := stepX_dig (by omega) (by omega) ((dig_iff c).2 h1)
    rw [e]; exact ⟨by decide, .inr (.inr (.inr (.inr ⟨rfl, by omega, by omega⟩)))⟩
  · omega
theorem st_no {q m : Nat} (h : stQ q m) {c : UInt8} (hc : ¬ (digB c = true ∧ 0 < 10 * m + (c.toNat - 48) ∧ 10 * m + (c.toNat - 48) ≤ 9999)) : stepX q c = 4 := by
  rw [dig_iff] at hc
  unfold stepX
  rcases h with ⟨rfl, h⟩ | ⟨rfl, h⟩ | ⟨rfl, h⟩ | ⟨rfl, h⟩ | ⟨rfl, h⟩
  · rw [if_neg (by omega), if_pos rfl, if_neg (by omega)]
  · rw [if_neg (by omega), if_neg (by omega), if_pos (by omega), if_neg (by omega)]
  · rw [if_neg (by omega), if_neg (by omega), if_pos (by omega), if_neg (by omega)]
  · rw [if_neg (by omega), if_neg (by omega), if_pos (by omega), if_neg (by omega)]
  · rw [if_pos (by omega)]
theorem figS_go (l : List UInt8) : ∀ q m i, stQ q m → (figS m i l).2 = i + goM stepX 4 q l := by
  induction l with
  | nil => intro q m i _; simp [figS, goM]
  | cons c t ih =>
    intro q m i h
    by_cases hc : digB c = true ∧ 0 < 10 * m + (c.toNat - 48) ∧ 10 * m + (c.toNat - 48) ≤ 9999
    · have hs := st_yes h hc
      rw [figS_yes hc, ih _ _ _ hs.2]
      simp only [goM]
      rw [if_neg hs.1]; omega
    · rw [figS_no hc]
      simp only [goM]
      rw [if_pos (st_no h hc)]; rfl
theorem figS_val (l : List UInt8) : ∀ q m i, stQ q m → runM stepX q l ≠ 4 → ((figS m i l).1 : Int) = l.foldl (fun a c => 10 * a + (c.toNat : Int) - 48) (m : Int) := by
  induction l with
  | nil => intro q m i _ _; rfl
  | cons c t ih =>
    intro q m i h hr
    rw [runM_cons] at hr
    by_cases hc : digB c = true ∧ 0 < 10 * m + (c.toNat - 48) ∧ 10 * m + (c.toNat - 48) ≤ 9999
    · have hs := st_yes h hc
      rw [figS_yes hc, ih _ _ _ hs.2 hr, List.foldl_cons]
      have := (dig_iff c).1 hc.1
      congr 1
      omega
    · rw [st_no h hc, runM_dead stepX_dead] at hr
      exact absurd rfl hr
theorem figS_fig {m : Nat} (h0 : 0 < m) (h1 : m ≤ 9999) : (figS 0 0 (figL m)).1 = m := by
  have hn := fig_num h0 h1
  have hr : runM stepX 6 (figL m) ≠ 4 := by
    have := run_num hn
    rw [show runM stepX 6 (figL m) = runX 6 (figL m) from rfl, this]
    omega
  have := figS_val (figL m) 6 0 0 (.inl ⟨rfl, rfl⟩) hr
  have hv := val_fig m
  unfold valZ at hv
  rw [show ((0 : Nat) : Int) = 0 from rfl, hv] at this
  omega

/-! ### What is read -/
/-- nothing is read behind the name -/
def bareX (l : List UInt8) : Bool := decide (endN l = 0 ∨ endN l < badN l ∨ endN l = l.length)
def bgS (l : List UInt8) : Bool := !bareX l && decide (l[endN l]? = some 42)
def bgM (l : List UInt8) : Nat := if bareX l = false ∧ l[endN l]? = some 58 then (figS 0 0 (l.drop (endN l + 1))).1 else 0
def bgN (l : List UInt8) : Nat := if bareX l then badN l else if l[endN l]? = some 42 then endN l + 1 else if l[endN l]? = some 58 then endN l + 1 + (figS 0 0 (l.drop (endN l + 1))).2 else endN l
def bgX (l : List UInt8) : Sp := ⟨l.take (endN l), bgM l, bgS l⟩

theorem bad_alive (l : List UInt8) : runN 0 (l.take (badN l)) ≠ 4 := (bad_iff' l _ (bad_le l)).2 (Nat.le_refl _)
theorem bad_dead (l : List UInt8) (h : badN l < l.length) : stepN (runN 0 (l.take (badN l))) l[badN l] = 4 := by
  have h1 := bad_iff' l (badN l + 1) (by omega)
  have h2 : ¬ runN 0 (l.take (badN l + 1)) ≠ 4 := fun e => by have := h1.1 e; omega
  rw [List.take_succ_eq_append_getElem h, run_app] at h2
  exact Classical.not_not.1 h2
theorem bare_bad {l : List UInt8} (h : bareX l = true) : badX l = badN l := by
  have hb := bad_le l
  have hal := bad_alive l
  have hrx := run_name 0 (by decide) _ hal
  have h' : endN l = 0 ∨ endN l < badN l ∨ endN l = l.length := by simpa [bareX] using h
  by_cases hl : badN l = l.length
  · rw [hl, List.take_length] at hrx hal
    rw [hl]
    exact goM_all stepX_dead (by show runX 0 l ≠ 4; rw [hrx]; exact hal)
  · have hlt : badN l < l.length := by omega
    have hd := bad_dead l hlt
    have hne : runN 0 (l.take (badN l)) ≠ 1 := by
      intro e1
      have hn : nameB (l.take (badN l)) = true := name_run.2 e1
      have hp : 1 ≤ badN l := by
        have := List.length_pos_iff.2 (name_ne hn)
        rw [List.length_take] at this; omega
      have := end_most l l.length (badN l) hp hb hn
      have he : endN l = endK l l.length := rfl
      have heb := end_bad l
      omega
    have hq : runN 0 (l.take (badN l)) ≤ 4 := run_le 0 _ (by decide)
    have hs : stepX (runX 0 (l.take (badN l))) l[badN l] = 4 := by
      rw [hrx, stepX_name hq (.inl hne)]; exact hd
    have e : l = l.take (badN l) ++ l[badN l] :: l.drop (badN l + 1) := by
      conv => lhs; rw [← List.take_append_drop (badN l) l, List.drop_eq_getElem_cons hlt]
    conv => lhs; rw [e]
    rw [badX_stop _ (by rw [hrx]; exact hal) hs, List.length_take]; omega
theorem bare_parts {l : List UInt8} (h : bareX l = false) : nameB (l.take (endN l)) = true ∧ badN l = endN l ∧ endN l < l.length ∧ 0 < endN l := by
  have h' : ¬ (endN l = 0 ∨ endN l < badN l ∨ endN l = l.length) := by simpa [bareX] using h
  have hb := end_bad l
  have hl := end_le l l.length
  have he : endN l = endK l l.length := rfl
  exact ⟨end_name l l.length (by omega), by omega, by omega, by omega⟩
theorem bgN_is (l : List UInt8) : bgN l = badX l := by
  unfold bgN
  cases h : bareX l with
  | true => rw [if_pos rfl, bare_bad h]
  | false =>
    rw [if_neg (by decide)]
    obtain ⟨hn, hbd, hlt, hp⟩ := bare_parts h
    have hc : l[endN l]? = some l[endN l] := List.getElem?_eq_getElem hlt
    have e : l = l.take (endN l) ++ l[endN l] :: l.drop (endN l + 1) := by
      conv => lhs; rw [← List.take_append_drop (endN l) l, List.drop_eq_getElem_cons hlt]
    have hlen : (l.take (endN l)).length = endN l := by rw [List.length_take]; omega
    have hr1 := name_runX hn
    have hr : runM stepX 0 (l.take (endN l)) ≠ 4 := by
      show runX 0 _ ≠ 4
      rw [hr1]; decide
    rw [hc]
    have hgo : badX l = endN l + goM stepX 4 1 (l[endN l] :: l.drop (endN l + 1)) := by
      conv => lhs; rw [e]
      unfold badX
      rw [goM_app stepX_dead _ hr, hlen]
      rw [show runM stepX 0 (l.take (endN l)) = 1 from hr1]
    rw [hgo]
    generalize hcc : l[endN l] = c
    generalize l.drop (endN l + 1) = r
    by_cases h42 : c = 42
    · subst h42
      rw [if_pos rfl]
      simp only [goM]
      rw [stepX_star, if_neg (by decide)]
      cases r with
      | nil => simp [goM]
      | cons x t => simp only [goM]; rw [if_pos (by unfold stepX; rw [if_pos (.inl rfl)])]
    · rw [if_neg (by simpa using h42)]
      by_cases h58 : c = 58
      · subst h58
        rw [if_pos rfl]
        simp only [goM]
        rw [stepX_colon, if_neg (by decide), figS_go r 6 0 0 (.inl ⟨rfl, rfl⟩)]
        omega
      · rw [if_neg (by simpa using h58)]
        simp only [goM]
        have hd := bad_dead l (by omega)
        rw [if_pos]
        · rfl
        · rw [stepX_name (by decide) (.inr ⟨h42, h58⟩)]
          have h1 : runN 0 (l.take (badN l)) = 1 := by rw [hbd]; exact name_run.1 hn
          rw [h1] at hd
          have h2 : l[badN l] = c := by rw [← hcc]; congr 1
          rw [h2] at hd
          exact hd
theorem bad_none {c : UInt8} (h : noneB c = true) {a : List UInt8} (ha : nameB a = true) (b : List UInt8) : badN (a ++ c :: b) = a.length := by
  have h1 := bad_iff' (a ++ c :: b) a.length (by simp)
  have h2 := bad_iff' (a ++ c :: b) (a.length + 1) (by simp)
  rw [List.take_left] at h1
  have e : (a ++ c :: b).take (a.length + 1) = a ++ [c] := by
    rw [List.take_append, List.take_of_length_le (by omega)]
    congr 1
    rw [show a.length + 1 - a.length = 1 by omega]; rfl
  rw [e, run_app] at h2
  have h3 : runN (runN 0 a) [c] = 4 := step_none h _
  have h4 := h1.1 (by rw [name_run.1 ha]; decide)
  have h5 : ¬ a.length + 1 ≤ badN (a ++ c :: b) := fun x => h2.2 x h3
  omega
theorem bg_mark {c : UInt8} (h : noneB c = true) {a : List UInt8} (ha : nameB a = true) (b : List UInt8) : bareX (a ++ c :: b) = false ∧ endN (a ++ c :: b) = a.length ∧ (a ++ c :: b)[endN (a ++ c :: b)]? = some c := by
  have h1 := end_app h ha b
  have h2 := bad_none h ha b
  have hp := List.length_pos_iff.2 (name_ne ha)
  refine ⟨?_, h1, ?_⟩
  · unfold bareX
    rw [h1, h2, decide_eq_false_iff_not]
    simp only [List.length_append, List.length_cons]
    omega
  · rw [h1, List.getElem?_append_right (by omega)]; simp
theorem bgX_put {x : Sp} (h : mayX x = true) : bgX (putL x) = x := by
  obtain ⟨h1, h2, h3, h4⟩ := (may_iff x).1 h
  have hp := List.length_pos_iff.2 (name_ne h1)
  cases hs : x.star with
  | true =>
    rw [put_star h hs]
    obtain ⟨m1, m2, m3⟩ := bg_mark none42 h1 []
    have e1 : bgS (x.name ++ [42]) = true := by unfold bgS; rw [m1, m3]; rfl
    have e2 : bgM (x.name ++ [42]) = 0 := by unfold bgM; rw [m3, if_neg (by simp)]
    unfold bgX
    rw [e1, e2, m2, List.take_left]
    obtain ⟨n, m, s⟩ := x
    simp at hs h4 ⊢
    exact ⟨(h4 hs).symm, hs⟩
  | false =>
    by_cases hpz : 0 < x.max
    · rw [put_colon h hs hpz]
      obtain ⟨m1, m2, m3⟩ := bg_mark none58 h1 (figL x.max.toNat)
      have e1 : bgS (x.name ++ 58 :: figL x.max.toNat) = false := by unfold bgS; rw [m1, m3]; rfl
      have e2 : bgM (x.name ++ 58 :: figL x.max.toNat) = x.max.toNat := by
        unfold bgM
        rw [m3, if_pos ⟨m1, rfl⟩, m2]
        have : (x.name ++ 58 :: figL x.max.toNat).drop (x.name.length + 1) = figL x.max.toNat := by
          rw [← List.drop_drop, List.drop_left]; rfl
        rw [this]
        exact figS_fig (by omega) (by omega)
      unfold bgX
      rw [e1, e2, m2, List.take_left]
      obtain ⟨n, m, s⟩ := x
      simp at hs hpz h2 ⊢
      exact ⟨by omega, hs⟩
    · rw [put_name h hs hpz]
      have he := end_self h1
      have hbare : bareX x.name = true := by unfold bareX; rw [he]; simp
      unfold bgX
      have e1 : bgS x.name = false := by unfold bgS; rw [hbare]; rfl
      have e2 : bgM x.name = 0 := by unfold bgM; rw [hbare]; rfl
      rw [e1, e2, he, List.take_length]
      obtain ⟨n, m, s⟩ := x
      simp at hs hpz h2 ⊢
      exact ⟨by omega, hs⟩
/-- what is read is the text's variable, if it is one -/
theorem bg_is {l : List UInt8} (h : isX l = true) : mayX (bgX l) = true ∧ putL (bgX l) = l ∧ bgX l = specX l := by
  obtain ⟨_, h2, h3⟩ := (is_iff l).1 h
  have e := bgX_put h2
  rw [h3] at e
  rw [e]
  exact ⟨h2, h3, rfl⟩
theorem bg_not {l : List UInt8} (h : isX l = false) : mayX (bgX l) = false ∨ putL (bgX l) ≠ l := by
  cases hm : mayX (bgX l) with
  | false => exact .inl rfl
  | true =>
    refine .inr fun e => ?_
    have := is_put hm
    rw [e, h] at this
    cases this
end Go.Proofs.YtjbnofljoijnmaaDoor

/-
  WALKS: the program's figures (layer 6).
-/
namespace Go.Proofs.YtjbnofljoijnmaaDoor
open Go.RowKit

theorem digit_fin : ∀ c : Fin 256, YtjbnofljoijnmaaDoorC.digitQ.has c.val = decide (48 ≤ c.val ∧ c.val ≤ 57) := by decide +kernel
theorem pdigit_is (q : YtjbnofljoijnmaaDoorC.Q) (w : World) (h : YtjbnofljoijnmaaDoorC.digitQ = q) : Calls Tryd.prog 92 #[] w fun e w' => e = .returned (YtjbnofljoijnmaaDoorC.qv q) ∧ Below w.heap.size w w' := by
  subst h; exact YtjbnofljoijnmaaDoorC.digit_any w
theorem dhas_is (q : YtjbnofljoijnmaaDoorC.Q) (h : YtjbnofljoijnmaaDoorC.digitQ = q) (c : UInt8) (b : Bool) (w : World) (hb : digB c = b) :
    Calls Tryd.prog 36 #[YtjbnofljoijnmaaDoorC.qv q, .int .u8 (c.toNat : Int)] w fun e w' => e = .returned (.bool b) ∧ Below w.heap.size w w' := by
  subst h
  have hl := UInt8.toNat_lt c
  refine YtjbnofljoijnmaaDoorC.has_is _ _ b w YtjbnofljoijnmaaDoorC.digit_ok (by omega) (by omega) ?_
  rw [Int.toNat_natCast, digit_fin ⟨c.toNat, hl⟩]
  exact hb
theorem ret_ff {a b c d : Int} (h : a = c) (k : b = d) : Ending.returned (.tuple #[.int .i64 a, .int .i64 b]) = .returned (.tuple #[.int .i64 c, .int .i64 d]) := by rw [h, k]

theorem int_eq {a b : Int} (h : a = b) : Value.int .i64 a = .int .i64 b := by rw [h]
set_option maxRecDepth 20000 in
set_option maxHeartbeats 1000000 in
theorem figs_any (s : ByteArray) (w : World) (hs : s.size ≤ 2000000) :
    Calls Tryd.prog 88 #[.string s] w fun e w' => e = .returned (.tuple #[.int .i64 (figS 0 0 s.data.toList).1, .int .i64 (figS 0 0 s.data.toList).2]) ∧ Below w.heap.size w w' := by
  obtain ⟨Qw, hQ⟩ : ∃ q, YtjbnofljoijnmaaDoorC.digitQ = q := ⟨_, rfl⟩
  have HQ := hide hQ
  clear hQ
  obtain ⟨P, hP⟩ : ∃ p, figS 0 0 s.data.toList = p := ⟨_, rfl⟩
  rw [hP]
  have B := Below.refl w.heap.size w
  go_enter Tryd.func88, Tryd.ntmps88
  go_wp2_with (go_at_call 92; refine (pdigit_is Qw _ HQ.out).mono ?_; rintro e w0 ⟨rfl, B0⟩; replace B := B0; clear B0; simp only [YtjbnofljoijnmaaDoorC.qv])
  have C0 := YtjbnofljoijnmaaDoorC.Cells4.made w0 Qw 73
  have B1 := B.alloc B.size (.cells #[.int .u64 Qw.a, .int .u64 Qw.b, .int .u64 Qw.c, .int .u64 Qw.d] 73)
  have hlt0 : w0.heap.size < (w0.alloc (.cells #[.int .u64 Qw.a, .int .u64 Qw.b, .int .u64 Qw.c, .int .u64 Qw.d] 73)).heap.size := by simp
  obtain ⟨W1, hW1⟩ : ∃ W, w0.alloc (.cells #[.int .u64 Qw.a, .int .u64 Qw.b, .int .u64 Qw.c, .int .u64 Qw.d] 73) = W := ⟨_, rfl⟩
  rw [hW1] at C0 B1 hlt0 ⊢
  clear hW1 B
  obtain ⟨bq, hbq⟩ : ∃ b, w0.heap.size = b := ⟨_, rfl⟩
  rw [hbq] at C0 hlt0 ⊢
  clear hbq w0
  go_loopw [2, 10] (fun a i wr => ∃ (k m : Nat), k ≤ s.size ∧ m ≤ 9999 ∧ i = .int .i64 k ∧ a = .int .i64 m ∧ Below w.heap.size w wr ∧ YtjbnofljoijnmaaDoorC.Cells4 wr bq Qw ∧ bq < wr.heap.size ∧ figS m k (s.data.toList.drop k) = P) (fun _ i _ => s.size - (intOf i).toNat)
  case atStart => exact ⟨0, 0, by omega, by omega, rfl, rfl, B1, C0, hlt0, hP⟩
  case round =>
    obtain ⟨k, m, hk, hm, rfl, rfl, B, C, hbq, hp⟩ := hrel
    by_cases hlt : k < s.size
    · have hone : s.data.toList.drop k = s[k] :: s.data.toList.drop (k + 1) := List.drop_eq_getElem_cons (by rw [← size_list]; exact hlt)
      rw [hone] at hp
      obtain ⟨c0, c1, c2, c3⟩ := C
      have C : YtjbnofljoijnmaaDoorC.Cells4 wr bq Qw := ⟨c0, c1, c2, c3⟩
      obtain ⟨db, hd⟩ : ∃ x, digB s[k] = x := ⟨_, rfl⟩
      have Hd := hide hd
      have Hp := hide hp
      have hu := UInt8.toNat_lt s[k]
      clear hone hp hP
      cases db
      · have hr : P = (m, k) := by rw [← Hp.out, figS_no (by rw [hd]; simp)]
        subst hr
        clear hd
        go_wp2
        go_region_with (go_at_call 36; refine (dhas_is Qw HQ.out s[k] false _ Hd.out).mono ?_; rintro e w1 ⟨rfl, bb⟩; replace C := C.below (below_drew bb) hbq; replace B := B.trans ((below_drew bb).mono B.size); replace hbq := Nat.lt_of_lt_of_le hbq (below_drew bb).size; clear bb c0 c1 c2 c3; obtain ⟨c0, c1, c2, c3⟩ := C)
        all_goals go_wp2
        all_goals go_ret2
        all_goals exact ⟨rfl, B⟩
      · have hdi := (dig_iff s[k]).1 hd
        by_cases hn : 0 < 10 * m + (s[k].toNat - 48) ∧ 10 * m + (s[k].toNat - 48) ≤ 9999
        · have hr := Hp.out
          rw [figS_yes ⟨hd, hn⟩] at hr
          have Hr := hide hr
          obtain ⟨hn1, hn2⟩ := hn
          have b1 : (48 : Int) ≤ (s[k].toNat : Int) := by omega
          have b2 : (s[k].toNat : Int) ≤ 57 := by omega
          have t1 : (10 * (m : Int) + ((s[k].toNat : Int) - 48) == 0) = false := by simp; omega
          have t2 : decide (9999 < 10 * (m : Int) + ((s[k].toNat : Int) - 48)) = false := by simp; omega
          clear hd hr hdi
          go_wp2
          go_region_with (go_at_call 36; refine (dhas_is Qw HQ.out s[k] true _ Hd.out).mono ?_; rintro e w1 ⟨rfl, bb⟩; replace C := C.below (below_drew bb) hbq; replace B := B.trans ((below_drew bb).mono B.size); replace hbq := Nat.lt_of_lt_of_le hbq (below_drew bb).size; clear bb c0 c1 c2 c3; obtain ⟨c0, c1, c2, c3⟩ := C)
          all_goals go_wp2
          all_goals exact ⟨⟨k + 1, 10 * m + (s[k].toNat - 48), by omega, hn2, by go_num, int_eq (by omega), B, ⟨c0, c1, c2, c3⟩, hbq, Hr.out⟩, by simp [intOf]; omega⟩
        · have hr : P = (m, k) := by rw [← Hp.out, figS_no (by rw [hd]; simpa using hn)]
          subst hr
          have b1 : (48 : Int) ≤ (s[k].toNat : Int) := by omega
          have b2 : (s[k].toNat : Int) ≤ 57 := by omega
          clear hd hdi
          by_cases hz : 10 * (m : Int) + ((s[k].toNat : Int) - 48) = 0
          · go_wp2
            go_region_with (go_at_call 36; refine (dhas_is Qw HQ.out s[k] true _ Hd.out).mono ?_; rintro e w1 ⟨rfl, bb⟩; replace C := C.below (below_drew bb) hbq; replace B := B.trans ((below_drew bb).mono B.size); replace hbq := Nat.lt_of_lt_of_le hbq (below_drew bb).size; clear bb c0 c1 c2 c3; obtain ⟨c0, c1, c2, c3⟩ := C)
            all_goals go_wp2
            all_goals go_ret2
            all_goals exact ⟨rfl, B⟩
          · have t2 : 9999 < 10 * (m : Int) + ((s[k].toNat : Int) - 48) := by omega
            go_wp2
            go_region_with (go_at_call 36; refine (dhas_is Qw HQ.out s[k] true _ Hd.out).mono ?_; rintro e w1 ⟨rfl, bb⟩; replace C := C.below (below_drew bb) hbq; replace B := B.trans ((below_drew bb).mono B.size); replace hbq := Nat.lt_of_lt_of_le hbq (below_drew bb).size; clear bb c0 c1 c2 c3; obtain ⟨c0, c1, c2, c3⟩ := C)
            all_goals go_wp2
            all_goals go_ret2
            all_goals exact ⟨rfl, B⟩
    · have hd : s.data.toList.drop k = [] := List.drop_eq_nil_of_le (by rw [← size_list]; omega)
      rw [hd] at hp
      have hr : P = (m, k) := hp.symm
      subst hr
      have hke : k = s.size := by omega
      subst hke
      clear hp hd hP
      go_wp2
      all_goals go_ret2
      all_goals exact ⟨rfl, B⟩
end Go.Proofs.YtjbnofljoijnmaaDoor

/-
  WALKS: pct.Digit, pct.Triplet.
-/
namespace Go.Proofs.YtjbnofljoijnmaaDoor
open Go.RowKit

theorem dig_le (n : Nat) : digN n ≤ 15 := by unfold digN; split <;> (try split) <;> (try split) <;> omega
theorem ret_dig {a b : Int} {x y : Bool} (h : a = b) (k : x = y) : Ending.returned (.tuple #[.int .i64 a, .bool x]) = .returned (.tuple #[.int .i64 b, .bool y]) := by rw [h, k]
set_option maxHeartbeats 1000000 in
theorem dig_any (c : Int) (w : World) (h0 : 0 ≤ c) (h1 : c ≤ 255) :
    Calls Tryd.prog 51 #[.int .u8 c] w fun e w' => e = .returned (.tuple #[.int .i64 (digN c.toNat), .bool (hexN c.toNat)]) ∧ w' = w := by
  go_enter Tryd.func51, Tryd.ntmps51
  go_wp2
  all_goals go_ret2
  all_goals refine ⟨ret_dig ?_ ?_, rfl⟩
  all_goals first | (unfold digN; split <;> (try split) <;> (try split) <;> omega) | (unfold hexN; simp; omega)

theorem dig_is (c : Int) (n : Int) (b : Bool) (w : World) (h0 : 0 ≤ c) (h1 : c ≤ 255) (h : (digN c.toNat : Int) = n) (h' : hexN c.toNat = b) :
    Calls Tryd.prog 51 #[.int .u8 c] w fun e w' => e = .returned (.tuple #[.int .i64 n, .bool b]) ∧ w' = w := by
  subst h h'; exact dig_any c w h0 h1
set_option maxRecDepth 20000 in
set_option maxHeartbeats 1000000 in
theorem trip_any (s : ByteArray) (w : World) :
    Calls Tryd.prog 37 #[.string s] w fun e w' => e = .returned (.bool (tripB s.data.toList)) ∧ w' = w := by
  by_cases h : 3 ≤ s.size
  · have ht := trip_at s h
    have Ht := hide ht
    clear ht
    have b1 := UInt8.toNat_lt s[1]
    have b2 := UInt8.toNat_lt s[2]
    have hn : ¬ s.size < 3 := by omega
    obtain ⟨x1, h1⟩ : ∃ x, hexN s[1].toNat = x := ⟨_, rfl⟩
    obtain ⟨x2, h2⟩ : ∃ x, hexN s[2].toNat = x := ⟨_, rfl⟩
    cases x1 <;> cases x2
    all_goals
      have H1 := hide h1
      have H2 := hide h2
      clear h1 h2
      by_cases h0 : s[0] = 37
      · have h0' : ((s[0].toNat : Int) != 37) = false := by simp [h0]
        have H0 := hide h0
        clear h0
        go_enter Tryd.func37, Tryd.ntmps37
        go_wp2_with (first | (go_at_call 51; refine (dig_is _ _ true _ (by omega) (by omega) rfl (by rw [Int.toNat_natCast]; exact H1.out)).mono ?_; rintro e w' ⟨rfl, hw⟩; rw [hw]) | (go_at_call 51; refine (dig_is _ _ false _ (by omega) (by omega) rfl (by rw [Int.toNat_natCast]; exact H1.out)).mono ?_; rintro e w' ⟨rfl, hw⟩; rw [hw]) | (go_at_call 51; refine (dig_is _ _ true _ (by omega) (by omega) rfl (by rw [Int.toNat_natCast]; exact H2.out)).mono ?_; rintro e w' ⟨rfl, hw⟩; rw [hw]) | (go_at_call 51; refine (dig_is _ _ false _ (by omega) (by omega) rfl (by rw [Int.toNat_natCast]; exact H2.out)).mono ?_; rintro e w' ⟨rfl, hw⟩; rw [hw]))
        all_goals go_ret
        all_goals exact ⟨ret_bool (by rw [Ht.out, H0.out, H1.out, H2.out]; rfl), rfl⟩
      · have h0' : ((s[0].toNat : Int) != 37) = true := by
          have : s[0].toNat ≠ 37 := fun e => h0 (UInt8.toNat_inj.1 e)
          simp; omega
        have H0 := hide h0
        clear h0
        go_enter Tryd.func37, Tryd.ntmps37
        go_wp2
        all_goals go_ret
        all_goals exact ⟨ret_bool (by rw [Ht.out]; simp [H0.out]), rfl⟩
  · have ht := trip_short s h
    have Ht := hide ht
    clear ht
    have hn : s.size < 3 := by omega
    go_enter Tryd.func37, Tryd.ntmps37
    go_wp2
    all_goals go_ret
    all_goals exact ⟨ret_bool Ht.out.symm, rfl⟩
theorem ptrip_is (s : ByteArray) (b : Bool) (w : World) (h : tripB s.data.toList = b) : Calls Tryd.prog 37 #[.string s] w fun e w' => e = .returned (.bool b) ∧ w' = w := by
  subst h; exact trip_any s w
end Go.Proofs.YtjbnofljoijnmaaDoor
