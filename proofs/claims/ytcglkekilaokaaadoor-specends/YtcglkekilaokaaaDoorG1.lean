/-
  PLAIN LEAN, no program in it: how a variable is read off a text in one going: its name, then a star, or a number's figures.
-/
import Derived.Test.YtcglkekilaokaaaDoorX2
namespace Go.Proofs.YtcglkekilaokaaaDoor

/-- the number of a prefix that a text begins with, and how many figures it has -/
def figS : Nat → Nat → List UInt8 → Nat × Nat
  | m, i, [] => (m, i)
  | m, i, c :: t => if digB c = true ∧ 0 < 10 * m + (c.toNat - 48) ∧ 10 * m + (c.toNat - 48) ≤ 9999 then figS (10 * m + (c.toNat - 48)) (i + 1) t else (m, i)
theorem figS_yes {m i : Nat} {c : UInt8} {t : List UInt8} (h : digB c = true ∧ 0 < 10 * m + (c.toNat - 48) ∧ 10 * m + (c.toNat - 48) ≤ 9999) : figS m i (c :: t) = figS (10 * m + (c.toNat - 48)) (i + 1) t := by
  rw [figS, if_pos h]
theorem figS_no {m i : Nat} {c : UInt8} {t : List UInt8} (h : ¬ (digB c = true ∧ 0 < 10 * m + (c.toNat - 48) ∧ 10 * m + (c.toNat - 48) ≤ 9999)) : figS m i (c :: t) = (m, i) := by
  rw [figS, if_neg h]
theorem figS_le (l : List UInt8) : ∀ m i, m ≤ 9999 → (figS m i l).1 ≤ 9999 ∧ (figS m i l).2 ≤ i + l.length := by
  induction l with
  | nil => intro m i h; exact ⟨h, by simp [figS]⟩
  | cons c t ih =>
    intro m i h
    by_cases hc : digB c = true ∧ 0 < 10 * m + (c.toNat - 48) ∧ 10 * m + (c.toNat - 48) ≤ 9999
    · rw [figS_yes hc]
      have := ih (10 * m + (c.toNat - 48)) (i + 1) hc.2.2
      refine ⟨this.1, ?_⟩
      have := this.2
      simp only [List.length_cons]; omega
    · rw [figS_no hc]; exact ⟨h, by simp⟩
/-- which numbers a state behind the colon stands for -/
def stQ (q m : Nat) : Prop := q = 6 ∧ m = 0 ∨ q = 7 ∧ 1 ≤ m ∧ m ≤ 9 ∨ q = 8 ∧ 10 ≤ m ∧ m ≤ 99 ∨ q = 9 ∧ 100 ≤ m ∧ m ≤ 999 ∨ q = 10 ∧ 1000 ≤ m ∧ m ≤ 9999
theorem st_yes {q m : Nat} (h : stQ q m) {c : UInt8} (hc : digB c = true ∧ 0 < 10 * m + (c.toNat - 48) ∧ 10 * m + (c.toNat - 48) ≤ 9999) : stepX q c ≠ 4 ∧ stQ (stepX q c) (10 * m + (c.toNat - 48)) := by
  obtain ⟨h1, h2, h3⟩ := hc
  rw [dig_iff] at h1
  rcases h with ⟨rfl, h⟩ | ⟨rfl, h⟩ | ⟨rfl, h⟩ | ⟨rfl, h⟩ | ⟨rfl, h⟩
  · have e : stepX 6 c = 7 := stepX_first (by omega) h1.2
    rw [e]; exact ⟨by decide, .inr (.inl ⟨rfl, by omega, by omega⟩)⟩
  · have e : stepX 7 c = 8 := stepX_dig (by omega) (by omega) ((dig_iff c).2 h1)
    rw [e]; exact ⟨by decide, .inr (.inr (.inl ⟨rfl, by omega, by omega⟩))⟩
  · have e : stepX 8 c = 9 := stepX_dig (by omega) (by omega) ((dig_iff c).2 h1)
    rw [e]; exact ⟨by decide, .inr (.inr (.inr (.inl ⟨rfl, by omega, by omega⟩)))⟩
  · have e : stepX 9 c = 10 := stepX_dig (by omega) (by omega) ((dig_iff c).2 h1)
    rw [e]; exact ⟨by decide, .inr (.inr (.inr (.inr ⟨rfl, by omega, by omega⟩)))⟩
  · omega
theorem st_no {q m : Nat} (h : stQ q m) {c : UInt8} (hc : ¬ (digB c = true ∧ 0 < 10 * m + (c.toNat - 48) ∧ 10 * m + (c.toNat - 48) ≤ 9999)) : stepX q c = 4 := by
  rw [dig_iff] at hc
  unfold stepX
  rcases h with ⟨rfl, h⟩ | ⟨rfl, h⟩ | ⟨rfl, h⟩ | ⟨rfl, h⟩ | ⟨rfl, h⟩
  · rw [if_neg (by omega), if_pos rfl, if_neg (by omega)]
  · rw [if_neg (by omega), if_neg (by omega), if_pos (by omega), if_neg (by omega)]
  · rw [if_neg (by omega), if_neg (by omega), if_pos (by omega), if_neg (by omega)]
  · rw [if_neg (by omega), if_neg (by omega), if_pos (by omega), if_neg (by omega)]
  · rw [if_pos (by omega)]
theorem figS_go (l : List UInt8) : ∀ q m i, stQ q m → (figS m i l).2 = i + goM stepX 4 q l := by
  induction l with
  | nil => intro q m i _; simp [figS, goM]
  | cons c t ih =>
    intro q m i h
    by_cases hc : digB c = true ∧ 0 < 10 * m + (c.toNat - 48) ∧ 10 * m + (c.toNat - 48) ≤ 9999
    · have hs := st_yes h hc
      rw [figS_yes hc, ih _ _ _ hs.2]
      simp only [goM]
      rw [if_neg hs.1]; omega
    · rw [figS_no hc]
      simp only [goM]
      rw [if_pos (st_no h hc)]; rfl
theorem figS_val (l : List UInt8) : ∀ q m i, stQ q m → runM stepX q l ≠ 4 → ((figS m i l).1 : Int) = l.foldl (fun a c => 10 * a + (c.toNat : Int) - 48) (m : Int) := by
  induction l with
  | nil => intro q m i _ _; rfl
  | cons c t ih =>
    intro q m i h hr
    rw [runM_cons] at hr
    by_cases hc : digB c = true ∧ 0 < 10 * m + (c.toNat - 48) ∧ 10 * m + (c.toNat - 48) ≤ 9999
    · have hs := st_yes h hc
      rw [figS_yes hc, ih _ _ _ hs.2 hr, List.foldl_cons]
      have := (dig_iff c).1 hc.1
      congr 1
      omega
    · rw [st_no h hc, runM_dead stepX_dead] at hr
      exact absurd rfl hr
theorem figS_fig {m : Nat} (h0 : 0 < m) (h1 : m ≤ 9999) : (figS 0 0 (figL m)).1 = m := by
  have hn := fig_num h0 h1
  have hr : runM stepX 6 (figL m) ≠ 4 := by
    have := run_num hn
    rw [show runM stepX 6 (figL m) = runX 6 (figL m) from rfl, this]
    omega
  have := figS_val (figL m) 6 0 0 (.inl ⟨rfl, rfl⟩) hr
  have hv := val_fig m
  unfold valZ at hv
  rw [show ((0 : Nat) : Int) = 0 from rfl, hv] at this
  omega

/-! ### What is read -/
/-- nothing is read behind the name -/
def bareX (l : List UInt8) : Bool := decide (endN l = 0 ∨ endN l < badN l ∨ endN l = l.length)
def bgS (l : List UInt8) : Bool := !bareX l && decide (l[endN l]? = some 42)
def bgM (l : List UInt8) : Nat := if bareX l = false ∧ l[endN l]? = some 58 then (figS 0 0 (l.drop (endN l + 1))).1 else 0
def bgN (l : List UInt8) : Nat := if bareX l then badN l else if l[endN l]? = some 42 then endN l + 1 else if l[endN l]? = some 58 then endN l + 1 + (figS 0 0 (l.drop (endN l + 1))).2 else endN l
def bgX (l : List UInt8) : Sp := ⟨l.take (endN l), bgM l, bgS l⟩

theorem bad_alive (l : List UInt8) : runN 0 (l.take (badN l)) ≠ 4 := (bad_iff' l _ (bad_le l)).2 (Nat.le_refl _)
theorem bad_dead (l : List UInt8) (h : badN l < l.length) : stepN (runN 0 (l.take (badN l))) l[badN l] = 4 := by
  have h1 := bad_iff' l (badN l + 1) (by omega)
  have h2 : ¬ runN 0 (l.take (badN l + 1)) ≠ 4 := fun e => by have := h1.1 e; omega
  rw [List.take_succ_eq_append_getElem h, run_app] at h2
  exact Classical.not_not.1 h2
theorem bare_bad {l : List UInt8} (h : bareX l = true) : badX l = badN l := by
  have hb := bad_le l
  have hal := bad_alive l
  have hrx := run_name 0 (by decide) _ hal
  have h' : endN l = 0 ∨ endN l < badN l ∨ endN l = l.length := by simpa [bareX] using h
  by_cases hl : badN l = l.length
  · rw [hl, List.take_length] at hrx hal
    rw [hl]
    exact goM_all stepX_dead (by show runX 0 l ≠ 4; rw [hrx]; exact hal)
  · have hlt : badN l < l.length := by omega
    have hd := bad_dead l hlt
    have hne : runN 0 (l.take (badN l)) ≠ 1 := by
      intro e1
      have hn : nameB (l.take (badN l)) = true := name_run.2 e1
      have hp : 1 ≤ badN l := by
        have := List.length_pos_iff.2 (name_ne hn)
        rw [List.length_take] at this; omega
      have := end_most l l.length (badN l) hp hb hn
      have he : endN l = endK l l.length := rfl
      have heb := end_bad l
      omega
    have hq : runN 0 (l.take (badN l)) ≤ 4 := run_le 0 _ (by decide)
    have hs : stepX (runX 0 (l.take (badN l))) l[badN l] = 4 := by
      rw [hrx, stepX_name hq (.inl hne)]; exact hd
    have e : l = l.take (badN l) ++ l[badN l] :: l.drop (badN l + 1) := by
      conv => lhs; rw [← List.take_append_drop (badN l) l, List.drop_eq_getElem_cons hlt]
    conv => lhs; rw [e]
    rw [badX_stop _ (by rw [hrx]; exact hal) hs, List.length_take]; omega
theorem bare_parts {l : List UInt8} (h : bareX l = false) : nameB (l.take (endN l)) = true ∧ badN l = endN l ∧ endN l < l.length ∧ 0 < endN l := by
  have h' : ¬ (endN l = 0 ∨ endN l < badN l ∨ endN l = l.length) := by simpa [bareX] using h
  have hb := end_bad l
  have hl := end_le l l.length
  have he : endN l = endK l l.length := rfl
  exact ⟨end_name l l.length (by omega), by omega, by omega, by omega⟩
theorem bgN_is (l : List UInt8) : bgN l = badX l := by
  unfold bgN
  cases h : bareX l with
  | true => rw [if_pos rfl, bare_bad h]
  | false =>
    rw [if_neg (by decide)]
    obtain ⟨hn, hbd, hlt, hp⟩ := bare_parts h
    have hc : l[endN l]? = some l[endN l] := List.getElem?_eq_getElem hlt
    have e : l = l.take (endN l) ++ l[endN l] :: l.drop (endN l + 1) := by
      conv => lhs; rw [← List.take_append_drop (endN l) l, List.drop_eq_getElem_cons hlt]
    have hlen : (l.take (endN l)).length = endN l := by rw [List.length_take]; omega
    have hr1 := name_runX hn
    have hr : runM stepX 0 (l.take (endN l)) ≠ 4 := by
      show runX 0 _ ≠ 4
      rw [hr1]; decide
    rw [hc]
    have hgo : badX l = endN l + goM stepX 4 1 (l[endN l] :: l.drop (endN l + 1)) := by
      conv => lhs; rw [e]
      unfold badX
      rw [goM_app stepX_dead _ hr, hlen]
      rw [show runM stepX 0 (l.take (endN l)) = 1 from hr1]
    rw [hgo]
    generalize hcc : l[endN l] = c
    generalize l.drop (endN l + 1) = r
    by_cases h42 : c = 42
    · subst h42
      rw [if_pos rfl]
      simp only [goM]
      rw [stepX_star, if_neg (by decide)]
      cases r with
      | nil => simp [goM]
      | cons x t => simp only [goM]; rw [if_pos (by unfold stepX; rw [if_pos (.inl rfl)])]
    · rw [if_neg (by simpa using h42)]
      by_cases h58 : c = 58
      · subst h58
        rw [if_pos rfl]
        simp only [goM]
        rw [stepX_colon, if_neg (by decide), figS_go r 6 0 0 (.inl ⟨rfl, rfl⟩)]
        omega
      · rw [if_neg (by simpa using h58)]
        simp only [goM]
        have hd := bad_dead l (by omega)
        rw [if_pos]
        · rfl
        · rw [stepX_name (by decide) (.inr ⟨h42, h58⟩)]
          have h1 : runN 0 (l.take (badN l)) = 1 := by rw [hbd]; exact name_run.1 hn
          rw [h1] at hd
          have h2 : l[badN l] = c := by rw [← hcc]; congr 1
          rw [h2] at hd
          exact hd
theorem bad_none {c : UInt8} (h : noneB c = true) {a : List UInt8} (ha : nameB a = true) (b : List UInt8) : badN (a ++ c :: b) = a.length := by
  have h1 := bad_iff' (a ++ c :: b) a.length (by simp)
  have h2 := bad_iff' (a ++ c :: b) (a.length + 1) (by simp)
  rw [List.take_left] at h1
  have e : (a ++ c :: b).take (a.length + 1) = a ++ [c] := by
    rw [List.take_append, List.take_of_length_le (by omega)]
    congr 1
    rw [show a.length + 1 - a.length = 1 by omega]; rfl
  rw [e, run_app] at h2
  have h3 : runN (runN 0 a) [c] = 4 := step_none h _
  have h4 := h1.1 (by rw [name_run.1 ha]; decide)
  have h5 : ¬ a.length + 1 ≤ badN (a ++ c :: b) := fun x => h2.2 x h3
  omega
theorem bg_mark {c : UInt8} (h : noneB c = true) {a : List UInt8} (ha : nameB a = true) (b : List UInt8) : bareX (a ++ c :: b) = false ∧ endN (a ++ c :: b) = a.length ∧ (a ++ c :: b)[endN (a ++ c :: b)]? = some c := by
  have h1 := end_app h ha b
  have h2 := bad_none h ha b
  have hp := List.length_pos_iff.2 (name_ne ha)
  refine ⟨?_, h1, ?_⟩
  · unfold bareX
    rw [h1, h2, decide_eq_false_iff_not]
    simp only [List.length_append, List.length_cons]
    omega
  · rw [h1, List.getElem?_append_right (by omega)]; simp
theorem bgX_put {x : Sp} (h : mayX x = true) : bgX (putL x) = x := by
  obtain ⟨h1, h2, h3, h4⟩ := (may_iff x).1 h
  have hp := List.length_pos_iff.2 (name_ne h1)
  cases hs : x.star with
  | true =>
    rw [put_star h hs]
    obtain ⟨m1, m2, m3⟩ := bg_mark none42 h1 []
    have e1 : bgS (x.name ++ [42]) = true := by unfold bgS; rw [m1, m3]; rfl
    have e2 : bgM (x.name ++ [42]) = 0 := by unfold bgM; rw [m3, if_neg (by simp)]
    unfold bgX
    rw [e1, e2, m2, List.take_left]
    obtain ⟨n, m, s⟩ := x
    simp at hs h4 ⊢
    exact ⟨(h4 hs).symm, hs⟩
  | false =>
    by_cases hpz : 0 < x.max
    · rw [put_colon h hs hpz]
      obtain ⟨m1, m2, m3⟩ := bg_mark none58 h1 (figL x.max.toNat)
      have e1 : bgS (x.name ++ 58 :: figL x.max.toNat) = false := by unfold bgS; rw [m1, m3]; rfl
      have e2 : bgM (x.name ++ 58 :: figL x.max.toNat) = x.max.toNat := by
        unfold bgM
        rw [m3, if_pos ⟨m1, rfl⟩, m2]
        have : (x.name ++ 58 :: figL x.max.toNat).drop (x.name.length + 1) = figL x.max.toNat := by
          rw [← List.drop_drop, List.drop_left]; rfl
        rw [this]
        exact figS_fig (by omega) (by omega)
      unfold bgX
      rw [e1, e2, m2, List.take_left]
      obtain ⟨n, m, s⟩ := x
      simp at hs hpz h2 ⊢
      exact ⟨by omega, hs⟩
    · rw [put_name h hs hpz]
      have he := end_self h1
      have hbare : bareX x.name = true := by unfold bareX; rw [he]; simp
      unfold bgX
      have e1 : bgS x.name = false := by unfold bgS; rw [hbare]; rfl
      have e2 : bgM x.name = 0 := by unfold bgM; rw [hbare]; rfl
      rw [e1, e2, he, List.take_length]
      obtain ⟨n, m, s⟩ := x
      simp at hs hpz h2 ⊢
      exact ⟨by omega, hs⟩
/-- what is read is the text's variable, if it is one -/
theorem bg_is {l : List UInt8} (h : isX l = true) : mayX (bgX l) = true ∧ putL (bgX l) = l ∧ bgX l = specX l := by
  obtain ⟨_, h2, h3⟩ := (is_iff l).1 h
  have e := bgX_put h2
  rw [h3] at e
  rw [e]
  exact ⟨h2, h3, rfl⟩
theorem bg_not {l : List UInt8} (h : isX l = false) : mayX (bgX l) = false ∨ putL (bgX l) ≠ l := by
  cases hm : mayX (bgX l) with
  | false => exact .inl rfl
  | true =>
    refine .inr fun e => ?_
    have := is_put hm
    rw [e, h] at this
    cases this
end Go.Proofs.YtcglkekilaokaaaDoor
