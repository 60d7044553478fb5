/-
  PLAIN LEAN, no program in it: variables in expressions (layer 6): a name, a star, a prefix.
-/
import Derived.Test.YtjbnofljoijnmaaDoorN2
import Derived.Test.YtjbnofljoijnmaaDoorM
namespace Go.Proofs.YtjbnofljoijnmaaDoor

/-! ### Figures -/
def figL (n : Nat) : List UInt8 := if n < 10 then [(48 + n).toUInt8] else figL (n / 10) ++ [(48 + n % 10).toUInt8]
theorem fig_one {n : Nat} (h : n < 10) : figL n = [(48 + n).toUInt8] := by rw [figL, if_pos h]
theorem fig_more {n : Nat} (h : ¬ n < 10) : figL n = figL (n / 10) ++ [(48 + n % 10).toUInt8] := by rw [figL, if_neg h]
/-- what figures say, whatever bytes they are -/
def valZ (l : List UInt8) : Int := l.foldl (fun a c => 10 * a + (c.toNat : Int) - 48) 0
theorem val_snoc (l : List UInt8) (c : UInt8) : valZ (l ++ [c]) = 10 * valZ l + (c.toNat : Int) - 48 := by unfold valZ; rw [List.foldl_append]; rfl
theorem val_one (c : UInt8) : valZ [c] = (c.toNat : Int) - 48 := by simp [valZ]
theorem fig_toNat {n : Nat} (h : n < 10) : ((48 + n).toUInt8).toNat = 48 + n := by simp; omega
theorem val_fig (n : Nat) : valZ (figL n) = n := by
  induction n using Nat.strongRecOn with
  | _ n ih =>
    by_cases h : n < 10
    · rw [fig_one h, val_one, fig_toNat h]; omega
    · rw [fig_more h, val_snoc, ih (n / 10) (by omega), fig_toNat (by omega)]; omega
def digB (c : UInt8) : Bool := decide (48 ≤ c.toNat ∧ c.toNat ≤ 57)
theorem dig_iff (c : UInt8) : digB c = true ↔ 48 ≤ c.toNat ∧ c.toNat ≤ 57 := by simp [digB]
theorem fig_dig (n : Nat) : (figL n).all digB = true := by
  induction n using Nat.strongRecOn with
  | _ n ih =>
    by_cases h : n < 10
    · rw [fig_one h, List.all_cons, List.all_nil, Bool.and_true, dig_iff, fig_toNat h]; omega
    · rw [fig_more h, List.all_append, ih (n / 10) (by omega), List.all_cons, List.all_nil, Bool.and_true, Bool.true_and, dig_iff, fig_toNat (by omega)]; omega
/-- the first figure of a number that is not 0 is none -/
theorem fig_head (n : Nat) (h : 0 < n) : ∃ a t, figL n = a :: t ∧ 49 ≤ a.toNat ∧ a.toNat ≤ 57 := by
  induction n using Nat.strongRecOn with
  | _ n ih =>
    by_cases h1 : n < 10
    · exact ⟨_, _, fig_one h1, by rw [fig_toNat h1]; omega, by rw [fig_toNat h1]; omega⟩
    · obtain ⟨a, t, e, h2, h3⟩ := ih (n / 10) (by omega) (by omega)
      exact ⟨a, t ++ [(48 + n % 10).toUInt8], by rw [fig_more h1, e]; rfl, h2, h3⟩
theorem fig_len (n : Nat) (k : Nat) (h : n < 10 ^ (k + 1)) : (figL n).length ≤ k + 1 := by
  induction k generalizing n with
  | zero => rw [fig_one (by simpa using h)]; simp
  | succ k ih =>
    by_cases h1 : n < 10
    · rw [fig_one h1]; simp
    · rw [fig_more h1, List.length_append]
      have := ih (n / 10) (by rw [Nat.pow_succ] at h; omega)
      simp; omega
theorem fig_len_ge (n : Nat) (k : Nat) (h : 10 ^ k ≤ n) : k + 1 ≤ (figL n).length := by
  induction k generalizing n with
  | zero =>
    by_cases h1 : n < 10
    · rw [fig_one h1]; simp
    · rw [fig_more h1, List.length_append]; simp
  | succ k ih =>
    have hp : 0 < 10 ^ k := Nat.pow_pos (by decide)
    rw [Nat.pow_succ] at h
    rw [fig_more (by omega), List.length_append]
    have := ih (n / 10) (by omega)
    simp; omega
theorem fig_ne (n : Nat) : figL n ≠ [] := by
  intro e
  by_cases h : n < 10
  · rw [fig_one h] at e; cases e
  · rw [fig_more h] at e; simp at e

/-! ### The machine: 0 to 4 as a name's; 5: behind a star; 6: behind a colon; 7 to 10: behind so many figures -/
def stepX (q : Nat) (c : UInt8) : Nat :=
  if q = 5 ∨ 10 ≤ q then 4 else if q = 6 then (if 49 ≤ c.toNat ∧ c.toNat ≤ 57 then 7 else 4) else if 7 ≤ q then (if 48 ≤ c.toNat ∧ c.toNat ≤ 57 then q + 1 else 4)
  else if q = 1 ∧ c = 42 then 5 else if q = 1 ∧ c = 58 then 6 else stepN q c
def runX (q : Nat) (l : List UInt8) : Nat := runM stepX q l
def accX (q : Nat) : Bool := decide (q = 1 ∨ q = 5 ∨ 7 ≤ q)
def badX (l : List UInt8) : Nat := goM stepX 4 0 l
theorem stepX_dead (c : UInt8) : stepX 4 c = 4 := by
  unfold stepX
  rw [if_neg (by omega), if_neg (by omega), if_neg (by omega), if_neg (by omega), if_neg (by omega), step_dead]
theorem stepX_name {q : Nat} (hq : q ≤ 4) {c : UInt8} (h : q ≠ 1 ∨ (c ≠ 42 ∧ c ≠ 58)) : stepX q c = stepN q c := by
  unfold stepX
  rw [if_neg (by omega), if_neg (by omega), if_neg (by omega)]
  by_cases h1 : q = 1
  · have := h.resolve_left (fun e => e h1)
    rw [if_neg (by simp [this.1]), if_neg (by simp [this.2])]
  · rw [if_neg (by simp [h1]), if_neg (by simp [h1])]
theorem stepX_star : stepX 1 42 = 5 := by decide
theorem stepX_colon : stepX 1 58 = 6 := by decide
theorem none42 : noneB 42 = true := by decide
theorem none58 : noneB 58 = true := by decide
theorem stepX_le (q : Nat) (c : UInt8) (h : q ≤ 10) : stepX q c ≤ 10 := by
  have := step_le q c
  unfold stepX
  (repeat' split) <;> omega
theorem runX_le (q : Nat) (l : List UInt8) (h : q ≤ 10) : runX q l ≤ 10 := by
  unfold runX
  induction l generalizing q with
  | nil => exact h
  | cons a t ih => rw [runM_cons]; exact ih _ (stepX_le q a h)
theorem stepN_none {q : Nat} {c : UInt8} (h : c = 42 ∨ c = 58) : stepN q c = 4 := by
  rcases h with rfl | rfl
  · exact step_none none42 q
  · exact step_none none58 q
/-- a name's run, as long as it is alive, is the machine's -/
theorem run_name (q : Nat) (hq : q ≤ 3) (l : List UInt8) (h : runN q l ≠ 4) : runX q l = runN q l := by
  induction l generalizing q with
  | nil => rfl
  | cons a t ih =>
    rw [run_cons] at h ⊢
    have h4 : stepN q a ≠ 4 := by intro e; rw [e, run_dead] at h; exact h rfl
    have hne : a ≠ 42 ∧ a ≠ 58 := ⟨fun e => h4 (stepN_none (.inl e)), fun e => h4 (stepN_none (.inr e))⟩
    show runM stepX q (a :: t) = _
    rw [runM_cons, stepX_name (by omega) (.inr hne)]
    exact ih _ (by have := step_le q a; omega) h
theorem name_runX {l : List UInt8} (h : nameB l = true) : runX 0 l = 1 := by
  rw [name_run] at h
  rw [run_name 0 (by decide) l (by rw [h]; decide), h]

/-! ### Back, by the last byte -/
theorem back_low {q : Nat} {c : UInt8} (h : stepX q c ≤ 3) : q ≤ 3 ∧ stepN q c = stepX q c := by
  have h2 := h
  unfold stepX at h
  split at h
  · omega
  split at h
  · split at h <;> omega
  split at h
  · split at h <;> omega
  split at h
  · omega
  split at h
  · omega
  · rename_i a b c' d e
    refine ⟨?_, ?_⟩
    · apply Classical.byContradiction
      intro hn
      have e4 : q = 4 := by omega
      rw [e4, step_dead] at h
      omega
    · unfold stepX
      rw [if_neg a, if_neg b, if_neg c', if_neg d, if_neg e]
theorem back_star {q : Nat} {c : UInt8} (h : stepX q c = 5) : q = 1 ∧ c = 42 := by
  unfold stepX at h
  split at h
  · omega
  split at h
  · split at h <;> omega
  split at h
  · split at h <;> omega
  split at h
  · assumption
  split at h
  · omega
  · have := step_le q c; omega
theorem back_colon {q : Nat} {c : UInt8} (h : stepX q c = 6) : q = 1 ∧ c = 58 := by
  unfold stepX at h
  split at h
  · omega
  split at h
  · split at h <;> omega
  split at h
  · split at h <;> omega
  split at h
  · omega
  split at h
  · assumption
  · have := step_le q c; omega
theorem back_first {q : Nat} {c : UInt8} (h : stepX q c = 7) : q = 6 ∧ 49 ≤ c.toNat ∧ c.toNat ≤ 57 := by
  unfold stepX at h
  split at h
  · omega
  split at h
  · split at h
    · rename_i h1 h2; exact ⟨h1, h2⟩
    · omega
  split at h
  · split at h <;> omega
  split at h
  · omega
  split at h
  · omega
  · have := step_le q c; omega
theorem back_next {q : Nat} {c : UInt8} (h : 8 ≤ stepX q c) : 7 ≤ q ∧ q ≤ 9 ∧ stepX q c = q + 1 ∧ digB c = true := by
  rw [dig_iff]
  have h0 := h
  unfold stepX at h
  split at h
  · omega
  split at h
  · split at h <;> omega
  split at h
  · split at h
    · rename_i a b c' d
      refine ⟨c', by omega, ?_, d⟩
      unfold stepX
      rw [if_neg a, if_neg b, if_pos c', if_pos d]
    · omega
  split at h
  · omega
  split at h
  · omega
  · have := step_le q c; omega
theorem runX_snoc (q : Nat) (l : List UInt8) (c : UInt8) : runX q (l ++ [c]) = stepX (runX q l) c := by
  unfold runX; rw [runM_app]; rfl
theorem low_name (l : List UInt8) (h : runX 0 l ≤ 3) : runN 0 l = runX 0 l := by
  refine snoc_induct (P := fun l => runX 0 l ≤ 3 → runN 0 l = runX 0 l) (fun _ => rfl) ?_ l h
  intro l a ih h
  rw [runX_snoc] at h ⊢
  obtain ⟨h1, h2⟩ := back_low h
  rw [run_app, ih h1, ← h2]
  rfl
theorem one_name {l : List UInt8} (h : runX 0 l = 1) : nameB l = true := by
  rw [name_run, low_name l (by omega), h]
theorem snoc_or (l : List UInt8) : l = [] ∨ ∃ a c, l = a ++ [c] := by
  refine snoc_induct (P := fun l => l = [] ∨ ∃ a c, l = a ++ [c]) (.inl rfl) (fun l a _ => .inr ⟨l, a, rfl⟩) l
theorem run_snoc_of {l : List UInt8} (h : runX 0 l ≠ 0) : ∃ a c, l = a ++ [c] ∧ runX 0 l = stepX (runX 0 a) c := by
  rcases snoc_or l with rfl | ⟨a, c, rfl⟩
  · exact absurd rfl h
  · exact ⟨a, c, rfl, runX_snoc _ _ _⟩
/-- what stands behind the colon: figures, the first none 0, four at most -/
def numB (l : List UInt8) : Prop := ∃ a t, l = a :: t ∧ 49 ≤ a.toNat ∧ a.toNat ≤ 57 ∧ t.all digB = true ∧ t.length ≤ 3
theorem run_high (k : Nat) : ∀ l : List UInt8, runX 0 l = 7 + k → ∃ n d, l = n ++ 58 :: d ∧ nameB n = true ∧ numB d ∧ d.length = k + 1 := by
  induction k with
  | zero =>
    intro l h
    obtain ⟨a, c, rfl, e⟩ := run_snoc_of (l := l) (by omega)
    rw [h] at e
    obtain ⟨h1, h2, h3⟩ := back_first e.symm
    obtain ⟨b, c2, rfl, e2⟩ := run_snoc_of (l := a) (by omega)
    rw [h1] at e2
    obtain ⟨h4, h5⟩ := back_colon e2.symm
    subst h5
    exact ⟨b, [c], by simp, one_name h4, ⟨c, [], rfl, h2, h3, rfl, by simp⟩, rfl⟩
  | succ k ih =>
    intro l h
    obtain ⟨a, c, rfl, e⟩ := run_snoc_of (l := l) (by omega)
    obtain ⟨h1, h2, h3, h4⟩ := back_next (q := runX 0 a) (c := c) (by omega)
    obtain ⟨n, d, rfl, hn, ⟨x, t, rfl, x1, x2, x3, x4⟩, hl⟩ := ih a (by omega)
    refine ⟨n, x :: t ++ [c], by simp, hn, ⟨x, t ++ [c], rfl, x1, x2, ?_, ?_⟩, ?_⟩
    · rw [List.all_append, x3, List.all_cons, h4]; rfl
    · simp at hl ⊢; omega
    · simp at hl ⊢; omega
/-- figures are a number's -/
theorem num_fig (t : List UInt8) : ∀ a : UInt8, 49 ≤ a.toNat → a.toNat ≤ 57 → t.all digB = true → ∃ n, 0 < n ∧ figL n = a :: t ∧ valZ (a :: t) = n := by
  refine snoc_induct (P := fun t => ∀ a : UInt8, 49 ≤ a.toNat → a.toNat ≤ 57 → t.all digB = true → ∃ n, 0 < n ∧ figL n = a :: t ∧ valZ (a :: t) = n) ?_ ?_ t
  · intro a h1 h2 _
    refine ⟨a.toNat - 48, by omega, ?_, by rw [val_one]; omega⟩
    rw [fig_one (by omega)]
    congr 1
    rw [show 48 + (a.toNat - 48) = a.toNat by omega]; simp
  · intro t c ih a h1 h2 h3
    rw [List.all_append, Bool.and_eq_true] at h3
    obtain ⟨n, hn, e1, e2⟩ := ih a h1 h2 h3.1
    have hc := h3.2
    rw [List.all_cons, List.all_nil, Bool.and_true, dig_iff] at hc
    refine ⟨10 * n + (c.toNat - 48), by omega, ?_, ?_⟩
    · rw [fig_more (by omega), show (10 * n + (c.toNat - 48)) / 10 = n by omega, e1, show 48 + (10 * n + (c.toNat - 48)) % 10 = c.toNat by omega]
      simp
    · rw [← List.cons_append, val_snoc, e2]; omega

/-! ### A variable: its name, its prefix, its star -/
structure Sp where
  name : List UInt8
  max : Int
  star : Bool
def mayX (x : Sp) : Bool := nameB x.name && decide (0 ≤ x.max ∧ x.max ≤ 9999) && (!x.star || decide (x.max = 0))
def putL (x : Sp) : List UInt8 := if mayX x then (if x.star then x.name ++ [42] else if 0 < x.max then x.name ++ 58 :: figL x.max.toNat else x.name) else []
theorem may_iff (x : Sp) : mayX x = true ↔ nameB x.name = true ∧ 0 ≤ x.max ∧ x.max ≤ 9999 ∧ (x.star = true → x.max = 0) := by
  unfold mayX
  cases x.star <;> simp [and_assoc]
theorem fig_num {n : Nat} (h0 : 0 < n) (h1 : n ≤ 9999) : numB (figL n) := by
  obtain ⟨a, t, e, h2, h3⟩ := fig_head n h0
  have hd := fig_dig n
  have hl := fig_len n 3 (by omega)
  rw [e] at hd hl
  rw [List.all_cons, Bool.and_eq_true] at hd
  exact ⟨a, t, e, h2, h3, hd.2, by simpa using hl⟩
theorem stepX_first {a : UInt8} (h1 : 49 ≤ a.toNat) (h2 : a.toNat ≤ 57) : stepX 6 a = 7 := by
  unfold stepX; rw [if_neg (by omega), if_pos rfl, if_pos ⟨h1, h2⟩]
theorem stepX_dig {q : Nat} (hq : 7 ≤ q) (hq2 : q ≤ 9) {c : UInt8} (h : digB c = true) : stepX q c = q + 1 := by
  rw [dig_iff] at h
  unfold stepX; rw [if_neg (by omega), if_neg (by omega), if_pos hq, if_pos h]
theorem run_digs (t : List UInt8) : ∀ q, 7 ≤ q → q + t.length ≤ 10 → t.all digB = true → runX q t = q + t.length := by
  induction t with
  | nil => intro q _ _ _; rfl
  | cons c t ih =>
    intro q h1 h2 h3
    rw [List.all_cons, Bool.and_eq_true] at h3
    simp only [List.length_cons] at h2 ⊢
    show runM stepX q (c :: t) = _
    rw [runM_cons, stepX_dig h1 (by omega) h3.1]
    have := ih (q + 1) (by omega) (by omega) h3.2
    show runX (q + 1) t = _
    omega
theorem run_num {d : List UInt8} (h : numB d) : runX 6 d = 6 + d.length := by
  obtain ⟨a, t, rfl, h1, h2, h3, h4⟩ := h
  show runM stepX 6 (a :: t) = _
  rw [runM_cons, stepX_first h1 h2]
  have := run_digs t 7 (by omega) (by omega) h3
  simp only [List.length_cons]
  show runX 7 t = _
  omega
theorem run_colon {n : List UInt8} (hn : nameB n = true) (d : List UInt8) : runX 0 (n ++ 58 :: d) = runX 6 d := by
  unfold runX
  rw [runM_app, show runM stepX 0 n = 1 from name_runX hn, runM_cons, stepX_colon]
theorem run_star {n : List UInt8} (hn : nameB n = true) (d : List UInt8) : runX 0 (n ++ 42 :: d) = runX 5 d := by
  unfold runX
  rw [runM_app, show runM stepX 0 n = 1 from name_runX hn, runM_cons, stepX_star]
theorem put_run {x : Sp} (h : mayX x = true) : accX (runX 0 (putL x)) = true := by
  unfold putL
  rw [if_pos h]
  obtain ⟨h1, h2, h3, h4⟩ := (may_iff x).1 h
  split
  · rw [run_star h1]; decide
  · split
    · rename_i hp
      have hn := fig_num (n := x.max.toNat) (by omega) (by omega)
      rw [run_colon h1, run_num hn]
      unfold accX
      have : figL x.max.toNat ≠ [] := fig_ne _
      have := List.length_pos_iff.2 this
      simp; omega
    · rw [name_runX h1]; decide
theorem num_max {d : List UInt8} (h : numB d) : ∃ m : Nat, 0 < m ∧ m ≤ 9999 ∧ figL m = d ∧ valZ d = m := by
  obtain ⟨a, t, rfl, h1, h2, h3, h4⟩ := h
  obtain ⟨n, hn, e1, e2⟩ := num_fig t a h1 h2 h3
  refine ⟨n, hn, ?_, e1, e2⟩
  apply Classical.byContradiction
  intro hb
  have := fig_len_ge n 4 (by omega)
  rw [e1] at this
  simp at this
  omega
/-- what the machine takes is a variable's -/
theorem run_put {l : List UInt8} (h : accX (runX 0 l) = true) : ∃ x, mayX x = true ∧ putL x = l := by
  have hle := runX_le 0 l (by decide)
  have hc : runX 0 l = 1 ∨ runX 0 l = 5 ∨ 7 ≤ runX 0 l := by simpa [accX] using h
  rcases hc with hc | hc | hc
  · have hn := one_name hc
    have hm : mayX ⟨l, 0, false⟩ = true := by rw [may_iff]; exact ⟨hn, by simp, by simp, fun h => by cases h⟩
    exact ⟨_, hm, by unfold putL; rw [if_pos hm]; simp⟩
  · obtain ⟨a, c, rfl, e⟩ := run_snoc_of (l := l) (by omega)
    rw [hc] at e
    obtain ⟨h1, rfl⟩ := back_star e.symm
    have hn := one_name h1
    have hm : mayX ⟨a, 0, true⟩ = true := by rw [may_iff]; exact ⟨hn, by simp, by simp, fun _ => rfl⟩
    exact ⟨_, hm, by unfold putL; rw [if_pos hm]; simp⟩
  · obtain ⟨n, d, rfl, hn, hd, _⟩ := run_high (runX 0 l - 7) l (by omega)
    obtain ⟨m, h1, h2, h3, _⟩ := num_max hd
    have hm : mayX ⟨n, m, false⟩ = true := by rw [may_iff]; exact ⟨hn, by simp, by simp; omega, fun h => by cases h⟩
    refine ⟨_, hm, ?_⟩
    unfold putL
    rw [if_pos hm]
    simp [h1, h3]
end Go.Proofs.YtjbnofljoijnmaaDoor
