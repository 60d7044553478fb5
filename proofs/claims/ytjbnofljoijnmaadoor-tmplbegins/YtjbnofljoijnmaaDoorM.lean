/-
  PLAIN LEAN, no program in it: machines that eat a text byte by byte, their states numbers, one of them dead.
-/
namespace Go.Proofs.YtjbnofljoijnmaaDoor

def runM (st : Nat → UInt8 → Nat) (q : Nat) (l : List UInt8) : Nat := l.foldl st q
/-- how many bytes one may go -/
def goM (st : Nat → UInt8 → Nat) (d : Nat) : Nat → List UInt8 → Nat
  | _, [] => 0
  | q, a :: t => if st q a = d then 0 else goM st d (st q a) t + 1
section
variable {st : Nat → UInt8 → Nat} {d : Nat}
theorem runM_nil (q : Nat) : runM st q [] = q := rfl
theorem runM_cons (q : Nat) (a : UInt8) (t : List UInt8) : runM st q (a :: t) = runM st (st q a) t := rfl
theorem runM_app (q : Nat) (a b : List UInt8) : runM st q (a ++ b) = runM st (runM st q a) b := by unfold runM; rw [List.foldl_append]
theorem runM_dead (hd : ∀ c, st d c = d) (l : List UInt8) : runM st d l = d := by
  induction l with
  | nil => rfl
  | cons a t ih => rw [runM_cons, hd, ih]
theorem goM_le (q : Nat) (l : List UInt8) : goM st d q l ≤ l.length := by
  induction l generalizing q with
  | nil => simp [goM]
  | cons a t ih =>
    simp only [goM, List.length_cons]
    split
    · omega
    · have := ih (st q a); omega
theorem goM_iff (hd : ∀ c, st d c = d) (q : Nat) (hq : q ≠ d) (l : List UInt8) (k : Nat) (hk : k ≤ l.length) : runM st q (l.take k) ≠ d ↔ k ≤ goM st d q l := by
  induction l generalizing q k with
  | nil => simp at hk; subst hk; simp [goM, runM_nil, hq]
  | cons a t ih =>
    cases k with
    | zero => simp [runM_nil, hq]
    | succ k =>
      simp only [List.take_succ_cons, runM_cons, goM]
      by_cases h : st q a = d
      · rw [h, runM_dead hd, if_pos rfl]; simp
      · rw [if_neg h, ih (st q a) h k (by simpa using hk)]; omega
theorem goM_all (hd : ∀ c, st d c = d) {q : Nat} {l : List UInt8} (h : runM st q l ≠ d) : goM st d q l = l.length := by
  have hq : q ≠ d := by intro e; rw [e, runM_dead hd] at h; exact h rfl
  have h1 := goM_le (st := st) (d := d) q l
  have h2 := (goM_iff hd q hq l l.length (Nat.le_refl _)).1 (by rw [List.take_length]; exact h)
  omega
theorem goM_part (hd : ∀ c, st d c = d) {q : Nat} (hq : q ≠ d) {l : List UInt8} (h : runM st q l = d) : goM st d q l < l.length := by
  have h1 := goM_le (st := st) (d := d) q l
  have h2 := (goM_iff hd q hq l l.length (Nat.le_refl _)).2
  rw [List.take_length] at h2
  apply Classical.byContradiction
  intro hn
  exact h2 (by omega) h
theorem goM_app (hd : ∀ c, st d c = d) {q : Nat} {a : List UInt8} (b : List UInt8) (h : runM st q a ≠ d) : goM st d q (a ++ b) = a.length + goM st d (runM st q a) b := by
  induction a generalizing q with
  | nil => simp [runM_nil]
  | cons x t ih =>
    rw [runM_cons] at h ⊢
    have hx : st q x ≠ d := by intro e; rw [e, runM_dead hd] at h; exact h rfl
    simp only [List.cons_append, goM, List.length_cons]
    rw [if_neg hx, ih h]
    omega
theorem goM_take (hd : ∀ c, st d c = d) {q : Nat} (hq : q ≠ d) (l : List UInt8) : goM st d q (l.take (goM st d q l)) = goM st d q l := by
  have h1 := (goM_iff hd q hq l _ (goM_le q l)).2 (Nat.le_refl _)
  rw [goM_all hd h1, List.length_take, Nat.min_eq_left (goM_le q l)]
theorem goM_more (hd : ∀ c, st d c = d) {q : Nat} (hq : q ≠ d) (l m : List UInt8) (h : goM st d q l ≠ l.length) : goM st d q (l ++ m) = goM st d q l := by
  have hlt : goM st d q l < l.length := by have := goM_le (st := st) (d := d) q l; omega
  have h1 : goM st d q l ≤ goM st d q (l ++ m) := (goM_iff hd q hq (l ++ m) _ (by simp; omega)).1 (by
    rw [List.take_append_of_le_length (by omega)]
    exact (goM_iff hd q hq l _ (by omega)).2 (Nat.le_refl _))
  have h2 : ¬ goM st d q l + 1 ≤ goM st d q (l ++ m) := by
    intro h2
    have h3 := (goM_iff hd q hq (l ++ m) _ (by simp; omega)).2 h2
    rw [List.take_append_of_le_length (by omega)] at h3
    have := (goM_iff hd q hq l _ (by omega)).1 h3
    omega
  omega
end
end Go.Proofs.YtjbnofljoijnmaaDoor
