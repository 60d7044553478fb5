/-
  PLAIN LEAN, no program in it: names of variables (layer 5), byte by byte: where one stands in a name; what follows.
-/
import Derived.Test.YtgnccmmbpgnamaaZ
namespace Go.Proofs.Ytgnccmmbpgnamaa

/-- a letter, a figure, or a low line -/
def wordN (n : Nat) : Bool := decide (48 ≤ n ∧ n ≤ 57 ∨ 65 ≤ n ∧ n ≤ 90 ∨ 97 ≤ n ∧ n ≤ 122 ∨ n = 95)
def wordB (c : UInt8) : Bool := wordN c.toNat
/-- where one stands: 0: at the begin, or behind a point; 1: behind a character; 2, 3: within a triplet, behind its first, its second byte; 4: there is no name -/
def stepN (q : Nat) (c : UInt8) : Nat :=
  if q = 2 then (if hexB c then 3 else 4) else if q = 3 then (if hexB c then 1 else 4) else if 4 ≤ q then 4
  else if wordB c then 1 else if c = 37 then 2 else if c = 46 ∧ q = 1 then 0 else 4
def runN (q : Nat) (l : List UInt8) : Nat := l.foldl stepN q
/-- a text is a name -/
def nameB (l : List UInt8) : Bool := decide (runN 0 l = 1)
/-- how many bytes one may go -/
def goN : Nat → List UInt8 → Nat
  | _, [] => 0
  | q, a :: t => if stepN q a = 4 then 0 else goN (stepN q a) t + 1
def badN (l : List UInt8) : Nat := goN 0 l
/-- the longest begin, of k bytes at most, that is a name -/
def endK (l : List UInt8) : Nat → Nat
  | 0 => 0
  | k + 1 => if nameB (l.take (k + 1)) then k + 1 else endK l k
def endN (l : List UInt8) : Nat := endK l l.length

theorem run_nil (q : Nat) : runN q [] = q := rfl
theorem run_cons (q : Nat) (a : UInt8) (t : List UInt8) : runN q (a :: t) = runN (stepN q a) t := rfl
theorem run_app (q : Nat) (a b : List UInt8) : runN q (a ++ b) = runN (runN q a) b := by unfold runN; rw [List.foldl_append]
theorem step_dead (c : UInt8) : stepN 4 c = 4 := by simp [stepN]
theorem run_dead (l : List UInt8) : runN 4 l = 4 := by
  induction l with
  | nil => rfl
  | cons a t ih => rw [run_cons, step_dead, ih]
theorem step_le (q : Nat) (c : UInt8) : stepN q c ≤ 4 := by
  unfold stepN
  (repeat' split) <;> omega
theorem run_le (q : Nat) (l : List UInt8) (h : q ≤ 4) : runN q l ≤ 4 := by
  induction l generalizing q with
  | nil => exact h
  | cons a t ih => rw [run_cons]; exact ih _ (step_le q a)

theorem word_fin0 : ∀ n : Fin 256, wordN n.val = true → n.val ≠ 37 ∧ n.val ≠ 46 := by decide +kernel
theorem hexw_fin0 : ∀ n : Fin 256, hexN n.val = true → wordN n.val = true := by decide +kernel
theorem word_ne {c : UInt8} (h : wordB c = true) : c ≠ 37 ∧ c ≠ 46 := by
  have := word_fin0 ⟨c.toNat, UInt8.toNat_lt c⟩ h
  exact ⟨ne37 this.1, fun e => this.2 (by rw [e]; rfl)⟩
theorem hex_word {c : UInt8} (h : hexB c = true) : wordB c = true := hexw_fin0 ⟨c.toNat, UInt8.toNat_lt c⟩ h

/-! ### Step by step, by characters -/
theorem run_word {q : Nat} (hq : q ≤ 1) {a : UInt8} (h : wordB a = true) (t : List UInt8) : runN q (a :: t) = runN 1 t := by
  rw [run_cons]; unfold stepN
  rw [if_neg (by omega), if_neg (by omega), if_neg (by omega), if_pos h]
theorem run_trip {q : Nat} (hq : q ≤ 1) {b c : UInt8} (hb : hexB b = true) (hc : hexB c = true) (r : List UInt8) : runN q (37 :: b :: c :: r) = runN 1 r := by
  rw [run_cons, run_cons, run_cons]
  have h1 : stepN q 37 = 2 := by
    unfold stepN
    rw [if_neg (by omega), if_neg (by omega), if_neg (by omega), if_neg (by decide), if_pos rfl]
  have h2 : stepN 2 b = 3 := by simp [stepN, hb]
  have h3 : stepN 3 c = 1 := by simp [stepN, hc]
  rw [h1, h2, h3]
theorem run_point (t : List UInt8) : runN 1 (46 :: t) = runN 0 t ∧ runN 0 (46 :: t) = 4 := by
  constructor
  · rw [run_cons]; rfl
  · rw [run_cons]
    show runN 4 t = 4
    exact run_dead t
/-- a % that begins no triplet -/
theorem run_half {q : Nat} (hq : q ≤ 1) {t : List UInt8} (h : tripB (37 :: t) = false) : runN q (37 :: t) ≠ 1 := by
  rw [run_cons]
  have h1 : stepN q 37 = 2 := by
    unfold stepN
    rw [if_neg (by omega), if_neg (by omega), if_neg (by omega), if_neg (by decide), if_pos rfl]
  rw [h1]
  match t with
  | [] => decide
  | [b] =>
    rw [run_cons, run_nil]
    unfold stepN
    (repeat' split) <;> omega
  | b :: c :: r =>
    rw [trip_three] at h
    rw [run_cons, run_cons]
    cases hb : hexB b with
    | false =>
      have : stepN 2 b = 4 := by simp [stepN, hb]
      rw [this, step_dead, run_dead]; decide
    | true =>
      rw [hb] at h
      have h2 : stepN 2 b = 3 := by simp [stepN, hb]
      have h3 : stepN 3 c = 4 := by
        cases hc : hexB c with
        | false => simp [stepN, hc]
        | true => rw [hc] at h; cases h
      rw [h2, h3, run_dead]; decide
theorem run_other {q : Nat} (hq : q ≤ 1) {a : UInt8} (hw : wordB a = false) (h37 : a ≠ 37) (h46 : a ≠ 46 ∨ q = 0) (t : List UInt8) : runN q (a :: t) = 4 := by
  rw [run_cons]
  have : stepN q a = 4 := by
    unfold stepN
    rw [if_neg (by omega), if_neg (by omega), if_neg (by omega), if_neg (by rw [hw]; simp), if_neg h37, if_neg (by rintro ⟨h1, h2⟩; rcases h46 with h | h; exact h h1; omega)]
  rw [this, run_dead]

/-! ### Begins -/
theorem go_le (q : Nat) (l : List UInt8) : goN q l ≤ l.length := by
  induction l generalizing q with
  | nil => simp [goN]
  | cons a t ih =>
    unfold goN
    split
    · simp
    · have := ih (stepN q a); simp; omega
/-- just so far one may go -/
theorem go_iff (q : Nat) (hq : q ≠ 4) (l : List UInt8) (k : Nat) (hk : k ≤ l.length) : runN q (l.take k) ≠ 4 ↔ k ≤ goN q l := by
  induction l generalizing q k with
  | nil => simp at hk; subst hk; simp [goN, run_nil, hq]
  | cons a t ih =>
    cases k with
    | zero => simp [run_nil, hq]
    | succ k =>
      rw [List.take_succ_cons, run_cons]
      unfold goN
      split
      · rename_i h; rw [h, run_dead]; simp
      · rename_i h
        rw [ih _ h k (by simpa using hk)]
        omega
theorem bad_iff' (l : List UInt8) (k : Nat) (hk : k ≤ l.length) : runN 0 (l.take k) ≠ 4 ↔ k ≤ badN l := go_iff 0 (by decide) l k hk
theorem bad_le (l : List UInt8) : badN l ≤ l.length := go_le 0 l
/-- what is told to go so far goes so far by itself -/
theorem bad_take (l : List UInt8) : badN (l.take (badN l)) = badN l := by
  have h1 := bad_le (l.take (badN l))
  rw [List.length_take, Nat.min_eq_left (bad_le l)] at h1
  have h2 := (bad_iff' (l.take (badN l)) (badN l) (by rw [List.length_take, Nat.min_eq_left (bad_le l)]; exact Nat.le_refl _)).1 (by
    rw [List.take_take, Nat.min_self]
    exact (bad_iff' l (badN l) (bad_le l)).2 (Nat.le_refl _))
  omega
theorem bad_more (l m : List UInt8) (h : badN l ≠ l.length) : badN (l ++ m) = badN l := by
  have hlt : badN l < l.length := by have := bad_le l; omega
  have h1 : badN l ≤ badN (l ++ m) := (bad_iff' (l ++ m) (badN l) (by simp; omega)).1 (by
    rw [List.take_append_of_le_length (by omega)]
    exact (bad_iff' l (badN l) (by omega)).2 (Nat.le_refl _))
  have h2 : ¬ (badN l + 1 ≤ badN (l ++ m)) := by
    intro h3
    have h4 := (bad_iff' (l ++ m) (badN l + 1) (by simp; omega)).2 h3
    rw [List.take_append_of_le_length (by omega)] at h4
    have := (bad_iff' l (badN l + 1) (by omega)).1 h4
    omega
  omega

/-! ### The longest name -/
theorem end_le (l : List UInt8) (k : Nat) : endK l k ≤ k := by
  induction k with
  | zero => exact Nat.le_refl _
  | succ k ih => unfold endK; split <;> omega
theorem end_name (l : List UInt8) (k : Nat) (h : endK l k ≠ 0) : nameB (l.take (endK l k)) = true := by
  induction k with
  | zero => exact absurd rfl h
  | succ k ih =>
    unfold endK at h ⊢
    split
    · rename_i hn; exact hn
    · rename_i hn
      rw [if_neg hn] at h
      exact ih h
theorem end_most (l : List UInt8) (k j : Nat) (hj : 1 ≤ j) (hjk : j ≤ k) (h : nameB (l.take j) = true) : j ≤ endK l k := by
  induction k with
  | zero => omega
  | succ k ih =>
    unfold endK
    split
    · omega
    · rename_i hn
      by_cases e : j = k + 1
      · subst e; exact absurd h hn
      · exact ih (by omega)
theorem name_run {l : List UInt8} : nameB l = true ↔ runN 0 l = 1 := by simp [nameB]
theorem name_ne {l : List UInt8} (h : nameB l = true) : l ≠ [] := by
  intro e; rw [e] at h; cases h
theorem end_bad (l : List UInt8) : endN l ≤ badN l := by
  by_cases h : endN l = 0
  · omega
  · have h1 := end_name l l.length h
    have h2 := end_le l l.length
    exact (bad_iff' l (endN l) h2).1 (by rw [name_run] at h1; show runN 0 (l.take (endK l l.length)) ≠ 4; rw [h1]; decide)
theorem end_whole (l : List UInt8) : nameB l = (decide (endN l = l.length) && decide (0 < endN l)) := by
  cases h : nameB l with
  | true =>
    have h1 : 1 ≤ l.length := by have := List.length_pos_iff.2 (name_ne h); omega
    have h2 := end_most l l.length l.length h1 (Nat.le_refl _) (by rw [List.take_length]; exact h)
    have h3 := end_le l l.length
    have h4 : endN l = l.length := by unfold endN; omega
    rw [h4]; simp; omega
  | false =>
    symm
    apply Classical.byContradiction
    intro hc
    simp at hc
    have h1 := end_name l l.length (by unfold endN at hc; omega)
    have h2 : endK l l.length = l.length := hc.1
    rw [h2, List.take_length, h] at h1
    cases h1
end Go.Proofs.Ytgnccmmbpgnamaa
