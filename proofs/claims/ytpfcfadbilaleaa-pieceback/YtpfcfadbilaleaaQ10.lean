/-
  TEXTS JOINED: V1.
-/
import Derived.Below
/-
  PLAIN LEAN, no program in it: values (layer 8): their texts, what is left of them, their order.
-/
namespace Go.Proofs.Ytpfcfadbilaleaa

/-- a value -/
structure Vl where
  kind : Int
  s : List UInt8
  l : List (List UInt8)
  p : List (List UInt8 × List UInt8)
def zeroV : Vl := ⟨0, [], [], []⟩
def flatP (p : List (List UInt8 × List UInt8)) : List (List UInt8) := p.flatMap fun q => [q.1, q.2]
def textsV (v : Vl) : List (List UInt8) := if v.kind = 1 then [v.s] else if v.kind = 2 then v.l else if v.kind = 3 then flatP v.p else []
def pairsL : List (List UInt8) → List (List UInt8 × List UInt8)
  | a :: b :: r => (a, b) :: pairsL r
  | _ => []
def ofV (k : Int) (l : List (List UInt8)) : Option Vl :=
  if k = 1 ∧ l.length = 1 then some ⟨k, l.headD [], [], []⟩ else if k = 2 ∧ 0 < l.length then some ⟨k, [], l, []⟩
  else if k ≠ 3 ∨ l.length = 0 ∨ l.length % 2 = 1 then none else some ⟨k, [], [], pairsL l⟩
def canonV (v : Vl) : Vl := (ofV v.kind (textsV v)).getD zeroV
def definedV (v : Vl) : Bool := decide (0 < (textsV v).length)

theorem flat_len (p : List (List UInt8 × List UInt8)) : (flatP p).length = 2 * p.length := by
  induction p with
  | nil => rfl
  | cons a r ih =>
    show ([a.1, a.2] ++ flatP r).length = _
    rw [List.length_append, ih]
    show 2 + 2 * r.length = 2 * (r.length + 1)
    omega
theorem pairs_flat (p : List (List UInt8 × List UInt8)) : pairsL (flatP p) = p := by
  induction p with
  | nil => rfl
  | cons a r ih =>
    show pairsL (a.1 :: a.2 :: flatP r) = _
    rw [pairsL, ih]
theorem flat_pairs : ∀ l : List (List UInt8), l.length % 2 = 0 → flatP (pairsL l) = l
  | [], _ => rfl
  | [_], h => by simp at h
  | a :: b :: r, h => by
    show a :: b :: flatP (pairsL r) = _
    rw [flat_pairs r (by simp at h; omega)]
/-- what is made has just these texts, and this kind -/
theorem of_texts {k : Int} {l : List (List UInt8)} {c : Vl} (h : ofV k l = some c) : textsV c = l ∧ c.kind = k ∧ 0 < l.length := by
  unfold ofV at h
  split at h
  · rename_i h1
    cases h
    refine ⟨?_, rfl, by omega⟩
    obtain ⟨rfl, h1⟩ := h1
    match l, h1 with
    | [x], _ => rfl
  · split at h
    · rename_i h2
      cases h
      obtain ⟨rfl, h2⟩ := h2
      exact ⟨rfl, rfl, h2⟩
    · split at h
      · cases h
      · rename_i h3
        cases h
        have hk : k = 3 := by
          apply Classical.byContradiction
          intro e; exact h3 (.inl e)
        subst hk
        have h0 : l.length ≠ 0 := fun e => h3 (.inr (.inl e))
        have h1 : l.length % 2 ≠ 1 := fun e => h3 (.inr (.inr e))
        exact ⟨flat_pairs l (by omega), rfl, by omega⟩
/-- when there is one -/
theorem of_some (k : Int) (l : List (List UInt8)) : (ofV k l).isSome = (decide (k = 1 ∧ l.length = 1) || decide (k = 2 ∧ 0 < l.length) || decide (k = 3 ∧ 0 < l.length ∧ l.length % 2 = 0)) := by
  unfold ofV
  by_cases h1 : k = 1 ∧ l.length = 1
  · simp [h1]
  · rw [if_neg h1]
    by_cases h2 : k = 2 ∧ 0 < l.length
    · simp [h2]
    · rw [if_neg h2]
      by_cases h3 : k ≠ 3 ∨ l.length = 0 ∨ l.length % 2 = 1
      · rw [if_pos h3]
        have h4 : ¬ (k = 3 ∧ 0 < l.length ∧ l.length % 2 = 0) := by
          rintro ⟨a, b, c⟩
          rcases h3 with h | h | h
          · exact h a
          · omega
          · omega
        simp [h1, h2, h4]
      · rw [if_neg h3]
        have h4 : k = 3 ∧ 0 < l.length ∧ l.length % 2 = 0 := by
          refine ⟨?_, ?_, ?_⟩
          · apply Classical.byContradiction
            intro e; exact h3 (.inl e)
          · have : l.length ≠ 0 := fun e => h3 (.inr (.inl e))
            omega
          · have : l.length % 2 ≠ 1 := fun e => h3 (.inr (.inr e))
            omega
        simp [h4]
theorem of_defined (v : Vl) : (ofV v.kind (textsV v)).isSome = definedV v := by
  rw [of_some]
  unfold definedV textsV
  by_cases h1 : v.kind = 1
  · simp [h1]
  · by_cases h2 : v.kind = 2
    · simp [h2]
    · by_cases h3 : v.kind = 3
      · have := flat_len v.p
        simp [h3, this]
      · simp [h1, h2, h3]
theorem canon_yes {v : Vl} (h : definedV v = true) : ofV v.kind (textsV v) = some (canonV v) := by
  rw [← of_defined] at h
  unfold canonV
  cases ho : ofV v.kind (textsV v) with
  | none => rw [ho] at h; cases h
  | some c => rfl
theorem canon_no {v : Vl} (h : definedV v = false) : canonV v = zeroV := by
  rw [← of_defined] at h
  unfold canonV
  cases ho : ofV v.kind (textsV v) with
  | none => rfl
  | some c => rw [ho] at h; cases h
theorem texts_canon (v : Vl) : textsV (canonV v) = textsV v := by
  cases h : definedV v with
  | true => exact (of_texts (canon_yes h)).1
  | false =>
    rw [canon_no h]
    unfold definedV at h
    rw [decide_eq_false_iff_not] at h
    exact (List.eq_nil_of_length_eq_zero (by omega)).symm
theorem kind_canon (v : Vl) : (canonV v).kind = if definedV v then v.kind else 0 := by
  cases h : definedV v with
  | true => rw [if_pos rfl]; exact (of_texts (canon_yes h)).2.1
  | false => rw [canon_no h]; rfl
/-! ### Order -/
end Go.Proofs.Ytpfcfadbilaleaa
