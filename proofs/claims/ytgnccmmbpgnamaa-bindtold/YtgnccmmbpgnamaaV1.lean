/-
  PLAIN LEAN, no program in it: values (layer 8): their texts, what is left of them, their order.
-/
import Derived.Below
namespace Go.Proofs.Ytgnccmmbpgnamaa

/-- a value -/
structure Vl where
  kind : Int
  s : List UInt8
  l : List (List UInt8)
  p : List (List UInt8 × List UInt8)
def zeroV : Vl := ⟨0, [], [], []⟩
def flatP (p : List (List UInt8 × List UInt8)) : List (List UInt8) := p.flatMap fun q => [q.1, q.2]
def textsV (v : Vl) : List (List UInt8) := if v.kind = 1 then [v.s] else if v.kind = 2 then v.l else if v.kind = 3 then flatP v.p else []
def pairsL : List (List UInt8) → List (List UInt8 × List UInt8)
  | a :: b :: r => (a, b) :: pairsL r
  | _ => []
def ofV (k : Int) (l : List (List UInt8)) : Option Vl :=
  if k = 1 ∧ l.length = 1 then some ⟨k, l.headD [], [], []⟩ else if k = 2 ∧ 0 < l.length then some ⟨k, [], l, []⟩
  else if k ≠ 3 ∨ l.length = 0 ∨ l.length % 2 = 1 then none else some ⟨k, [], [], pairsL l⟩
def canonV (v : Vl) : Vl := (ofV v.kind (textsV v)).getD zeroV
def definedV (v : Vl) : Bool := decide (0 < (textsV v).length)

theorem flat_len (p : List (List UInt8 × List UInt8)) : (flatP p).length = 2 * p.length := by
  induction p with
  | nil => rfl
  | cons a r ih =>
    show ([a.1, a.2] ++ flatP r).length = _
    rw [List.length_append, ih]
    show 2 + 2 * r.length = 2 * (r.length + 1)
    omega
theorem pairs_flat (p : List (List UInt8 × List UInt8)) : pairsL (flatP p) = p := by
  induction p with
  | nil => rfl
  | cons a r ih =>
    show pairsL (a.1 :: a.2 :: flatP r) = _
    rw [pairsL, ih]
theorem flat_pairs : ∀ l : List (List UInt8), l.length % 2 = 0 → flatP (pairsL l) = l
  | [], _ => rfl
  | [_], h => by simp at h
  | a :: b :: r, h => by
    show a :: b :: flatP (pairsL r) = _
    rw [flat_pairs r (by simp at h; omega)]
/-- what is made has just these texts, and this kind -/
theorem of_texts {k : Int} {l : List (List UInt8)} {c : Vl} (h : ofV k l = some c) : textsV c = l ∧ c.kind = k ∧ 0 < l.length := by
  unfold ofV at h
  split at h
  · rename_i h1
    cases h
    refine ⟨?_, rfl, by omega⟩
    obtain ⟨rfl, h1⟩ := h1
    match l, h1 with
    | [x], _ => rfl
  · split at h
    · rename_i h2
      cases h
      obtain ⟨rfl, h2⟩ := h2
      exact ⟨rfl, rfl, h2⟩
    · split at h
      · cases h
      · rename_i h3
        cases h
        have hk : k = 3 := by
          apply Classical.byContradiction
          intro e; exact h3 (.inl e)
        subst hk
        have h0 : l.length ≠ 0 := fun e => h3 (.inr (.inl e))
        have h1 : l.length % 2 ≠ 1 := fun e => h3 (.inr (.inr e))
        exact ⟨flat_pairs l (by omega), rfl, by omega⟩
/-- when there is one -/
theorem of_some (k : Int) (l : List (List UInt8)) : (ofV k l).isSome = (decide (k = 1 ∧ l.length = 1) || decide (k = 2 ∧ 0 < l.length) || decide (k = 3 ∧ 0 < l.length ∧ l.length % 2 = 0)) := by
  unfold ofV
  by_cases h1 : k = 1 ∧ l.length = 1
  · simp [h1]
  · rw [if_neg h1]
    by_cases h2 : k = 2 ∧ 0 < l.length
    · simp [h2]
    · rw [if_neg h2]
      by_cases h3 : k ≠ 3 ∨ l.length = 0 ∨ l.length % 2 = 1
      · rw [if_pos h3]
        have h4 : ¬ (k = 3 ∧ 0 < l.length ∧ l.length % 2 = 0) := by
          rintro ⟨a, b, c⟩
          rcases h3 with h | h | h
          · exact h a
          · omega
          · omega
        simp [h1, h2, h4]
      · rw [if_neg h3]
        have h4 : k = 3 ∧ 0 < l.length ∧ l.length % 2 = 0 := by
          refine ⟨?_, ?_, ?_⟩
          · apply Classical.byContradiction
            intro e; exact h3 (.inl e)
          · have : l.length ≠ 0 := fun e => h3 (.inr (.inl e))
            omega
          · have : l.length % 2 ≠ 1 := fun e => h3 (.inr (.inr e))
            omega
        simp [h4]
theorem of_defined (v : Vl) : (ofV v.kind (textsV v)).isSome = definedV v := by
  rw [of_some]
  unfold definedV textsV
  by_cases h1 : v.kind = 1
  · simp [h1]
  · by_cases h2 : v.kind = 2
    · simp [h2]
    · by_cases h3 : v.kind = 3
      · have := flat_len v.p
        simp [h3, this]
      · simp [h1, h2, h3]
theorem canon_yes {v : Vl} (h : definedV v = true) : ofV v.kind (textsV v) = some (canonV v) := by
  rw [← of_defined] at h
  unfold canonV
  cases ho : ofV v.kind (textsV v) with
  | none => rw [ho] at h; cases h
  | some c => rfl
theorem canon_no {v : Vl} (h : definedV v = false) : canonV v = zeroV := by
  rw [← of_defined] at h
  unfold canonV
  cases ho : ofV v.kind (textsV v) with
  | none => rfl
  | some c => rw [ho] at h; cases h
theorem texts_canon (v : Vl) : textsV (canonV v) = textsV v := by
  cases h : definedV v with
  | true => exact (of_texts (canon_yes h)).1
  | false =>
    rw [canon_no h]
    unfold definedV at h
    rw [decide_eq_false_iff_not] at h
    exact (List.eq_nil_of_length_eq_zero (by omega)).symm
theorem kind_canon (v : Vl) : (canonV v).kind = if definedV v then v.kind else 0 := by
  cases h : definedV v with
  | true => rw [if_pos rfl]; exact (of_texts (canon_yes h)).2.1
  | false => rw [canon_no h]; rfl
theorem defined_canon (v : Vl) : definedV (canonV v) = definedV v := by unfold definedV; rw [texts_canon]
theorem canon_canon (v : Vl) : canonV (canonV v) = canonV v := by
  cases h : definedV v with
  | true =>
    have h1 := canon_yes (v := canonV v) (by rw [defined_canon]; exact h)
    rw [texts_canon, kind_canon, if_pos h, canon_yes h] at h1
    exact (Option.some.inj h1).symm
  | false => rw [canon_no h]; rfl

/-! ### Order -/
def ltB : List UInt8 → List UInt8 → Bool
  | _, [] => false
  | [], _ :: _ => true
  | a :: x, b :: y => if a = b then ltB x y else decide (a.toNat < b.toNat)
theorem ltB_irr (x : List UInt8) : ltB x x = false := by
  induction x with
  | nil => rfl
  | cons a x ih => simp [ltB, ih]
theorem ltB_total : ∀ x y : List UInt8, x ≠ y → ltB x y = !ltB y x
  | [], [], h => absurd rfl h
  | [], _ :: _, _ => rfl
  | _ :: _, [], _ => rfl
  | a :: x, b :: y, h => by
    unfold ltB
    by_cases e : a = b
    · subst e
      rw [if_pos rfl, if_pos rfl]
      exact ltB_total x y (fun e => h (by rw [e]))
    · rw [if_neg e, if_neg (fun e2 => e e2.symm)]
      have : a.toNat ≠ b.toNat := fun e2 => e (UInt8.toNat_inj.1 e2)
      rw [Bool.eq_iff_iff]
      simp only [decide_eq_true_eq, Bool.not_eq_true', decide_eq_false_iff_not]
      omega
theorem ltB_trans : ∀ x y z : List UInt8, ltB x y = true → ltB y z = true → ltB x z = true
  | _, [], _, h, _ => by simp [ltB] at h
  | _, _ :: _, [], _, h => by simp [ltB] at h
  | [], _ :: _, _ :: _, _, _ => rfl
  | a :: x, b :: y, c :: z, h1, h2 => by
    unfold ltB at h1 h2 ⊢
    by_cases e1 : a = b
    · subst e1
      rw [if_pos rfl] at h1
      by_cases e2 : a = c
      · subst e2
        rw [if_pos rfl] at h2 ⊢
        exact ltB_trans x y z h1 h2
      · rw [if_neg e2] at h2 ⊢
        exact h2
    · rw [if_neg e1, decide_eq_true_eq] at h1
      by_cases e2 : b = c
      · subst e2
        rw [if_neg e1, decide_eq_true_eq]
        exact h1
      · rw [if_neg e2, decide_eq_true_eq] at h2
        have e3 : a ≠ c := by intro e; rw [e] at h1; omega
        rw [if_neg e3, decide_eq_true_eq]
        omega
def lessL : List (List UInt8) → List (List UInt8) → Bool
  | _, [] => false
  | [], _ :: _ => true
  | x :: a, y :: b => if x = y then lessL a b else ltB x y
theorem less_irr (a : List (List UInt8)) : lessL a a = false := by
  induction a with
  | nil => rfl
  | cons x a ih => simp [lessL, ih]
theorem less_total : ∀ a b : List (List UInt8), a ≠ b → lessL a b = !lessL b a
  | [], [], h => absurd rfl h
  | [], _ :: _, _ => rfl
  | _ :: _, [], _ => rfl
  | x :: a, y :: b, h => by
    unfold lessL
    by_cases e : x = y
    · subst e
      rw [if_pos rfl, if_pos rfl]
      exact less_total a b (fun e => h (by rw [e]))
    · rw [if_neg e, if_neg (fun e2 => e e2.symm)]
      exact ltB_total x y e
theorem less_trans : ∀ a b c : List (List UInt8), lessL a b = true → lessL b c = true → lessL a c = true
  | _, [], _, h, _ => by simp [lessL] at h
  | _, _ :: _, [], _, h => by simp [lessL] at h
  | [], _ :: _, _ :: _, _, _ => rfl
  | x :: a, y :: b, z :: c, h1, h2 => by
    unfold lessL at h1 h2 ⊢
    by_cases e1 : x = y
    · subst e1
      rw [if_pos rfl] at h1
      by_cases e2 : x = z
      · subst e2
        rw [if_pos rfl] at h2 ⊢
        exact less_trans a b c h1 h2
      · rw [if_neg e2] at h2 ⊢
        exact h2
    · rw [if_neg e1] at h1
      by_cases e2 : y = z
      · subst e2
        rw [if_neg e1]
        exact h1
      · rw [if_neg e2] at h2
        have h3 := ltB_trans x y z h1 h2
        have e3 : x ≠ z := by intro e; rw [e, ltB_irr] at h3; cases h3
        rw [if_neg e3]
        exact h3
theorem less_more (l : List (List UInt8)) (s : List UInt8) : lessL l (l ++ [s]) = true := by
  induction l with
  | nil => rfl
  | cons x l ih => simp [lessL, ih]
def keyK (v : Vl) : Int := (canonV v).kind
def sameV (a b : Vl) : Bool := decide (keyK a = keyK b) && decide (textsV a = textsV b)
def aheadV (a b : Vl) : Bool := decide (keyK a < keyK b) || decide (keyK a = keyK b) && lessL (textsV a) (textsV b)
def compareV (a b : Vl) : Int := if aheadV a b then -1 else if sameV a b then 0 else 1
theorem ahead_irr (a : Vl) : aheadV a a = false := by simp [aheadV, less_irr]
theorem same_self (a : Vl) : sameV a a = true := by simp [sameV]
theorem ahead_total {a b : Vl} (h : sameV a b = false) : aheadV a b = !aheadV b a := by
  unfold aheadV
  rcases Int.lt_trichotomy (keyK a) (keyK b) with h1 | h1 | h1
  · have h2 : ¬ keyK b < keyK a := by omega
    have h3 : ¬ keyK b = keyK a := by omega
    simp [h1, h2, h3]
  · have h4 : textsV a ≠ textsV b := by
      intro e
      simp [sameV, h1, e] at h
    have h5 := less_total _ _ h4
    simp [h1, h5]
  · have h2 : ¬ keyK a < keyK b := by omega
    have h3 : ¬ keyK a = keyK b := by omega
    simp [h1, h2, h3]
theorem same_ahead {a b : Vl} (h : sameV a b = true) : aheadV a b = false ∧ aheadV b a = false := by
  simp only [sameV, Bool.and_eq_true, decide_eq_true_eq] at h
  unfold aheadV
  rw [h.1, h.2, less_irr]
  simp
theorem same_comm (a b : Vl) : sameV a b = sameV b a := by
  unfold sameV
  rw [Bool.eq_iff_iff]
  simp only [Bool.and_eq_true, decide_eq_true_eq]
  exact ⟨fun h => ⟨h.1.symm, h.2.symm⟩, fun h => ⟨h.1.symm, h.2.symm⟩⟩
theorem compare_self (a : Vl) : compareV a a = 0 := by unfold compareV; rw [ahead_irr, same_self]; rfl
theorem compare_back (a b : Vl) : compareV a b = -compareV b a := by
  unfold compareV
  rw [same_comm b a]
  cases h : sameV a b with
  | true =>
    have := same_ahead h
    rw [this.1, this.2]; rfl
  | false =>
    rw [ahead_total h]
    cases aheadV b a <;> rfl
theorem compare_same (a b : Vl) : (compareV a b = 0) ↔ sameV a b = true := by
  unfold compareV
  cases h : sameV a b with
  | true =>
    rw [(same_ahead h).1]; simp
  | false =>
    cases aheadV a b <;> simp
theorem compare_range (a b : Vl) : -1 ≤ compareV a b ∧ compareV a b ≤ 1 := by
  unfold compareV
  split
  · omega
  · split <;> omega
theorem ahead_trans {a b c : Vl} (h1 : aheadV a b = true) (h2 : aheadV b c = true) : aheadV a c = true := by
  simp only [aheadV, Bool.or_eq_true, Bool.and_eq_true, decide_eq_true_eq] at h1 h2 ⊢
  rcases h1 with h1 | ⟨h1, g1⟩
  · rcases h2 with h2 | ⟨h2, _⟩
    · exact .inl (by omega)
    · exact .inl (by omega)
  · rcases h2 with h2 | ⟨h2, g2⟩
    · exact .inl (by omega)
    · exact .inr ⟨by omega, less_trans _ _ _ g1 g2⟩
theorem compare_le (a b : Vl) : compareV a b ≤ 0 ↔ (aheadV a b = true ∨ sameV a b = true) := by
  unfold compareV
  cases h : aheadV a b with
  | true => simp
  | false =>
    cases h2 : sameV a b with
    | true => simp
    | false => simp
theorem compare_trans {a b c : Vl} (h1 : compareV a b ≤ 0) (h2 : compareV b c ≤ 0) : compareV a c ≤ 0 := by
  rw [compare_le] at h1 h2 ⊢
  have sub : ∀ {x y z : Vl}, sameV x y = true → aheadV x z = aheadV y z ∧ sameV x z = sameV y z ∧ aheadV z x = aheadV z y := by
    intro x y z h
    simp only [sameV, Bool.and_eq_true, decide_eq_true_eq] at h
    unfold aheadV sameV
    rw [h.1, h.2]
    exact ⟨rfl, rfl, rfl⟩
  rcases h1 with h1 | h1
  · rcases h2 with h2 | h2
    · exact .inl (ahead_trans h1 h2)
    · rw [same_comm] at h2
      rw [(sub h2 (z := a)).2.2]
      exact .inl h1
  · rw [(sub h1 (z := c)).1, (sub h1 (z := c)).2.1]
    exact h2
theorem same_canon (v : Vl) : sameV v (canonV v) = true := by
  unfold sameV keyK
  rw [canon_canon, texts_canon]
  simp
/-- a value is what its kind and its texts are -/
theorem same_of {v x : Vl} (hk : v.kind = x.kind) (ht : textsV v = textsV x) : sameV v x = true ∧ definedV v = definedV x := by
  have hc : canonV v = canonV x := by unfold canonV; rw [hk, ht]
  constructor
  · unfold sameV keyK; rw [hc, ht]; simp
  · unfold definedV; rw [ht]
theorem more_ahead {l : List (List UInt8)} (h : l ≠ []) (s : List UInt8) {a b : Vl} (ha : ofV 2 l = some a) (hb : ofV 2 (l ++ [s]) = some b) : compareV a b = -1 := by
  obtain ⟨a1, a2, _⟩ := of_texts ha
  obtain ⟨b1, b2, _⟩ := of_texts hb
  have hl : 0 < l.length := by
    cases l with
    | nil => exact absurd rfl h
    | cons x r => simp
  have da : definedV a = true := by unfold definedV; rw [a1]; simpa using hl
  have db : definedV b = true := by unfold definedV; rw [b1]; simp
  have hA : aheadV a b = true := by
    unfold aheadV keyK
    rw [kind_canon, kind_canon, da, db, a1, b1, a2, b2, less_more]
    simp
  unfold compareV
  rw [hA]; rfl
theorem pairs_behind {l : List (List UInt8)} {a c : Vl} (ha : ofV 2 l = some a) (hc : ofV 3 l = some c) : sameV a c = false ∧ compareV a c = -1 := by
  obtain ⟨a1, a2, a3⟩ := of_texts ha
  obtain ⟨c1, c2, _⟩ := of_texts hc
  have da : definedV a = true := by unfold definedV; rw [a1]; simpa using a3
  have dc : definedV c = true := by unfold definedV; rw [c1]; simpa using a3
  have ka : keyK a = 2 := by unfold keyK; rw [kind_canon, da, a2]; rfl
  have kc : keyK c = 3 := by unfold keyK; rw [kind_canon, dc, c2]; rfl
  constructor
  · unfold sameV; rw [ka, kc]; rfl
  · unfold compareV aheadV
    rw [ka, kc]; rfl
end Go.Proofs.Ytgnccmmbpgnamaa
