/-
  PLAIN LEAN, no program in it: variables (layer 9): the first of a name, their names rising, what is left of them.
-/
import Derived.Test.YtgnccmmbpgnamaaV1
namespace Go.Proofs.Ytgnccmmbpgnamaa

/-- a variable: its name, its value -/
abbrev Bd := List UInt8 × Vl
/-- the first value of a name -/
def firstV : List Bd → List UInt8 → Option Vl
  | [], _ => none
  | b :: r, n => if b.1 = n then some b.2 else firstV r n
def getV (bs : List Bd) (n : List UInt8) : Vl := match firstV bs n with | some v => canonV v | none => zeroV
def isV (bs : List Bd) (n : List UInt8) : Bool := match firstV bs n with | some v => definedV v | none => false
/-- a name put among rising ones -/
def putB (n : List UInt8) : List (List UInt8) → List (List UInt8)
  | [] => [n]
  | x :: r => if ltB n x then n :: x :: r else x :: putB n r
def stepB (bs : List Bd) (out : List (List UInt8)) (n : List UInt8) : List (List UInt8) := if isV bs n = false ∨ n ∈ out then out else putB n out
def namesV (bs : List Bd) : List (List UInt8) := (bs.map (·.1)).foldl (stepB bs) []
def canonB (bs : List Bd) : List Bd := (namesV bs).map fun n => (n, getV bs n)
def setB (bs : List Bd) (n : List UInt8) (v : Vl) : List Bd := canonB ((n, v) :: bs)

/-- each less than all behind it -/
def Rises : List (List UInt8) → Prop
  | [] => True
  | x :: r => (∀ y ∈ r, ltB x y = true) ∧ Rises r
theorem mem_put (n m : List UInt8) : ∀ l, m ∈ putB n l ↔ m = n ∨ m ∈ l
  | [] => by simp [putB]
  | x :: r => by
    unfold putB
    split
    · simp
    · rw [List.mem_cons, mem_put n m r, List.mem_cons]
      constructor
      · rintro (h | h | h)
        · exact .inr (.inl h)
        · exact .inl h
        · exact .inr (.inr h)
      · rintro (h | h | h)
        · exact .inr (.inl h)
        · exact .inl h
        · exact .inr (.inr h)
theorem rises_put (n : List UInt8) : ∀ l, Rises l → n ∉ l → Rises (putB n l)
  | [], _, _ => by simp [putB, Rises]
  | x :: r, h, hn => by
    unfold putB
    split
    · rename_i h1
      refine ⟨fun y hy => ?_, h⟩
      rcases List.mem_cons.1 hy with rfl | hy
      · exact h1
      · exact ltB_trans _ _ _ h1 (h.1 y hy)
    · rename_i h1
      have hne : n ≠ x := fun e => hn (by rw [e]; exact List.mem_cons_self ..)
      have hx : ltB x n = true := by
        rw [ltB_total x n (Ne.symm hne)]
        simpa using h1
      refine ⟨fun y hy => ?_, rises_put n r h.2 (fun e => hn (List.mem_cons_of_mem _ e))⟩
      rcases (mem_put n y r).1 hy with rfl | hy
      · exact hx
      · exact h.1 y hy
theorem names_fold (bs : List Bd) : ∀ (l out : List (List UInt8)), Rises out → Rises (l.foldl (stepB bs) out) ∧ (∀ m, m ∈ l.foldl (stepB bs) out ↔ m ∈ out ∨ (m ∈ l ∧ isV bs m = true)) ∧ (l.foldl (stepB bs) out).length ≤ out.length + l.length
  | [], out, h => by simp [h]
  | n :: l, out, h => by
    rw [List.foldl_cons]
    by_cases hc : isV bs n = false ∨ n ∈ out
    · have es : stepB bs out n = out := if_pos hc
      rw [es]
      obtain ⟨h1, h2, h3⟩ := names_fold bs l out h
      refine ⟨h1, fun m => ?_, by simp; omega⟩
      rw [h2 m, List.mem_cons]
      constructor
      · rintro (h | ⟨h, g⟩)
        · exact .inl h
        · exact .inr ⟨.inr h, g⟩
      · rintro (h | ⟨rfl | h, g⟩)
        · exact .inl h
        · rcases hc with hc | hc
          · rw [hc] at g; cases g
          · exact .inl hc
        · exact .inr ⟨h, g⟩
    · have es : stepB bs out n = putB n out := if_neg hc
      rw [es]
      have hv : isV bs n = true := by
        cases hv : isV bs n with
        | true => rfl
        | false => exact absurd (.inl hv) hc
      have hm : n ∉ out := fun e => hc (.inr e)
      obtain ⟨h1, h2, h3⟩ := names_fold bs l (putB n out) (rises_put n out h hm)
      have hl : ∀ o : List (List UInt8), (putB n o).length = o.length + 1 := by
        intro o
        induction o with
        | nil => rfl
        | cons x r ih => unfold putB; split <;> simp [ih]
      refine ⟨h1, fun m => ?_, by rw [hl] at h3; simp; omega⟩
      rw [h2 m, mem_put, List.mem_cons]
      constructor
      · rintro ((rfl | h) | ⟨h, g⟩)
        · exact .inr ⟨.inl rfl, hv⟩
        · exact .inl h
        · exact .inr ⟨.inr h, g⟩
      · rintro (h | ⟨rfl | h, g⟩)
        · exact .inl (.inr h)
        · exact .inl (.inl rfl)
        · exact .inr ⟨h, g⟩
theorem first_mem {bs : List Bd} {n : List UInt8} {v : Vl} (h : firstV bs n = some v) : (n, v) ∈ bs := by
  induction bs with
  | nil => cases h
  | cons b r ih =>
    unfold firstV at h
    split at h
    · rename_i e
      cases h
      subst e
      exact List.mem_cons_self ..
    · exact List.mem_cons_of_mem _ (ih h)
theorem first_none {bs : List Bd} {n : List UInt8} : firstV bs n = none ↔ n ∉ bs.map (·.1) := by
  induction bs with
  | nil => simp [firstV]
  | cons b r ih =>
    unfold firstV
    rw [List.map_cons, List.mem_cons, not_or]
    split
    · rename_i e
      simp [e.symm]
    · rename_i e
      rw [ih]
      exact ⟨fun h => ⟨fun e2 => e e2.symm, h⟩, fun h => h.2⟩
theorem is_mem {bs : List Bd} {n : List UInt8} (h : isV bs n = true) : n ∈ bs.map (·.1) := by
  apply Classical.byContradiction
  intro hn
  unfold isV at h
  rw [first_none.2 hn] at h
  cases h
theorem names_rise (bs : List Bd) : Rises (namesV bs) := (names_fold bs _ [] trivial).1
theorem mem_names (bs : List Bd) (n : List UInt8) : n ∈ namesV bs ↔ isV bs n = true := by
  unfold namesV
  rw [(names_fold bs _ [] trivial).2.1 n]
  constructor
  · rintro (h | h)
    · cases h
    · exact h.2
  · intro h
    exact .inr ⟨is_mem h, h⟩
theorem names_len (bs : List Bd) : (namesV bs).length ≤ bs.length := by
  have := (names_fold bs (bs.map (·.1)) [] trivial).2.2
  simpa [namesV] using this
/-- rising lists of the same are the same -/
theorem rises_ext : ∀ {a b : List (List UInt8)}, Rises a → Rises b → (∀ m, m ∈ a ↔ m ∈ b) → a = b
  | [], [], _, _, _ => rfl
  | [], y :: b, _, _, h => by have := (h y).2 (List.mem_cons_self ..); cases this
  | x :: a, [], _, _, h => by have := (h x).1 (List.mem_cons_self ..); cases this
  | x :: a, y :: b, h1, h2, h => by
    have e : x = y := by
      apply Classical.byContradiction
      intro hne
      have hx : x ∈ b := by
        rcases List.mem_cons.1 ((h x).1 (List.mem_cons_self ..)) with e | e
        · exact absurd e hne
        · exact e
      have hy : y ∈ a := by
        rcases List.mem_cons.1 ((h y).2 (List.mem_cons_self ..)) with e | e
        · exact absurd e.symm hne
        · exact e
      have g1 := h1.1 y hy
      have g2 := h2.1 x hx
      have := ltB_trans _ _ _ g1 g2
      rw [ltB_irr] at this
      cases this
    subst e
    have irr : ∀ {l : List (List UInt8)}, (∀ z ∈ l, ltB x z = true) → x ∉ l := fun hl hx => by
      have := hl x hx
      rw [ltB_irr] at this; cases this
    rw [rises_ext h1.2 h2.2 (fun m => ?_)]
    constructor
    · intro hm
      rcases List.mem_cons.1 ((h m).1 (List.mem_cons_of_mem _ hm)) with e | e
      · subst e; exact absurd hm (irr h1.1)
      · exact e
    · intro hm
      rcases List.mem_cons.1 ((h m).2 (List.mem_cons_of_mem _ hm)) with e | e
      · subst e; exact absurd hm (irr h2.1)
      · exact e
/-- what any list that rises, and has just the defined names, is -/
theorem names_are {bs : List Bd} {l : List (List UInt8)} (h : Rises l) (hm : ∀ m, m ∈ l ↔ isV bs m = true) : l = namesV bs :=
  rises_ext h (names_rise bs) (fun m => by rw [hm, mem_names])
theorem names_ext {a b : List Bd} (h : ∀ n, isV a n = isV b n) : namesV a = namesV b :=
  rises_ext (names_rise a) (names_rise b) (fun m => by rw [mem_names, mem_names, h])
theorem canon_ext {a b : List Bd} (h : ∀ n, isV a n = isV b n) (g : ∀ n, isV a n = true → getV a n = getV b n) : canonB a = canonB b := by
  unfold canonB
  rw [names_ext h]
  apply List.map_congr_left
  intro n hn
  rw [g n (by rw [h]; exact (mem_names b n).1 hn)]
theorem canon_ext1 {a b : List Bd} (h : ∀ n, firstV a n = firstV b n) : canonB a = canonB b :=
  canon_ext (fun n => by unfold isV; rw [h]) (fun n _ => by unfold getV; rw [h])
theorem first_map (f : List UInt8 → Vl) (l : List (List UInt8)) (n : List UInt8) : firstV (l.map fun m => (m, f m)) n = if n ∈ l then some (f n) else none := by
  induction l with
  | nil => rfl
  | cons x r ih =>
    rw [List.map_cons]
    unfold firstV
    by_cases e : x = n
    · subst e; simp
    · rw [if_neg e, ih]
      have e2 : ¬ n = x := fun e2 => e e2.symm
      simp [e2]
theorem get_def {bs : List Bd} {n : List UInt8} (h : isV bs n = true) : definedV (getV bs n) = true ∧ canonV (getV bs n) = getV bs n := by
  unfold isV at h
  unfold getV
  cases hf : firstV bs n with
  | none => rw [hf] at h; cases h
  | some v =>
    rw [hf] at h
    exact ⟨by rw [defined_canon]; exact h, canon_canon v⟩
theorem get_no {bs : List Bd} {n : List UInt8} (h : isV bs n = false) : getV bs n = zeroV := by
  unfold isV at h
  unfold getV
  cases hf : firstV bs n with
  | none => rfl
  | some v =>
    rw [hf] at h
    exact canon_no h
theorem first_canon (bs : List Bd) (n : List UInt8) : firstV (canonB bs) n = if isV bs n then some (getV bs n) else none := by
  unfold canonB
  rw [first_map]
  simp only [mem_names]
theorem is_canon (bs : List Bd) (n : List UInt8) : isV (canonB bs) n = isV bs n := by
  cases h : isV bs n with
  | true =>
    unfold isV
    rw [first_canon, h]
    exact (get_def h).1
  | false =>
    unfold isV
    rw [first_canon, h]
    rfl
theorem get_canon (bs : List Bd) (n : List UInt8) : getV (canonB bs) n = getV bs n := by
  cases h : isV bs n with
  | true =>
    have := (get_def h).2
    show (match firstV (canonB bs) n with | some v => canonV v | none => zeroV) = _
    rw [first_canon, h]
    exact this
  | false =>
    rw [get_no h, get_no (by rw [is_canon]; exact h)]
theorem canonB_canon (bs : List Bd) : canonB (canonB bs) = canonB bs := canon_ext (is_canon bs) (fun n _ => get_canon bs n)
theorem names_canon (bs : List Bd) : namesV (canonB bs) = namesV bs := names_ext (is_canon bs)
theorem canonB_len (bs : List Bd) : (canonB bs).length = (namesV bs).length := by simp [canonB]
theorem first_cons (n : List UInt8) (v : Vl) (bs : List Bd) (m : List UInt8) : firstV ((n, v) :: bs) m = if n = m then some v else firstV bs m := rfl
theorem is_cons (n : List UInt8) (v : Vl) (bs : List Bd) (m : List UInt8) : isV ((n, v) :: bs) m = if n = m then definedV v else isV bs m := by
  unfold isV
  rw [first_cons]
  by_cases e : n = m <;> simp [e]
theorem get_cons (n : List UInt8) (v : Vl) (bs : List Bd) (m : List UInt8) : getV ((n, v) :: bs) m = if n = m then canonV v else getV bs m := by
  unfold getV
  rw [first_cons]
  by_cases e : n = m <;> simp [e]
theorem is_set (bs : List Bd) (n : List UInt8) (v : Vl) (m : List UInt8) : isV (setB bs n v) m = if n = m then definedV v else isV bs m := by
  unfold setB; rw [is_canon, is_cons]
theorem get_set (bs : List Bd) (n : List UInt8) (v : Vl) (m : List UInt8) : getV (setB bs n v) m = if n = m then canonV v else getV bs m := by
  unfold setB; rw [get_canon, get_cons]
/-- set twice the last one is told -/
theorem set_set (bs : List Bd) (n : List UInt8) (v u : Vl) : setB (setB bs n v) n u = setB bs n u := by
  apply canon_ext
  · intro m
    rw [is_cons, is_cons, is_set]
    split <;> rfl
  · intro m _
    rw [get_cons, get_cons, get_set]
    split <;> rfl
theorem kind_defined (v : Vl) : (canonV v).kind = 0 ↔ definedV v = false := by
  rw [kind_canon]
  cases h : definedV v with
  | false => simp
  | true =>
    simp
    intro e
    unfold definedV textsV at h
    rw [e] at h
    simp at h

/-! ### The same -/
theorem vl_eq {a b : Vl} (h1 : a.kind = b.kind) (h2 : a.s = b.s) (h3 : a.l = b.l) (h4 : a.p = b.p) : a = b := by
  cases a; cases b; simp at h1 h2 h3 h4; simp [h1, h2, h3, h4]
/-- two values, just as they stand -/
def veryV (a b : Vl) : Bool := decide (a.kind = b.kind) && decide (a.s = b.s) && decide (a.l = b.l) && decide (a.p = b.p)
theorem very_iff (a b : Vl) : veryV a b = true ↔ a = b := by
  unfold veryV
  simp only [Bool.and_eq_true, decide_eq_true_eq]
  constructor
  · rintro ⟨⟨⟨h1, h2⟩, h3⟩, h4⟩; exact vl_eq h1 h2 h3 h4
  · rintro rfl; exact ⟨⟨⟨rfl, rfl⟩, rfl⟩, rfl⟩
/-- of canonical values the same is what is just the same -/
theorem same_very {a b : Vl} (ha : canonV a = a) (hb : canonV b = b) : sameV a b = veryV a b := by
  rw [Bool.eq_iff_iff, very_iff]
  constructor
  · intro h
    unfold sameV keyK at h
    simp only [Bool.and_eq_true, decide_eq_true_eq] at h
    rw [ha, hb] at h
    rw [← ha, ← hb]
    unfold canonV
    rw [h.1, h.2]
  · rintro rfl; exact same_self a
def veryB : List Bd → List Bd → Bool
  | [], [] => true
  | x :: a, y :: b => decide (x.1 = y.1) && veryV x.2 y.2 && veryB a b
  | _, _ => false
theorem veryB_iff : ∀ a b : List Bd, veryB a b = true ↔ a = b
  | [], [] => by simp [veryB]
  | [], y :: b => by simp [veryB]
  | x :: a, [] => by simp [veryB]
  | x :: a, y :: b => by
    unfold veryB
    simp only [Bool.and_eq_true, decide_eq_true_eq, very_iff, veryB_iff a b, List.cons.injEq, Prod.ext_iff]
def sameB (a b : List Bd) : Bool := veryB (canonB a) (canonB b)
theorem sameB_iff (a b : List Bd) : sameB a b = true ↔ canonB a = canonB b := veryB_iff _ _
theorem sameB_of {a b : List Bd} (h : canonB a = canonB b) : sameB a b = true := (sameB_iff a b).2 h
/-- all values of canonical variables are canonical, and defined -/
theorem canon_all {bs : List Bd} {x : Bd} (h : x ∈ canonB bs) : canonV x.2 = x.2 ∧ definedV x.2 = true ∧ isV bs x.1 = true ∧ x.2 = getV bs x.1 := by
  unfold canonB at h
  obtain ⟨n, hn, rfl⟩ := List.mem_map.1 h
  have hi := (mem_names bs n).1 hn
  exact ⟨(get_def hi).2, (get_def hi).1, hi, rfl⟩

/-! ### The turn -/
theorem first_append (a b : List Bd) (n : List UInt8) : firstV (a ++ b) n = match firstV a n with | some v => some v | none => firstV b n := by
  induction a with
  | nil => rfl
  | cons x r ih =>
    rw [List.cons_append]
    by_cases e : x.1 = n
    · simp [firstV, e]
    · simp only [firstV, e, if_false]
      exact ih
/-- of variables of unlike names the turn plays no part -/
theorem first_reverse : ∀ (a : List Bd), (a.map (·.1)).Nodup → ∀ n, firstV a.reverse n = firstV a n
  | [], _, _ => rfl
  | x :: r, h, n => by
    rw [List.map_cons, List.nodup_cons] at h
    rw [List.reverse_cons, first_append, first_reverse r h.2 n]
    by_cases e : x.1 = n
    · have : firstV r n = none := first_none.2 (by rw [← e]; exact h.1)
      rw [this]
      simp [firstV, e]
    · cases hf : firstV r n with
      | some v => simp [firstV, e, hf]
      | none => simp [firstV, e, hf]
theorem canon_reverse {a : List Bd} (h : (a.map (·.1)).Nodup) : canonB a = canonB a.reverse := canon_ext1 (fun n => (first_reverse a h n).symm)
/-- of those of one name the first one counts alone -/
theorem canon_more {a : List Bd} {b : Bd} (h : b.1 ∈ a.map (·.1)) : canonB a = canonB (a ++ [b]) := by
  apply canon_ext1
  intro n
  rw [first_append]
  cases hf : firstV a n with
  | some v => rfl
  | none =>
    have hn : n ∉ a.map (·.1) := first_none.1 hf
    have : b.1 ≠ n := fun e => hn (by rw [← e]; exact h)
    simp [firstV, this]

/-! ### One by one -/
def setAll (x : List Bd) (c : List Bd) : List Bd := c.foldl (fun x b => setB x b.1 b.2) x
theorem rises_nodup : ∀ {l : List (List UInt8)}, Rises l → l.Nodup
  | [], _ => List.nodup_nil
  | x :: r, h => by
    rw [List.nodup_cons]
    refine ⟨fun hx => ?_, rises_nodup h.2⟩
    have := h.1 x hx
    rw [ltB_irr] at this; cases this
theorem canon_names (bs : List Bd) : (canonB bs).map (·.1) = namesV bs := by simp [canonB, Function.comp_def]
theorem setAll_is : ∀ (c x : List Bd), (c.map (·.1)).Nodup → ∀ n, isV (setAll x c) n = (match firstV c n with | some v => definedV v | none => isV x n) ∧ getV (setAll x c) n = (match firstV c n with | some v => canonV v | none => getV x n)
  | [], _, _, _ => ⟨rfl, rfl⟩
  | b :: c, x, h, n => by
    rw [List.map_cons, List.nodup_cons] at h
    obtain ⟨h1, h2⟩ := setAll_is c (setB x b.1 b.2) h.2 n
    show isV (setAll (setB x b.1 b.2) c) n = _ ∧ getV (setAll (setB x b.1 b.2) c) n = _
    rw [h1, h2]
    by_cases e : b.1 = n
    · have hf : firstV c n = none := first_none.2 (by rw [← e]; exact h.1)
      have hg : firstV (b :: c) n = some b.2 := by simp [firstV, e]
      rw [hf, hg]
      simp [is_set, get_set, e]
    · have hg : firstV (b :: c) n = firstV c n := by simp [firstV, e]
      rw [hg]
      cases firstV c n with
      | some v => exact ⟨rfl, rfl⟩
      | none => simp [is_set, get_set, e]
theorem setAll_canon : ∀ (c x : List Bd), canonB x = x → canonB (setAll x c) = setAll x c
  | [], _, h => h
  | b :: c, x, _ => setAll_canon c (setB x b.1 b.2) (canonB_canon _)
/-- variables set one by one are those, and ahead of them the others -/
theorem setAll_both (a b : List Bd) : setAll (canonB a) (canonB b) = canonB (canonB b ++ canonB a) := by
  rw [← setAll_canon (canonB b) (canonB a) (canonB_canon a)]
  have hn : ((canonB b).map (·.1)).Nodup := by rw [canon_names]; exact rises_nodup (names_rise b)
  apply canon_ext
  · intro n
    rw [(setAll_is _ _ hn n).1]
    unfold isV
    rw [first_append]
    cases firstV (canonB b) n <;> rfl
  · intro n _
    rw [(setAll_is _ _ hn n).2]
    unfold getV
    rw [first_append]
    cases firstV (canonB b) n <;> rfl
theorem both_len (a b : List Bd) : (canonB (canonB b ++ canonB a)).length ≤ (canonB b).length + (canonB a).length := by
  rw [canonB_len]
  have := names_len (canonB b ++ canonB a)
  simpa using this
end Go.Proofs.Ytgnccmmbpgnamaa
