/-
  PLAIN LEAN, no program in it: names of variables (layer 5): joined, cut at their points, with other letters.
-/
import Derived.Test.YtgnccmmbpgnamaaN
namespace Go.Proofs.Ytgnccmmbpgnamaa

/-- is what is left a name's end? -/
def mayS (behind : Bool) (l : List UInt8) : Bool := decide (runN (if behind then 1 else 0) l = 1)
theorem mayS_name (l : List UInt8) : mayS false l = nameB l := rfl
theorem b_le (b : Bool) : (if b then 1 else 0) ≤ 1 := by cases b <;> decide
theorem mayS_nil (b : Bool) : mayS b [] = b := by cases b <;> rfl
theorem mayS_word (b : Bool) {a : UInt8} (h : wordB a = true) (t : List UInt8) : mayS b (a :: t) = mayS true t := by
  unfold mayS; rw [run_word (b_le b) h]; rfl
theorem mayS_trip (b : Bool) {x y : UInt8} (hx : hexB x = true) (hy : hexB y = true) (r : List UInt8) : mayS b (37 :: x :: y :: r) = mayS true r := by
  unfold mayS; rw [run_trip (b_le b) hx hy]; rfl
theorem mayS_point (t : List UInt8) : mayS true (46 :: t) = mayS false t ∧ mayS false (46 :: t) = false := by
  unfold mayS
  refine ⟨?_, ?_⟩
  · rw [if_pos rfl, (run_point t).1]; rfl
  · rw [if_neg (by simp), (run_point t).2]; rfl
theorem mayS_else (b : Bool) {a : UInt8} {t : List UInt8} (hw : wordB a = false) (ht : tripB (a :: t) = false) (h : a ≠ 46) : mayS b (a :: t) = false := by
  unfold mayS
  by_cases h37 : a = 37
  · subst h37
    rw [decide_eq_false_iff_not]
    exact run_half (b_le b) ht
  · rw [run_other (b_le b) hw h37 (.inl h)]; rfl

theorem le_cases {q : Nat} (h : q ≤ 4) : q = 0 ∨ q = 1 ∨ q = 2 ∨ q = 3 ∨ q = 4 := by omega
/-- a begin of a name is one, with something behind it -/
theorem begin_is (l : List UInt8) : decide (runN 0 l ≠ 4) = (nameB l || nameB (l ++ [97]) || nameB (l ++ [52, 49]) || nameB (l ++ [49])) := by
  unfold nameB
  rw [run_app, run_app, run_app]
  rcases le_cases (run_le 0 l (by decide)) with h | h | h | h | h <;> rw [h] <;> decide

/-! ### Joined -/
theorem run_behind {b : List UInt8} (hne : b ≠ []) (h : runN 0 b ≠ 4) : runN 1 b = runN 0 b := by
  match b, hne with
  | a :: t, _ =>
    rw [run_cons] at h
    rw [run_cons, run_cons]
    have : stepN 1 a = stepN 0 a := by
      unfold stepN
      by_cases hw : wordB a = true
      · simp [hw]
      · by_cases h37 : a = 37
        · simp [h37]
        · by_cases h46 : a = 46
          · exfalso
            apply h
            have : stepN 0 a = 4 := by simp [stepN, h46]; decide
            rw [this, run_dead]
          · simp [hw, h37, h46]
    rw [this]
theorem name_app {a b : List UInt8} (ha : nameB a = true) (hb : nameB b = true) : nameB (a ++ b) = true := by
  rw [name_run] at *
  rw [run_app, ha, run_behind (by intro e; rw [e] at hb; cases hb) (by rw [hb]; decide), hb]
theorem name_point {a b : List UInt8} (ha : nameB a = true) (hb : nameB b = true) : nameB (a ++ 46 :: b) = true := by
  rw [name_run] at *
  rw [run_app, ha, (run_point b).1, hb]
theorem name_points {a : List UInt8} (ha : nameB a = true) (b : List UInt8) : nameB (a ++ 46 :: 46 :: b) = false := by
  rw [name_run] at ha
  unfold nameB
  rw [run_app, ha, (run_point _).1, (run_point _).2]
  rfl
theorem name_ahead (a : List UInt8) : nameB (46 :: a) = false := by
  unfold nameB
  rw [(run_point a).2]
  rfl
theorem name_behind {a : List UInt8} (ha : nameB a = true) : nameB (a ++ [46]) = false := by
  rw [name_run] at ha
  unfold nameB
  rw [run_app, ha]
  rfl
theorem bad_of_run {l : List UInt8} (h : runN 0 l ≠ 4) : badN l = l.length := by
  have h1 := bad_le l
  have h2 := (bad_iff' l l.length (Nat.le_refl _)).1 (by rw [List.take_length]; exact h)
  omega
theorem bad_points {a : List UInt8} (ha : nameB a = true) : badN (a ++ [46, 46]) = a.length + 1 := by
  rw [name_run] at ha
  have e : a ++ [46, 46] = (a ++ [46]) ++ [46] := by simp
  have h1 : runN 0 (a ++ [46]) = 0 := by rw [run_app, ha]; rfl
  have h2 : badN (a ++ [46]) = a.length + 1 := by rw [bad_of_run (by rw [h1]; decide)]; simp
  have h3 : runN 0 ((a ++ [46]) ++ [46]) = 4 := by rw [run_app, h1]; rfl
  rw [e]
  have hl := bad_le ((a ++ [46]) ++ [46])
  have g1 : ¬ (a.length + 2 ≤ badN ((a ++ [46]) ++ [46])) := by
    intro hc
    have := (bad_iff' ((a ++ [46]) ++ [46]) (a.length + 2) (by simp)).2 hc
    rw [List.take_of_length_le (by simp), h3] at this
    exact this rfl
  have g2 : a.length + 1 ≤ badN ((a ++ [46]) ++ [46]) := (bad_iff' _ (a.length + 1) (by simp)).1 (by
    rw [show a.length + 1 = (a ++ [46]).length by simp, List.take_left, h1]; decide)
  omega

/-! ### A byte that is none of a name's -/
def noneB (c : UInt8) : Bool := !wordB c && c != 37 && c != 46
theorem none_fin0 : ∀ n : Fin 256, wordN n.val = false → hexN n.val = false := by decide +kernel
theorem step_none {c : UInt8} (h : noneB c = true) (q : Nat) : stepN q c = 4 := by
  unfold noneB at h
  simp at h
  have hh : hexB c = false := none_fin0 ⟨c.toNat, UInt8.toNat_lt c⟩ h.1.1
  unfold stepN
  simp [hh, h.1.1, h.1.2, h.2]
theorem name_none {c : UInt8} (h : noneB c = true) (a b : List UInt8) : nameB (a ++ c :: b) = false := by
  unfold nameB
  rw [run_app, run_cons, step_none h, run_dead]
  rfl
theorem end_none {c : UInt8} (h : noneB c = true) {a : List UInt8} (ha : nameB a = true) : endN (a ++ [c]) = a.length := by
  have hp : 1 ≤ a.length := by have := List.length_pos_iff.2 (name_ne ha); omega
  have h1 := end_most (a ++ [c]) (a ++ [c]).length a.length hp (by simp) (by rw [List.take_left]; exact ha)
  have h2 := end_le (a ++ [c]) (a ++ [c]).length
  have h3 : endN (a ++ [c]) ≠ a.length + 1 := by
    intro e
    have := end_name (a ++ [c]) (a ++ [c]).length (by unfold endN at e; omega)
    have e2 : endK (a ++ [c]) (a ++ [c]).length = (a ++ [c]).length := by unfold endN at e; rw [e]; simp
    rw [e2, List.take_length, name_none h a []] at this
    cases this
  have h5 : (a ++ [c]).length = a.length + 1 := by simp
  unfold endN at *
  omega

/-! ### Other letters -/
def otherN (n : Nat) : Nat := if 97 ≤ n ∧ n ≤ 122 then n - 32 else if 65 ≤ n ∧ n ≤ 90 then n + 32 else n
def otherB (c : UInt8) : UInt8 := (otherN c.toNat).toUInt8
theorem other_fin0 : ∀ n : Fin 256, otherN n.val < 256 ∧ wordN (otherN n.val) = wordN n.val ∧ hexN (otherN n.val) = hexN n.val ∧ (otherN n.val = 37 ↔ n.val = 37) ∧ (otherN n.val = 46 ↔ n.val = 46) := by decide +kernel
theorem other_step (q : Nat) (c : UInt8) : stepN q (otherB c) = stepN q c := by
  obtain ⟨h1, h2, h3, h4, h5⟩ := other_fin0 ⟨c.toNat, UInt8.toNat_lt c⟩
  simp only at h1 h2 h3 h4 h5
  have e : (otherB c).toNat = otherN c.toNat := u8_of _ h1
  have w : wordB (otherB c) = wordB c := by unfold wordB; rw [e, h2]
  have x : hexB (otherB c) = hexB c := by unfold hexB; rw [e, h3]
  have a : (otherB c = 37) = (c = 37) := by
    rw [← UInt8.toNat_inj, ← UInt8.toNat_inj, e]; exact propext h4
  have b : (otherB c = 46) = (c = 46) := by
    rw [← UInt8.toNat_inj, ← UInt8.toNat_inj, e]; exact propext h5
  unfold stepN
  rw [w, x]
  simp only [a, b]
theorem other_run (q : Nat) (l : List UInt8) : runN q (l.map otherB) = runN q l := by
  induction l generalizing q with
  | nil => rfl
  | cons a t ih => rw [List.map_cons, run_cons, run_cons, other_step, ih]
theorem other_name (l : List UInt8) : nameB (l.map otherB) = nameB l := by unfold nameB; rw [other_run]
theorem other_go (q : Nat) (l : List UInt8) : goN q (l.map otherB) = goN q l := by
  induction l generalizing q with
  | nil => rfl
  | cons a t ih =>
    rw [List.map_cons]
    unfold goN
    rw [other_step, ih]
theorem other_bad (l : List UInt8) : badN (l.map otherB) = badN l := other_go 0 l
theorem other_endK (l : List UInt8) (k : Nat) : endK (l.map otherB) k = endK l k := by
  induction k with
  | zero => rfl
  | succ k ih => unfold endK; rw [← List.map_take, other_name, ih]
theorem other_end (l : List UInt8) : endN (l.map otherB) = endN l := by
  unfold endN; rw [List.length_map, other_endK]
theorem other_46 (c : UInt8) : (otherB c = 46) = (c = 46) := by
  obtain ⟨h1, _, _, _, h5⟩ := other_fin0 ⟨c.toNat, UInt8.toNat_lt c⟩
  simp only at h1 h5
  rw [← UInt8.toNat_inj, ← UInt8.toNat_inj, show (otherB c).toNat = otherN c.toNat from u8_of _ h1]; exact propext h5

/-! ### Cut at the points -/
/-- a byte more -/
def addP (out : List (List UInt8)) (a : UInt8) : List (List UInt8) := if a = 46 then out ++ [[]] else out.dropLast ++ [out.getLastD [] ++ [a]]
def partsL (l : List UInt8) : List (List UInt8) := l.foldl addP [[]]
def splitL (l : List UInt8) : List (List UInt8) := if nameB l then partsL l else []
/-- with points between -/
def joinP : List (List UInt8) → List UInt8
  | [] => []
  | [p] => p
  | p :: q :: r => p ++ 46 :: joinP (q :: r)
theorem parts_snoc (l : List UInt8) (a : UInt8) : partsL (l ++ [a]) = addP (partsL l) a := by unfold partsL; rw [List.foldl_append]; rfl
theorem join_snoc (out : List (List UInt8)) (p : List UInt8) (h : out ≠ []) : joinP (out ++ [p]) = joinP out ++ 46 :: p := by
  induction out with
  | nil => exact absurd rfl h
  | cons x t ih =>
    cases t with
    | nil => rfl
    | cons y r =>
      show x ++ 46 :: joinP ((y :: r) ++ [p]) = (x ++ 46 :: joinP (y :: r)) ++ 46 :: p
      rw [ih (by simp)]
      simp
theorem snoc_induct {P : List UInt8 → Prop} (h0 : P []) (h1 : ∀ l a, P l → P (l ++ [a])) (l : List UInt8) : P l := by
  have : ∀ n (l : List UInt8), l.length = n → P l := by
    intro n
    induction n with
    | zero => intro l hl; rw [List.eq_nil_of_length_eq_zero hl]; exact h0
    | succ n ih =>
      intro l hl
      have hne : l ≠ [] := by intro e; rw [e] at hl; cases hl
      rw [← List.dropLast_concat_getLast hne]
      exact h1 _ _ (ih _ (by rw [List.length_dropLast, hl]; rfl))
  exact this _ l rfl
/-- the parts so far: those that have ended, and the one that goes on -/
theorem parts_split (l : List UInt8) : ∃ init last, partsL l = init ++ [last] ∧ joinP (partsL l) = l ∧ (46 ∉ last) ∧ (∀ p ∈ init, 46 ∉ p) ∧ (runN 0 l ≠ 4 → (∀ p ∈ init, nameB p = true) ∧ runN 0 last = runN 0 l) := by
  refine snoc_induct (P := fun l => ∃ init last, partsL l = init ++ [last] ∧ joinP (partsL l) = l ∧ (46 ∉ last) ∧ (∀ p ∈ init, 46 ∉ p) ∧ (runN 0 l ≠ 4 → (∀ p ∈ init, nameB p = true) ∧ runN 0 last = runN 0 l)) ?_ ?_ l
  · exact ⟨[], [], rfl, rfl, by simp, by simp, fun _ => ⟨by simp, rfl⟩⟩
  · rintro l a ⟨init, last, e, hj, hl, hi, hr⟩
    by_cases ha : a = 46
    · subst ha
      refine ⟨init ++ [last], [], ?_, ?_, by simp, ?_, ?_⟩
      · rw [parts_snoc, addP, if_pos rfl, e]
      · rw [parts_snoc, addP, if_pos rfl, join_snoc _ _ (by rw [e]; simp), hj]
      · intro p hp
        rcases List.mem_append.1 hp with h | h
        · exact hi p h
        · simp at h; subst h; exact hl
      · intro hrun
        rw [run_app] at hrun ⊢
        have h4 : runN 0 l ≠ 4 := by intro h; rw [h, run_dead] at hrun; exact hrun rfl
        have h1 : runN 0 l = 1 := by
          rcases le_cases (run_le 0 l (by decide)) with h | h | h | h | h
          · rw [h] at hrun; exact absurd (by decide) hrun
          · exact h
          · rw [h] at hrun; exact absurd (by decide) hrun
          · rw [h] at hrun; exact absurd (by decide) hrun
          · exact absurd h h4
        refine ⟨?_, by rw [h1]; rfl⟩
        intro p hp
        rcases List.mem_append.1 hp with h | h
        · exact (hr h4).1 p h
        · simp at h
          subst h
          rw [name_run, (hr h4).2, h1]
    · have e2 : partsL (l ++ [a]) = init ++ [last ++ [a]] := by
        rw [parts_snoc, addP, if_neg ha, e]
        simp
      refine ⟨init, last ++ [a], e2, ?_, ?_, hi, ?_⟩
      · rw [e2]
        have hj' := hj
        rw [e] at hj'
        cases init with
        | nil =>
          have : last = l := hj'
          rw [← this]; rfl
        | cons p r =>
          rw [join_snoc _ _ (by simp)] at hj' ⊢
          rw [← hj']; simp
      · intro h
        rcases List.mem_append.1 h with h | h
        · exact hl h
        · simp at h; exact ha h.symm
      · intro hrun
        rw [run_app] at hrun ⊢
        have h4 : runN 0 l ≠ 4 := by intro h; rw [h, run_dead] at hrun; exact hrun rfl
        refine ⟨(hr h4).1, ?_⟩
        rw [run_app, (hr h4).2]
theorem parts_join (l : List UInt8) : joinP (partsL l) = l := (parts_split l).choose_spec.choose_spec.2.1
theorem parts_ne (l : List UInt8) : partsL l ≠ [] := by
  obtain ⟨i, p, e, _⟩ := parts_split l
  rw [e]; simp
/-- a name's parts are names, without points -/
theorem parts_name {l : List UInt8} (h : nameB l = true) : ∀ p ∈ partsL l, nameB p = true ∧ 46 ∉ p := by
  obtain ⟨init, last, e, _, hl, hi, hr⟩ := parts_split l
  rw [name_run] at h
  obtain ⟨h1, h2⟩ := hr (by rw [h]; decide)
  rw [e]
  intro p hp
  rcases List.mem_append.1 hp with hp | hp
  · exact ⟨h1 p hp, hi p hp⟩
  · simp at hp
    subst hp
    exact ⟨by rw [name_run, h2, h], hl⟩
/-- what has no point is one part -/
theorem parts_one {l : List UInt8} (h : 46 ∉ l) : partsL l = [l] := by
  refine snoc_induct (P := fun l => 46 ∉ l → partsL l = [l]) (fun _ => rfl) ?_ l h
  intro l a ih h
  have h1 : 46 ∉ l := fun hh => h (by simp [hh])
  have h2 : a ≠ 46 := fun e => h (by simp [e])
  rw [parts_snoc, addP, if_neg h2, ih h1]
  rfl
theorem parts_len (l : List UInt8) : (partsL l).length = l.count 46 + 1 := by
  refine snoc_induct (P := fun l => (partsL l).length = l.count 46 + 1) rfl ?_ l
  intro l a ih
  rw [parts_snoc]
  unfold addP
  split
  · rename_i h; rw [List.length_append, ih, List.count_append, h]; simp
  · rename_i h
    have hne := parts_ne l
    rw [List.length_append, List.length_dropLast, ih, List.count_append]
    simp [h]
theorem other_parts (l : List UInt8) : (partsL (l.map otherB)).length = (partsL l).length := by
  rw [parts_len, parts_len]
  congr 1
  induction l with
  | nil => rfl
  | cons a t ih =>
    rw [List.map_cons, List.count_cons, List.count_cons, ih]
    congr 1
    have := other_46 a
    by_cases h : a = 46
    · rw [if_pos (by rw [beq_iff_eq, this]; exact h), if_pos (by simp [h])]
    · rw [if_neg (by rw [beq_iff_eq, this]; exact h), if_neg (by simp [h])]
theorem other_split (l : List UInt8) : (splitL (l.map otherB)).length = (splitL l).length := by
  unfold splitL
  rw [other_name]
  split
  · exact other_parts l
  · rfl
end Go.Proofs.Ytgnccmmbpgnamaa
