/-
  PLAIN LEAN, no program in it: how far a text goes and where its longest name ends, told in one going over its characters.
-/
import Derived.Test.YtcglkekilaokaaaDoorN2
namespace Go.Proofs.YtcglkekilaokaaaDoor

/-- where the longest name ends, from a place k of a text on, where q says where one stands, and e is the last end so far -/
def endS : Nat → Nat → Nat → List UInt8 → Nat
  | _, _, e, [] => e
  | q, k, e, a :: t => if stepN q a = 4 then e else endS (stepN q a) (k + 1) (if stepN q a = 1 then k + 1 else e) t

theorem endS_nil (q k e : Nat) : endS q k e [] = e := rfl
theorem endS_dead (k e : Nat) (l : List UInt8) : endS 4 k e l = e := by
  cases l with
  | nil => rfl
  | cons a t => simp [endS, step_dead]
theorem endK_snoc_same (l : List UInt8) (n j : Nat) (h : ∀ i, j < i → i ≤ n → nameB (l.take i) = false) (hj : j ≤ n) : endK l n = endK l j := by
  induction n with
  | zero => have : j = 0 := by omega
            subst this; rfl
  | succ n ih =>
    by_cases e : j = n + 1
    · subst e; rfl
    · rw [endK, if_neg (by rw [h (n + 1) (by omega) (Nat.le_refl _)]; decide)]
      exact ih (fun i h1 h2 => h i h1 (by omega)) (by omega)
theorem name_dead (l : List UInt8) (k i : Nat) (h : runN 0 (l.take k) = 4) (hi : k ≤ i) : nameB (l.take i) = false := by
  have e : l.take i = l.take k ++ (l.drop k).take (i - k) := by
    have : i = k + (i - k) := by omega
    conv => lhs; rw [this]
    exact List.take_add
  rw [e, nameB, run_app, h, run_dead]; rfl
theorem endS_is (l : List UInt8) : ∀ (t : List UInt8) (k q : Nat), l.drop k = t → k ≤ l.length → runN 0 (l.take k) = q → endS q k (endK l k) t = endN l := by
  intro t
  induction t with
  | nil =>
    intro k q hd hk hq
    have : l.length ≤ k := by
      have := congrArg List.length hd
      simp at this; omega
    have : k = l.length := by omega
    subst this
    rfl
  | cons a t ih =>
    intro k q hd hk hq
    have hlt : k < l.length := by
      have := congrArg List.length hd
      simp at this; omega
    have ha : l[k] = a ∧ l.drop (k + 1) = t := by
      rw [List.drop_eq_getElem_cons hlt] at hd
      exact ⟨(List.cons.inj hd).1, (List.cons.inj hd).2⟩
    have htk : l.take (k + 1) = l.take k ++ [a] := by rw [List.take_succ_eq_append_getElem hlt, ha.1]
    have hr : runN 0 (l.take (k + 1)) = stepN q a := by rw [htk, run_app, hq]; rfl
    unfold endS
    split
    next h4 =>
      rw [h4] at hr
      show _ = endK l l.length
      exact (endK_snoc_same l l.length k (fun i h1 h2 => name_dead l (k + 1) i hr (by omega)) hk).symm
    next h4 =>
      have e2 : (if stepN q a = 1 then k + 1 else endK l k) = endK l (k + 1) := by
        rw [endK]
        unfold nameB
        rw [hr]
        by_cases h1 : stepN q a = 1 <;> simp [h1]
      rw [e2]
      exact ih (k + 1) (stepN q a) ha.2 hlt hr
theorem endS_end (l : List UInt8) : endS 0 0 0 l = endN l := endS_is l l 0 0 rfl (Nat.zero_le _) rfl

/-! ### By characters -/
theorem st_word {q : Nat} (hq : q ≤ 1) {a : UInt8} (h : wordB a = true) : stepN q a = 1 := by
  unfold stepN
  rw [if_neg (by omega), if_neg (by omega), if_neg (by omega), if_pos h]
theorem st_pct {q : Nat} (hq : q ≤ 1) : stepN q 37 = 2 := by
  unfold stepN
  rw [if_neg (by omega), if_neg (by omega), if_neg (by omega), if_neg (by decide), if_pos rfl]
theorem st_2 {b : UInt8} : stepN 2 b = if hexB b then 3 else 4 := by simp [stepN]
theorem st_3 {b : UInt8} : stepN 3 b = if hexB b then 1 else 4 := by simp [stepN]
theorem sc_word {q : Nat} (hq : q ≤ 1) (k e : Nat) {a : UInt8} (h : wordB a = true) (t : List UInt8) : goN q (a :: t) = goN 1 t + 1 ∧ endS q k e (a :: t) = endS 1 (k + 1) (k + 1) t := by
  constructor
  · simp [goN, st_word hq h]
  · simp [endS, st_word hq h]
theorem sc_trip {q : Nat} (hq : q ≤ 1) (k e : Nat) {b c : UInt8} (hb : hexB b = true) (hc : hexB c = true) (r : List UInt8) : goN q (37 :: b :: c :: r) = goN 1 r + 3 ∧ endS q k e (37 :: b :: c :: r) = endS 1 (k + 3) (k + 3) r := by
  constructor
  · simp [goN, st_pct hq, st_2, st_3, hb, hc]
  · simp [endS, st_pct hq, st_2, st_3, hb, hc]
theorem sc_point (k e : Nat) (t : List UInt8) : goN 1 (46 :: t) = goN 0 t + 1 ∧ endS 1 k e (46 :: t) = endS 0 (k + 1) e t := by
  have : stepN 1 46 = 0 := by decide
  constructor
  · simp [goN, this]
  · simp [endS, this]
/-- how many first bytes could begin a triplet -/
def brokN : List UInt8 → Nat
  | [] => 0
  | a :: t => if a ≠ 37 then 0 else match t with
    | [] => 1
    | b :: _ => if hexB b then 2 else 1
theorem sc_else {q : Nat} (hq : q ≤ 1) (k e : Nat) {a : UInt8} {t : List UInt8} (hw : wordB a = false) (ht : tripB (a :: t) = false) (h : a ≠ 46 ∨ q = 0) : goN q (a :: t) = brokN (a :: t) ∧ endS q k e (a :: t) = e := by
  by_cases h37 : a = 37
  · subst h37
    match t, ht with
    | [], _ => simp [goN, endS, brokN, st_pct hq]
    | [b], _ => by_cases hb : hexB b = true <;> simp [goN, endS, brokN, st_pct hq, st_2, hb]
    | b :: c :: r, ht =>
      by_cases hb : hexB b = true
      · have hc : hexB c = false := by
          have : tripB (37 :: b :: c :: r) = ((37 : UInt8) == 37 && hexN b.toNat && hexN c.toNat) := rfl
          rw [this] at ht
          have e1 : hexN b.toNat = true := hb
          rw [e1] at ht
          exact ht
        simp [goN, endS, brokN, st_pct hq, st_2, st_3, hb, hc]
      · simp [goN, endS, brokN, st_pct hq, st_2, hb]
  · have h4 : stepN q a = 4 := by
      unfold stepN
      rw [if_neg (by omega), if_neg (by omega), if_neg (by omega), if_neg (by rw [hw]; decide), if_neg h37, if_neg]
      rintro ⟨x, y⟩
      rcases h with h | h
      · exact h x
      · omega
    simp [goN, endS, brokN, h4, h37]

/-! ### Parts, cut at the points -/
theorem parts_two (p t : List UInt8) (h : 46 ∉ p) : partsL (p ++ 46 :: t) = p :: partsL t := by
  induction t using snoc_induct with
  | h0 =>
    have e : p ++ [46] = p ++ [(46 : UInt8)] := rfl
    rw [parts_snoc, parts_one h, addP, if_pos rfl]; rfl
  | h1 l a ih =>
    have e : p ++ 46 :: (l ++ [a]) = (p ++ 46 :: l) ++ [a] := by simp
    rw [e, parts_snoc, ih, parts_snoc]
    obtain ⟨x, r, hx⟩ : ∃ x r, partsL l = x :: r := by
      cases hp : partsL l with
      | nil => exact absurd hp (parts_ne l)
      | cons x r => exact ⟨x, r, rfl⟩
    rw [hx]
    unfold addP
    split
    · rfl
    · simp
end Go.Proofs.YtcglkekilaokaaaDoor
