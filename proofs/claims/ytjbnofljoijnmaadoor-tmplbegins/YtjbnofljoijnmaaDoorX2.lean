/-
  PLAIN LEAN, no program in it: what a text is as a variable (layer 6), and the laws.
-/
import Derived.Test.YtjbnofljoijnmaaDoorX
namespace Go.Proofs.YtjbnofljoijnmaaDoor

theorem end_app {c : UInt8} (h : noneB c = true) {a : List UInt8} (ha : nameB a = true) (b : List UInt8) : endN (a ++ c :: b) = a.length := by
  have hp : 1 ≤ a.length := by have := List.length_pos_iff.2 (name_ne ha); omega
  have h1 := end_most (a ++ c :: b) (a ++ c :: b).length a.length hp (by simp) (by rw [List.take_left]; exact ha)
  have h2 := end_le (a ++ c :: b) (a ++ c :: b).length
  show endK _ _ = _
  apply Classical.byContradiction
  intro hne
  have hn := end_name (a ++ c :: b) (a ++ c :: b).length (by omega)
  generalize endK (a ++ c :: b) (a ++ c :: b).length = k at *
  have e : (a ++ c :: b).take k = a ++ c :: b.take (k - a.length - 1) := by
    rw [List.take_append, List.take_of_length_le (by omega)]
    congr 1
    rw [show k - a.length = (k - a.length - 1) + 1 by omega, List.take_succ_cons]
    rfl
  rw [e, name_none h] at hn
  cases hn
theorem end_self {a : List UInt8} (ha : nameB a = true) : endN a = a.length := by
  have := end_whole a
  rw [ha] at this
  simp at this
  exact this.1

def restX (l : List UInt8) : List UInt8 := l.drop (endN l)
def specX (l : List UInt8) : Sp := ⟨l.take (endN l), valZ (((restX l).drop 1).take 5), decide (restX l = [42])⟩
def isX (l : List UInt8) : Bool := decide (0 < endN l) && mayX (specX l) && decide (putL (specX l) = l)
theorem is_iff (l : List UInt8) : isX l = true ↔ 0 < endN l ∧ mayX (specX l) = true ∧ putL (specX l) = l := by
  simp [isX, and_assoc]
theorem spec_name {n : List UInt8} (hn : nameB n = true) : specX n = ⟨n, 0, false⟩ ∧ 0 < endN n := by
  have he := end_self hn
  have hp := List.length_pos_iff.2 (name_ne hn)
  unfold specX restX
  rw [he, List.take_length, List.drop_length]
  exact ⟨rfl, by omega⟩
theorem spec_star {n : List UInt8} (hn : nameB n = true) : specX (n ++ [42]) = ⟨n, 0, true⟩ ∧ 0 < endN (n ++ [42]) := by
  have he := end_app none42 hn []
  have hp := List.length_pos_iff.2 (name_ne hn)
  unfold specX restX
  rw [he, List.take_left, List.drop_left]
  exact ⟨rfl, by omega⟩
theorem spec_colon {n d : List UInt8} (hn : nameB n = true) (_hd : d ≠ []) (hl : d.length ≤ 5) : specX (n ++ 58 :: d) = ⟨n, valZ d, false⟩ ∧ 0 < endN (n ++ 58 :: d) := by
  have he := end_app none58 hn d
  have hp := List.length_pos_iff.2 (name_ne hn)
  unfold specX restX
  rw [he, List.take_left, List.drop_left]
  refine ⟨?_, by omega⟩
  rw [List.drop_succ_cons, List.drop_zero, List.take_of_length_le hl]
  congr 1
theorem put_colon {x : Sp} (h : mayX x = true) (h2 : x.star = false) (h1 : 0 < x.max) : putL x = x.name ++ 58 :: figL x.max.toNat := by
  unfold putL; rw [if_pos h, h2, if_neg (by decide), if_pos h1]
theorem put_star {x : Sp} (h : mayX x = true) (h2 : x.star = true) : putL x = x.name ++ [42] := by
  unfold putL; rw [if_pos h, h2, if_pos rfl]
theorem put_name {x : Sp} (h : mayX x = true) (h2 : x.star = false) (h1 : ¬ 0 < x.max) : putL x = x.name := by
  unfold putL; rw [if_pos h, h2, if_neg (by decide), if_neg h1]
theorem put_none {x : Sp} (h : mayX x = false) : putL x = [] := by
  unfold putL; rw [h]; rfl
theorem spec_put {x : Sp} (h : mayX x = true) : specX (putL x) = x ∧ 0 < endN (putL x) := by
  obtain ⟨h1, h2, h3, h4⟩ := (may_iff x).1 h
  cases hs : x.star with
  | true =>
    rw [put_star h hs]
    have := spec_star h1
    rw [this.1]
    refine ⟨?_, this.2⟩
    obtain ⟨n, m, s⟩ := x
    simp at hs h4 ⊢
    exact ⟨(h4 hs).symm, hs⟩
  | false =>
    by_cases hp : 0 < x.max
    · rw [put_colon h hs hp]
      have hn := fig_num (n := x.max.toNat) (by omega) (by omega)
      have hl := fig_len x.max.toNat 3 (by omega)
      have := spec_colon h1 (fig_ne x.max.toNat) (by omega)
      rw [this.1, val_fig]
      refine ⟨?_, this.2⟩
      obtain ⟨n, m, s⟩ := x
      simp at hs hp h2 ⊢
      exact ⟨by omega, hs⟩
    · rw [put_name h hs hp]
      have := spec_name h1
      rw [this.1]
      refine ⟨?_, this.2⟩
      obtain ⟨n, m, s⟩ := x
      simp at hs hp h2 ⊢
      exact ⟨by omega, hs⟩
theorem is_put {x : Sp} (h : mayX x = true) : isX (putL x) = true := by
  rw [is_iff, (spec_put h).1]
  exact ⟨(spec_put h).2, h, rfl⟩
theorem is_run (l : List UInt8) : isX l = accX (runX 0 l) := by
  rw [Bool.eq_iff_iff]
  constructor
  · intro h
    obtain ⟨_, h2, h3⟩ := (is_iff l).1 h
    have := put_run h2
    rwa [h3] at this
  · intro h
    obtain ⟨x, hx, rfl⟩ := run_put h
    exact is_put hx
theorem le10 {q : Nat} (h : q ≤ 10) : q = 0 ∨ q = 1 ∨ q = 2 ∨ q = 3 ∨ q = 4 ∨ q = 5 ∨ q = 6 ∨ q = 7 ∨ q = 8 ∨ q = 9 ∨ q = 10 := by omega
def beginX (l : List UInt8) : Bool := decide (runX 0 l ≠ 4)
theorem begin_isX (l : List UInt8) : beginX l = (isX l || isX (l ++ [97]) || isX (l ++ [52, 49]) || isX (l ++ [49])) := by
  unfold beginX
  rw [is_run, is_run, is_run, is_run]
  unfold runX
  rw [runM_app, runM_app, runM_app]
  have hle : runM stepX 0 l ≤ 10 := runX_le 0 l (by decide)
  rcases le10 hle with h | h | h | h | h | h | h | h | h | h | h <;> rw [h] <;> decide

theorem badX_iff (l : List UInt8) (k : Nat) (hk : k ≤ l.length) : beginX (l.take k) = true ↔ k ≤ badX l := by
  unfold beginX badX runX
  rw [decide_eq_true_iff]
  exact goM_iff stepX_dead 0 (by decide) l k hk
theorem badX_le (l : List UInt8) : badX l ≤ l.length := goM_le 0 l
theorem badX_is {l : List UInt8} (h : isX l = true) : badX l = l.length := by
  rw [is_run] at h
  apply goM_all stepX_dead
  intro e
  rw [show runX 0 l = 4 from e] at h
  cases h
theorem is_bad {l : List UInt8} (h : badX l ≠ l.length) : isX l = false := by
  cases hc : isX l with
  | false => rfl
  | true => exact absurd (badX_is hc) h
theorem badX_take (l : List UInt8) : badX (l.take (badX l)) = badX l := goM_take stepX_dead (by decide) l
theorem badX_more (l m : List UInt8) (h : badX l ≠ l.length) : badX (l ++ m) = badX l := goM_more stepX_dead (by decide) l m h
theorem badX_stop {a : List UInt8} {c : UInt8} (b : List UInt8) (h : runX 0 a ≠ 4) (hc : stepX (runX 0 a) c = 4) : badX (a ++ c :: b) = a.length := by
  unfold badX
  rw [goM_app stepX_dead _ h]
  simp only [goM]
  rw [show runM stepX 0 a = runX 0 a from rfl, if_pos hc]
  omega
theorem is_stop {a : List UInt8} {c : UInt8} (b : List UInt8) (h : runX 0 a ≠ 4) (hc : stepX (runX 0 a) c = 4) : isX (a ++ c :: b) = false :=
  is_bad (by rw [badX_stop b h hc]; simp)

/-! ### The laws -/
theorem zero_ahead {n : List UInt8} (hn : nameB n = true) (b : List UInt8) : isX (n ++ 58 :: 48 :: b) = false ∧ badX (n ++ 58 :: 48 :: b) = n.length + 1 := by
  have e : n ++ 58 :: 48 :: b = (n ++ [58]) ++ 48 :: b := by simp
  have hr : runX 0 (n ++ [58]) = 6 := by rw [run_colon hn]; rfl
  have h1 : runX 0 (n ++ [58]) ≠ 4 := by rw [hr]; decide
  have h2 : stepX (runX 0 (n ++ [58])) 48 = 4 := by rw [hr]; decide
  rw [e]
  refine ⟨is_stop b h1 h2, ?_⟩
  rw [badX_stop b h1 h2]; simp
theorem star_behind {n : List UInt8} (hn : nameB n = true) (c : UInt8) : isX (n ++ 42 :: [c]) = false ∧ badX (n ++ 42 :: [c]) = n.length + 1 := by
  have e : n ++ 42 :: [c] = (n ++ [42]) ++ c :: [] := by simp
  have hr : runX 0 (n ++ [42]) = 5 := by rw [run_star hn]; rfl
  have h1 : runX 0 (n ++ [42]) ≠ 4 := by rw [hr]; decide
  have h2 : stepX (runX 0 (n ++ [42])) c = 4 := by rw [hr]; unfold stepX; rw [if_pos (.inl rfl)]
  rw [e]
  refine ⟨is_stop [] h1 h2, ?_⟩
  rw [badX_stop [] h1 h2]; simp
theorem full_behind {n d : List UInt8} (hn : nameB n = true) (hd : numB d) (hl : d.length = 4) (c : UInt8) (b : List UInt8) : isX (n ++ 58 :: d ++ c :: b) = false ∧ badX (n ++ 58 :: d ++ c :: b) = n.length + 5 := by
  have hr : runX 0 (n ++ 58 :: d) = 10 := by rw [run_colon hn, run_num hd, hl]
  have h1 : runX 0 (n ++ 58 :: d) ≠ 4 := by rw [hr]; decide
  have h2 : stepX (runX 0 (n ++ 58 :: d)) c = 4 := by rw [hr]; unfold stepX; rw [if_pos (.inr (by decide))]
  refine ⟨is_stop b h1 h2, ?_⟩
  rw [badX_stop b h1 h2]; simp; omega
theorem num1234 : numB [49, 50, 51, 52] := ⟨49, [50, 51, 52], rfl, by decide, by decide, by decide, by decide⟩
theorem one_behind {n : List UInt8} (hn : nameB n = true) (c : UInt8) : (n.length < badX (n ++ [c])) ↔ (n.length < badN (n ++ [c]) ∨ c = 58 ∨ c = 42) := by
  have h1 := badX_iff (n ++ [c]) (n.length + 1) (by simp)
  have h2 := bad_iff' (n ++ [c]) (n.length + 1) (by simp)
  rw [List.take_of_length_le (by simp)] at h1 h2
  have hx : runX 0 (n ++ [c]) = stepX 1 c := by rw [runX_snoc, name_runX hn]
  have hq : runN 0 (n ++ [c]) = stepN 1 c := by rw [run_app, name_run.1 hn]; rfl
  unfold beginX at h1
  rw [decide_eq_true_iff, hx] at h1
  rw [hq] at h2
  have hk : stepX 1 c ≠ 4 ↔ stepN 1 c ≠ 4 ∨ c = 58 ∨ c = 42 := by
    by_cases h42 : c = 42
    · subst h42; decide
    · by_cases h58 : c = 58
      · subst h58; decide
      · rw [stepX_name (by decide) (.inr ⟨h42, h58⟩)]
        simp [h42, h58]
  constructor
  · intro h
    rcases hk.1 (h1.2 (by omega)) with h | h
    · exact .inl (by have := h2.1 h; omega)
    · exact .inr h
  · intro h
    have := h1.1 (hk.2 (by
      rcases h with h | h
      · exact .inl (h2.2 (by omega))
      · exact .inr h))
    omega
theorem fig_ten (n : Nat) (h : 0 < n) : figL n ++ [48] = figL (10 * n) := by
  rw [fig_more (n := 10 * n) (by omega), show 10 * n / 10 = n by omega, show 10 * n % 10 = 0 by omega]
  rfl
theorem zero_behind {n : List UInt8} (hn : nameB n = true) {m : Nat} (h0 : 0 < m) (h1 : m ≤ 999) : isX (n ++ 58 :: figL m ++ [48]) = true := by
  have hm : mayX ⟨n, (10 * m : Nat), false⟩ = true := by rw [may_iff]; exact ⟨hn, by simp; omega, by simp; omega, fun h => by cases h⟩
  have e : putL ⟨n, (10 * m : Nat), false⟩ = n ++ 58 :: figL m ++ [48] := by
    rw [put_colon hm rfl (by simp; omega)]
    simp only [Int.toNat_natCast]
    rw [← fig_ten m h0]
    simp
  rw [← e]
  exact is_put hm
theorem four_behind {n : List UInt8} (hn : nameB n = true) {m : Nat} (h0 : 1000 ≤ m) (h1 : m ≤ 9999) : isX (n ++ 58 :: figL m ++ [48]) = false ∧ badX (n ++ 58 :: figL m ++ [48]) = (n ++ 58 :: figL m).length := by
  have h2 := fig_len m 3 (by omega)
  have h3 := fig_len_ge m 3 (by omega)
  obtain ⟨a, b⟩ := full_behind hn (fig_num (n := m) (by omega) h1) (by omega) 48 []
  refine ⟨a, ?_⟩
  rw [b]
  simp
  omega
end Go.Proofs.YtjbnofljoijnmaaDoor
