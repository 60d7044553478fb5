/-
  Joined by program out of the texts A8 A9.
-/
import Derived.Test.YtjbnofljoijnmaaDoorY14
import Derived.Test.YtjbnofljoijnmaaDoorW3
/-
  WALKS: the reference's May.
-/
namespace Go.Proofs.YtjbnofljoijnmaaDoor
open Go.RowKit

/-- does a literal stand ahead of a place? -/
def litAhead (ts : List Pt) : Nat → Bool
  | 0 => false
  | i + 1 => match ts[i]? with | some x => x.specs.isEmpty | none => false
theorem ahead_next (ts : List Pt) (k : Nat) (h : k < ts.length) : litAhead ts (k + 1) = ts[k].specs.isEmpty := by
  simp [litAhead, List.getElem?_eq_getElem h]
theorem may_next (ts : List Pt) (k : Nat) (h : k < ts.length) : mayF (litAhead ts k) (ts.drop k) = (mayPt ts[k] && !(litAhead ts k && ts[k].specs.isEmpty) && mayF (litAhead ts (k + 1)) (ts.drop (k + 1))) := by
  rw [List.drop_eq_getElem_cons h, ahead_next ts k h]; rfl
theorem bel_alloc {w W w1 : World} {o : Obj} (hB : Below w.heap.size w W) (bb : Below (W.alloc o).heap.size (W.alloc o) w1) : Below w.heap.size w w1 := (hB.alloc hB.size o).trans (bb.mono (hB.alloc hB.size o).size)
end Go.Proofs.YtjbnofljoijnmaaDoor

/-
  WALKS: the reference's Put.
-/
namespace Go.Proofs.YtjbnofljoijnmaaDoor
open Go.RowKit Go.Lib

def insP (x : Pt) (q : Nat) : List UInt8 := if q = 0 then [] else 123 :: (opL x.op ++ joinC ((x.specs.take q).map putL))
theorem join_snocC (ps : List (List UInt8)) (p : List UInt8) (h : ps ≠ []) : joinC (ps ++ [p]) = joinC ps ++ 44 :: p := by
  induction ps with
  | nil => exact absurd rfl h
  | cons a r ih =>
    cases r with
    | nil => rfl
    | cons b r =>
      show a ++ 44 :: joinC ((b :: r) ++ [p]) = (a ++ 44 :: joinC (b :: r)) ++ 44 :: p
      rw [ih (by simp)]; simp
theorem insP_first (x : Pt) (h : 0 < x.specs.length) : insP x 1 = 123 :: opL x.op ++ putL x.specs[0] := by
  have e : x.specs.take 1 = [x.specs[0]] := by
    have := List.take_succ_eq_append_getElem h
    simpa using this
  unfold insP
  rw [if_neg (by omega), e]; simp [joinC]
theorem insP_next (x : Pt) (q : Nat) (hq : q ≠ 0) (h : q < x.specs.length) : insP x (q + 1) = insP x q ++ [44] ++ putL x.specs[q] := by
  unfold insP
  rw [if_neg (by omega), if_neg hq, List.take_succ_eq_append_getElem h, List.map_append]
  show 123 :: (opL x.op ++ joinC ((x.specs.take q).map putL ++ [putL x.specs[q]])) = _
  rw [join_snocC _ _ (by simp; constructor; exact hq; intro e; rw [e] at h; simp at h)]; simp
theorem insP_all (x : Pt) (h : 0 < x.specs.length) : putPt x = x.lit ++ insP x x.specs.length ++ [125] := by
  have hne : x.specs.isEmpty = false := by
    cases hs : x.specs with
    | nil => rw [hs] at h; simp at h
    | cons a t => rfl
  unfold putPt insP bodyL
  rw [if_neg (by rw [hne]; decide), if_neg (by omega), List.take_length]; simp
theorem insP_mono (x : Pt) (q d : Nat) (h : q + d ≤ x.specs.length) : (insP x q).length ≤ (insP x (q + d)).length := by
  induction d with
  | zero => exact Nat.le_refl _
  | succ d ih =>
    have := ih (by omega)
    by_cases h0 : q + d = 0
    · have e : q = 0 := by omega
      subst e
      simp [insP]
    · have e := insP_next x (q + d) h0 (by omega)
      rw [show q + (d + 1) = q + d + 1 by omega, e]
      simp; omega
theorem putF_app (a b : List Pt) : putF (a ++ b) = putF a ++ putF b := by unfold putF; rw [List.map_append, List.flatten_append]
theorem putF_take (ts : List Pt) (k : Nat) (h : k < ts.length) : putF (ts.take (k + 1)) = putF (ts.take k) ++ putPt ts[k] := by
  rw [List.take_succ_eq_append_getElem h, putF_app]
  show putF (ts.take k) ++ (putPt ts[k] ++ []) = _
  rw [List.append_nil]
theorem putF_len (ts : List Pt) (k : Nat) (h : k < ts.length) : (putF (ts.take k)).length + (putPt ts[k]).length ≤ (putF ts).length := by
  have e : ts = ts.take (k + 1) ++ ts.drop (k + 1) := (List.take_append_drop _ _).symm
  have e2 : putF ts = putF (ts.take (k + 1)) ++ putF (ts.drop (k + 1)) := by
    conv => lhs; rw [e]
    exact putF_app _ _
  rw [e2, putF_take ts k h]
  simp only [List.length_append]
  omega
theorem put_lenP (x : Pt) (q : Nat) (hq : q ≤ x.specs.length) : x.lit.length + (insP x q).length + (if 0 < x.specs.length then 1 else 0) ≤ (putPt x).length := by
  by_cases h : 0 < x.specs.length
  · have := insP_mono x q (x.specs.length - q) (by omega)
    rw [show q + (x.specs.length - q) = x.specs.length by omega] at this
    rw [insP_all x h, if_pos h]
    simp only [List.length_append, List.length_singleton]
    omega
  · have hq0 : q = 0 := by omega
    rw [if_neg h, hq0]
    have : insP x 0 = [] := rfl
    rw [this]
    unfold putPt
    simp
theorem put_part (x : Pt) (q : Nat) (h : q < x.specs.length) : (insP x q).length + (if q = 0 then 1 + (opL x.op).length else 1) + (putL x.specs[q]).length + 1 + x.lit.length ≤ (putPt x).length := by
  have h1 := put_lenP x (q + 1) (by omega)
  rw [if_pos (by omega)] at h1
  by_cases h0 : q = 0
  · subst h0
    rw [insP_first x h] at h1
    rw [if_pos rfl]
    have : insP x 0 = [] := rfl
    rw [this]
    simp only [List.length_append, List.length_cons, List.length_nil] at h1 ⊢
    omega
  · rw [insP_next x q h0 h] at h1
    rw [if_neg h0]
    simp only [List.length_append, List.length_singleton] at h1
    omega
end Go.Proofs.YtjbnofljoijnmaaDoor
