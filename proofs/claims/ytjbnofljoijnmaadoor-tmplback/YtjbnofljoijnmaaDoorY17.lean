/-
  Joined by program out of the texts A11 A12.
-/
import Derived.Test.YtjbnofljoijnmaaDoorY16
/-
  Rows of parts; WALKS: the reference's Is.
-/
namespace Go.Proofs.YtjbnofljoijnmaaDoor
open Go.RowKit Go.Lib

def ptV (p : Pt × Value) : List Value := [.string ⟨p.1.lit.toArray⟩, .int .u8 p.1.op.toNat, p.2]
def ptsV (ps : List (Pt × Value)) : List Value := ps.flatMap ptV
theorem ptsV_snoc (ps : List (Pt × Value)) (p : Pt × Value) : ptsV (ps ++ [p]) = ptsV ps ++ ptV p := by simp [ptsV]
/-- parts whose variables lie in memory -/
def Held (w : World) (ps : List (Pt × Value)) : Prop := ∀ p ∈ ps, SpecsAt w p.2 p.1.specs ∧ TySp w p.2
theorem Held.later {w w' : World} {ps : List (Pt × Value)} (h : Held w ps) (hb : Below w.heap.size w w') : Held w' ps := fun p hp => ⟨(h p hp).1.later hb, (h p hp).2.later hb⟩
theorem Held.snoc {w : World} {ps : List (Pt × Value)} {p : Pt × Value} (h : Held w ps) (h1 : SpecsAt w p.2 p.1.specs) (h2 : TySp w p.2) : Held w (ps ++ [p]) := by
  intro q hq
  rcases List.mem_append.1 hq with hq | hq
  · exact h q hq
  · rw [List.mem_singleton.1 hq]; exact ⟨h1, h2⟩
/-- they stay where a row of parts grows -/
theorem Held.grown {w w' : World} {ps : List (Pt × Value)} {base z n : Nat} {v : Value} {xs : List Value} (h : Held w ps) (hown : w.ownsRow base 37 z v n xs) (hg : w.grownBy w' v.ownBlock) : Held w' ps := by
  intro p hp
  obtain ⟨h1, h2⟩ := h p hp
  have hne : ∀ a m c, p.2 = .slice (some a) m c → some a.block ≠ v.ownBlock := by
    intro a m c e hb
    obtain ⟨cur, fr, hc⟩ := h2 a m c e
    rcases hown.2 with ⟨rfl, _⟩ | ⟨g, cap, cur', rfl, _, hg', _⟩
    · cases hb
    · have : a.block = g := Option.some.inj hb
      rw [this, hg'] at hc
      have := congrArg (fun o : Option Obj => match o with | some (.cells _ t _) => t | _ => 0) hc
      simp at this
  constructor
  · rcases h1 with h1 | ⟨hp1, b, off, cap, e, hc⟩
    · exact .inl h1
    · refine .inr ⟨hp1, b, off, cap, e, fun k hk => ?_⟩
      obtain ⟨c1, c2, c3⟩ := hc k hk
      have hb := hne _ _ _ e
      exact ⟨hg.cell c1 hb, hg.cell c2 hb, hg.cell c3 hb⟩
  · intro a m c e
    obtain ⟨cur, fr, hc⟩ := h2 a m c e
    exact ⟨cur, fr, (hg.block a.block (lt_of_block hc) (hne a m c e)).trans hc⟩
theorem PtsAt.of_owns {w : World} {base : Nat} {v : Value} {ps : List (Pt × Value)} (h : w.ownsRow base 37 3 v ps.length (ptsV ps)) (hh : Held w ps) : PtsAt w v (ps.map (·.1)) := by
  have h' := h
  rcases h.2 with ⟨rfl, h0⟩ | ⟨g, cap, cur, rfl, _, hg, hn, hm, hs, ht⟩
  · have : ps = [] := List.eq_nil_of_length_eq_zero h0
    subst this
    exact .inl ⟨rfl, _, _, rfl⟩
  · by_cases hp : 0 < ps.length
    · refine .inr ⟨by simpa using hp, g, 0, cap, by simp, fun k hk => ?_⟩
      have hk' : k < ps.length := by simpa using hk
      rw [Nat.zero_add]
      have e0 := h'.cellAt (k * 3 + 0) (by omega)
      have e1 := h'.cellAt (k * 3 + 1) (by omega)
      have e2 := h'.cellAt (k * 3 + 2) (by omega)
      unfold ptsV at e0 e1 e2
      rw [three_at ptV (fun _ => rfl) ps k _ hk' (by omega)] at e0 e1 e2
      have em : (ps.map (·.1))[k] = ps[k].1 := by simp
      rw [em]
      exact ⟨e0, e1, ps[k].2, e2, (hh _ (List.getElem_mem hk')).1⟩
    · have : ps = [] := List.eq_nil_of_length_eq_zero (by omega)
      subst this
      exact .inl ⟨rfl, _, _, rfl⟩
theorem info45 : (Tryd.prog.info? 37).map (fun i => (i.zero, i.size, i.bytes)) = some (some (.agg #[.string ⟨#[]⟩, .int .u8 0, .slice none 0 0]), 3, 48) := by kernel_rfl
/-- Is's answer -/
def IsPost (w : World) (o : Option (List Pt)) (e : Ending) (w' : World) : Prop :=
  Below w.heap.size w w' ∧ match o with
  | some ts => ∃ v, e = .returned (.tuple #[v, .bool true]) ∧ PtsAt w' v ts
  | none => e = .returned (.tuple #[.slice none 0 0, .bool false])
/-- bytes ahead of the first brace that shuts, so far -/
theorem shut_far {t : List UInt8} {j : Nat} (hj : j ≤ t.length) (h : ∀ i (hi : i < t.length), i < j → t[i] ≠ 125) : j ≤ shutN t := by
  induction t generalizing j with
  | nil => simp at hj; omega
  | cons a t ih =>
    cases j with
    | zero => omega
    | succ j =>
      have h0 : a ≠ 125 := h 0 (by simp) (by omega)
      have e : shutN (a :: t) = shutN t + 1 := by simp [shutN, h0]
      rw [e]
      have := ih (j := j) (by simpa using hj) (fun i hi hij => h (i + 1) (by simpa using hi) (by omega))
      omega
theorem shut_le (t : List UInt8) : shutN t ≤ t.length := (List.takeWhile_prefix _).length_le
theorem shut_at {t : List UInt8} {j : Nat} (hj : j < t.length) (h : ∀ i (hi : i < t.length), i < j → t[i] ≠ 125) (h125 : t[j] = 125) : shutN t = j := by
  induction t generalizing j with
  | nil => simp at hj
  | cons a t ih =>
    cases j with
    | zero =>
      have : a = 125 := h125
      subst this
      simp [shutN]
    | succ j =>
      have h0 : a ≠ 125 := h 0 (by simp) (by omega)
      have e : shutN (a :: t) = shutN t + 1 := by simp [shutN, h0]
      rw [e, ih (j := j) (by simpa using hj) (fun i hi hij => h (i + 1) (by simpa using hi) (by omega)) h125]
end Go.Proofs.YtjbnofljoijnmaaDoor

/-
  WALKS: the reference's Is (layer 7).
-/
namespace Go.Proofs.YtjbnofljoijnmaaDoor
open Go.RowKit Go.Lib

end Go.Proofs.YtjbnofljoijnmaaDoor
