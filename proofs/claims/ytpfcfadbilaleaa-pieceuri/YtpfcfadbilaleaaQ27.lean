/-
  TEXTS JOINED: O.
-/
import Derived.Deep.Slices
import Derived.Deep.Strs
import Derived.Lib.SmallJoins
import Derived.OpenShut
import Derived.Test.YtpfcfadbilaleaaQ23
import Derived.Test.YtpfcfadbilaleaaQ26
/-
  OPENING of arguments: lists of texts, values (layer 8).
-/
namespace Go.Proofs.Ytpfcfadbilaleaa
open Go Go.RowKit Go.Deep Go.Joins Go.Lib

set_option maxRecDepth 20000 in
theorem spot_none {w : World} {a : Addr} {v : Value} (h : w.cell? a = some v) : a = ⟨a.block, a.off, none⟩ := by
  cases a with
  | mk b o s =>
    cases s with
    | none => rfl
    | some s =>
      unfold World.cell? at h
      split at h
      · simp at h
      · cases h
set_option maxRecDepth 20000 in
theorem add_none (b o j : Nat) : (⟨b, o, none⟩ : Addr).add j = ⟨b, o + j, none⟩ := by
  unfold Addr.add
  split
  · rename_i h; rw [h]; rfl
  · rfl
set_option maxRecDepth 20000 in
theorem cellsO9 : Try.prog.cellsOf 9 = 1 := by kernel_rfl
set_option maxRecDepth 20000 in
theorem cellsO39 : Try.prog.cellsOf 77 = 2 := by kernel_rfl
set_option maxRecDepth 20000 in
theorem cellsO25 : Try.prog.cellsOf 27 = 4 := by kernel_rfl
section
variable {H : Type} {enc : TypeId × Value → H} {w : World} {base : Nat} {sp : Nat → Bool} {held : Bool}
set_option maxRecDepth 20000 in
theorem open_strs {fuel : Nat} {v : Value} {x : DataW H × List MemPlace} (h : DataW.trod enc Try.prog w base sp held fuel 24 [v] = some x) : ∃ xs : List (List UInt8), StrsAt w v xs ∧ xs.length ≤ maxLen ∧ (∀ y ∈ xs, y.length ≤ maxLen) ∧ (xs = [] ∨ ∃ el spare, x.1 = .slice el spare ∧ ∀ y ∈ xs, (.lit (.string y)) ∈ el) := by
  rcases open_slice1 Try.underlying24 cellsO9 h with ⟨hcs, _⟩ | ⟨a, len, cap, m, n, V, D, Pl, hcs, _, hl, hm, hmm, hx, hel⟩
  · have : v = .slice none 0 0 := by simpa using hcs
    subst this
    exact ⟨[], .inl ⟨rfl, none, 0, rfl⟩, by simp, (fun y hy => by cases hy), .inl rfl⟩
  · have hv : v = .slice (some a) len cap := by simpa using hcs
    subst hv
    have hlm : len ≤ m := by rw [hmm]; split <;> omega
    by_cases hp : ¬ 0 < len
    · have : len = 0 := by omega
      subst this
      exact ⟨[], .inl ⟨rfl, some a, cap, rfl⟩, by simp, (fun y hy => by cases hy), .inl rfl⟩
    have hp : 0 < len := by omega
    have ha : a = ⟨a.block, a.off, none⟩ := by
      have := (hel 0 (by omega)).1
      rw [show a.add 0 = a by simp [Addr.add]] at this
      exact spot_none this
    have each : ∀ i, ∃ y : List UInt8, i < len → w.cell? ⟨a.block, a.off + i, none⟩ = some (.string ⟨y.toArray⟩) ∧ y.length ≤ maxLen ∧ D i = .lit (.string y) := by
      intro i
      by_cases hi : i < len
      · obtain ⟨h1, h2⟩ := hel i (by omega)
        rw [ha, add_none] at h1
        obtain ⟨s0, e0, e1, hs0⟩ := DataW.trod_string Try.underlying9 h2
        simp only [List.cons.injEq, and_true] at e0
        rw [e0] at h1
        simp only [Prod.mk.injEq] at e1
        exact ⟨s0.data.toList, fun _ => ⟨h1, by rw [← size_list]; exact hs0, e1.1⟩⟩
      · exact ⟨[], fun h => absurd h hi⟩
    obtain ⟨f, hf⟩ := Classical.axiomOfChoice each
    refine ⟨(List.range len).map f, ?_, by simp; omega, ?_, .inr ⟨_, _, by rw [hx], ?_⟩⟩
    · refine .inr ⟨by simpa using hp, a.block, a.off, cap, by rw [List.length_map, List.length_range, ← ha], fun k hk => ?_⟩
      have hk' : k < len := by simpa using hk
      have e : ((List.range len).map f).getD k [] = f k := by simp [hk']
      rw [e]
      exact (hf k hk').1
    · intro y hy
      obtain ⟨k, hk, rfl⟩ := List.mem_map.1 hy
      exact (hf k (List.mem_range.1 hk)).2.1
    · intro y hy
      obtain ⟨k, hk, rfl⟩ := List.mem_map.1 hy
      exact List.mem_map.2 ⟨k, hk, (hf k (List.mem_range.1 hk)).2.2⟩
set_option maxRecDepth 20000 in
theorem first_spot {a : Addr} {cs : List Value} (h : w.cells? base (a.add (0 * 2)) 2 = some cs) : a = ⟨a.block, a.off, none⟩ := by
  obtain ⟨_, hlen, hc⟩ := World.cells?_some h
  have e0 := hc 0 (by omega)
  have e : (a.add (0 * 2)).add 0 = a := by simp [Addr.add]
  rw [e] at e0
  match cs, hlen with
  | v0 :: _, _ => exact spot_none e0
set_option maxRecDepth 20000 in
theorem two_cells {b o i : Nat} {cs : List Value} (h : w.cells? base ((⟨b, o, none⟩ : Addr).add (i * 2)) 2 = some cs) : ∃ v0 v1, cs = [v0, v1] ∧ w.cell? ⟨b, o + i * 2, none⟩ = some v0 ∧ w.cell? ⟨b, o + i * 2 + 1, none⟩ = some v1 := by
  obtain ⟨_, hlen, hc⟩ := World.cells?_some h
  match cs, hlen with
  | [v0, v1], _ =>
    have e0 := hc 0 (by omega)
    have e1 := hc 1 (by omega)
    rw [add_none, add_none] at e0 e1
    exact ⟨v0, v1, rfl, e0, e1⟩
set_option maxRecDepth 20000 in
theorem open_pairs {fuel : Nat} {v : Value} {x : DataW H × List MemPlace} (h : DataW.trod enc Try.prog w base sp held fuel 25 [v] = some x) : ∃ xs : List (List UInt8 × List UInt8), PairsAt w v xs ∧ xs.length ≤ maxLen ∧ ∀ y ∈ xs, y.1.length ≤ maxLen ∧ y.2.length ≤ maxLen := by
  rcases open_slice Try.underlying25 h with ⟨hcs, _⟩ | ⟨a, len, cap, m, n, D, Pl, hcs, _, hl, hm, hmm, _, hel⟩
  · have : v = .slice none 0 0 := by simpa using hcs
    subst this
    exact ⟨[], .inl ⟨rfl, none, 0, rfl⟩, by simp, fun y hy => by cases hy⟩
  · have hv : v = .slice (some a) len cap := by simpa using hcs
    subst hv
    have hlm : len ≤ m := by rw [hmm]; split <;> omega
    by_cases hp : ¬ 0 < len
    · have : len = 0 := by omega
      subst this
      exact ⟨[], .inl ⟨rfl, some a, cap, rfl⟩, by simp, fun y hy => by cases hy⟩
    have hp : 0 < len := by omega
    have ha : a = ⟨a.block, a.off, none⟩ := by
      obtain ⟨cs', h1, _⟩ := hel 0 (by omega)
      rw [cellsO39] at h1
      exact first_spot h1
    have each : ∀ i, ∃ y : List UInt8 × List UInt8, i < len → w.cell? ⟨a.block, a.off + i * 2, none⟩ = some (.string ⟨y.1.toArray⟩) ∧ w.cell? ⟨a.block, a.off + i * 2 + 1, none⟩ = some (.string ⟨y.2.toArray⟩) ∧ y.1.length ≤ maxLen ∧ y.2.length ≤ maxLen := by
      intro i
      by_cases hi : i < len
      · obtain ⟨cs', h1, h2⟩ := hel i (by omega)
        rw [cellsO39] at h1
        rw [ha] at h1
        obtain ⟨v0, v1, rfl, c0, c1⟩ := two_cells h1
        obtain ⟨y0, y1, k, _, _, t0, t1⟩ := Go.ChangeShapes.trod_struct2 Try.underlying77 h2
        simp only [cellsO9, List.drop_zero, List.drop_succ_cons, List.take_succ_cons, List.take_zero] at t0 t1
        obtain ⟨s0, e0, _, hs0⟩ := DataW.trod_string Try.underlying9 t0
        obtain ⟨s1, e1, _, hs1⟩ := DataW.trod_string Try.underlying9 t1
        simp only [List.cons.injEq, and_true] at e0 e1
        subst e0 e1
        exact ⟨(s0.data.toList, s1.data.toList), fun _ => ⟨c0, c1, by rw [← size_list]; exact hs0, by rw [← size_list]; exact hs1⟩⟩
      · exact ⟨([], []), fun h => absurd h hi⟩
    obtain ⟨f, hf⟩ := Classical.axiomOfChoice each
    refine ⟨(List.range len).map f, ?_, by simp; omega, ?_⟩
    · refine .inr ⟨by simpa using hp, a.block, a.off, cap, by rw [List.length_map, List.length_range, ← ha], fun k hk => ?_⟩
      have hk' : k < len := by simpa using hk
      have e : ((List.range len).map f)[k] = f k := by simp
      rw [e]
      exact ⟨(hf k hk').1, (hf k hk').2.1⟩
    · intro y hy
      obtain ⟨k, hk, rfl⟩ := List.mem_map.1 hy
      exact (hf k (List.mem_range.1 hk)).2.2
set_option maxRecDepth 20000 in
theorem open_value {r : Reach} {b0 : Nat} {v : Value} {d : DataW H} {ps : List MemPlace} (hv : Value.okWide Try.prog w r b0 27 v) (hd : DataW.Trod enc Try.prog w base sp held 27 v d ps) :
    ∃ a : Vl, VlAt w v a ∧ WideV a := by
  have hbig : maxLen ≤ 9223372036854775807 := Nat.le_refl _
  obtain ⟨c0, c1, c2, c3, y0, y1, y2, y3, n, rfl, rfl, rfl, h0, h1, h2, h3⟩ := open_agg4 Try.underlying27 (by kernel_rfl) cellsO25 hv hd
  obtain ⟨k, e0, rfl, _⟩ := DataW.trod_int Try.underlying3 h0
  obtain ⟨s, e1, rfl, k1⟩ := DataW.trod_string Try.underlying9 h1
  simp only [List.cons.injEq, and_true] at e0 e1
  subst e0 e1
  obtain ⟨xs, x1, x2, x3, _⟩ := open_strs h2
  obtain ⟨qs, q1, q2, q3⟩ := open_pairs h3
  refine ⟨⟨k, s.data.toList, xs, qs⟩, ⟨c2, c3, rfl, x1, q1⟩, ⟨Nat.le_trans x2 hbig, Nat.le_trans q2 hbig, ?_, fun y hy => Nat.le_trans (x3 y hy) hbig, fun y hy => ⟨Nat.le_trans (q3 y hy).1 hbig, Nat.le_trans (q3 y hy).2 hbig⟩⟩⟩
  show s.data.toList.length ≤ _
  rw [← size_list]
  exact Nat.le_trans k1 hbig
end
end Go.Proofs.Ytpfcfadbilaleaa
