/-
  Proved: what is set is told, and nothing else is changed; set twice the last one is told; what isn't defined takes it away
  Conditions: none: every input that can be read.
-/
import Derived.Test.YtgnccmmbpgnamaaL1
import Derived.Deep.Slices
import Derived.Deep.Strs
import Derived.Lib.SmallJoins
import Derived.OpenShut
import Derived.SizedLaws
import Derived.Test.YtgnccmmbpgnamaaD3
import Derived.Test.YtgnccmmbpgnamaaRows
import Derived.Test.YtgnccmmbpgnamaaQ5
import Derived.WalkKit
import Derived.ProofKit
import Derived.ShutString
import Derived.ChangeOld
import Derived.Below
/-
  OPENING of arguments: lists of texts, values (layer 8).
-/
namespace Go.Proofs.Ytgnccmmbpgnamaa
open Go Go.RowKit Go.Deep Go.Joins Go.Lib

theorem spot_none {w : World} {a : Addr} {v : Value} (h : w.cell? a = some v) : a = ⟨a.block, a.off, none⟩ := by
  cases a with
  | mk b o s =>
    cases s with
    | none => rfl
    | some s =>
      unfold World.cell? at h
      split at h
      · simp at h
      · cases h
theorem add_none (b o j : Nat) : (⟨b, o, none⟩ : Addr).add j = ⟨b, o + j, none⟩ := by
  unfold Addr.add
  split
  · rename_i h; rw [h]; rfl
  · rfl
theorem cellsO9 : Try.prog.cellsOf 9 = 1 := by kernel_rfl
theorem cellsO39 : Try.prog.cellsOf 48 = 2 := by kernel_rfl
theorem cellsO25 : Try.prog.cellsOf 28 = 4 := by kernel_rfl
section
variable {H : Type} {enc : TypeId × Value → H} {w : World} {base : Nat} {sp : Nat → Bool} {held : Bool}
set_option maxRecDepth 20000 in
theorem open_strs {fuel : Nat} {v : Value} {x : DataW H × List MemPlace} (h : DataW.trod enc Try.prog w base sp held fuel 25 [v] = some x) : ∃ xs : List (List UInt8), StrsAt w v xs ∧ xs.length ≤ maxLen ∧ (∀ y ∈ xs, y.length ≤ maxLen) ∧ (xs = [] ∨ ∃ el spare, x.1 = .slice el spare ∧ ∀ y ∈ xs, (.lit (.string y)) ∈ el) := by
  rcases open_slice1 Try.underlying25 cellsO9 h with ⟨hcs, _⟩ | ⟨a, len, cap, m, n, V, D, Pl, hcs, _, hl, hm, hmm, hx, hel⟩
  · have : v = .slice none 0 0 := by simpa using hcs
    subst this
    exact ⟨[], .inl ⟨rfl, none, 0, rfl⟩, by simp, (fun y hy => by cases hy), .inl rfl⟩
  · have hv : v = .slice (some a) len cap := by simpa using hcs
    subst hv
    have hlm : len ≤ m := by rw [hmm]; split <;> omega
    by_cases hp : ¬ 0 < len
    · have : len = 0 := by omega
      subst this
      exact ⟨[], .inl ⟨rfl, some a, cap, rfl⟩, by simp, (fun y hy => by cases hy), .inl rfl⟩
    have hp : 0 < len := by omega
    have ha : a = ⟨a.block, a.off, none⟩ := by
      have := (hel 0 (by omega)).1
      rw [show a.add 0 = a by simp [Addr.add]] at this
      exact spot_none this
    have each : ∀ i, ∃ y : List UInt8, i < len → w.cell? ⟨a.block, a.off + i, none⟩ = some (.string ⟨y.toArray⟩) ∧ y.length ≤ maxLen ∧ D i = .lit (.string y) := by
      intro i
      by_cases hi : i < len
      · obtain ⟨h1, h2⟩ := hel i (by omega)
        rw [ha, add_none] at h1
        obtain ⟨s0, e0, e1, hs0⟩ := DataW.trod_string Try.underlying9 h2
        simp only [List.cons.injEq, and_true] at e0
        rw [e0] at h1
        simp only [Prod.mk.injEq] at e1
        exact ⟨s0.data.toList, fun _ => ⟨h1, by rw [← size_list]; exact hs0, e1.1⟩⟩
      · exact ⟨[], fun h => absurd h hi⟩
    obtain ⟨f, hf⟩ := Classical.axiomOfChoice each
    refine ⟨(List.range len).map f, ?_, by simp; omega, ?_, .inr ⟨_, _, by rw [hx], ?_⟩⟩
    · refine .inr ⟨by simpa using hp, a.block, a.off, cap, by rw [List.length_map, List.length_range, ← ha], fun k hk => ?_⟩
      have hk' : k < len := by simpa using hk
      have e : ((List.range len).map f).getD k [] = f k := by simp [hk']
      rw [e]
      exact (hf k hk').1
    · intro y hy
      obtain ⟨k, hk, rfl⟩ := List.mem_map.1 hy
      exact (hf k (List.mem_range.1 hk)).2.1
    · intro y hy
      obtain ⟨k, hk, rfl⟩ := List.mem_map.1 hy
      exact List.mem_map.2 ⟨k, hk, (hf k (List.mem_range.1 hk)).2.2⟩
theorem first_spot {a : Addr} {cs : List Value} (h : w.cells? base (a.add (0 * 2)) 2 = some cs) : a = ⟨a.block, a.off, none⟩ := by
  obtain ⟨_, hlen, hc⟩ := World.cells?_some h
  have e0 := hc 0 (by omega)
  have e : (a.add (0 * 2)).add 0 = a := by simp [Addr.add]
  rw [e] at e0
  match cs, hlen with
  | v0 :: _, _ => exact spot_none e0
theorem two_cells {b o i : Nat} {cs : List Value} (h : w.cells? base ((⟨b, o, none⟩ : Addr).add (i * 2)) 2 = some cs) : ∃ v0 v1, cs = [v0, v1] ∧ w.cell? ⟨b, o + i * 2, none⟩ = some v0 ∧ w.cell? ⟨b, o + i * 2 + 1, none⟩ = some v1 := by
  obtain ⟨_, hlen, hc⟩ := World.cells?_some h
  match cs, hlen with
  | [v0, v1], _ =>
    have e0 := hc 0 (by omega)
    have e1 := hc 1 (by omega)
    rw [add_none, add_none] at e0 e1
    exact ⟨v0, v1, rfl, e0, e1⟩
set_option maxRecDepth 20000 in
theorem open_pairs {fuel : Nat} {v : Value} {x : DataW H × List MemPlace} (h : DataW.trod enc Try.prog w base sp held fuel 26 [v] = some x) : ∃ xs : List (List UInt8 × List UInt8), PairsAt w v xs ∧ xs.length ≤ maxLen ∧ ∀ y ∈ xs, y.1.length ≤ maxLen ∧ y.2.length ≤ maxLen := by
  rcases open_slice Try.underlying26 h with ⟨hcs, _⟩ | ⟨a, len, cap, m, n, D, Pl, hcs, _, hl, hm, hmm, _, hel⟩
  · have : v = .slice none 0 0 := by simpa using hcs
    subst this
    exact ⟨[], .inl ⟨rfl, none, 0, rfl⟩, by simp, fun y hy => by cases hy⟩
  · have hv : v = .slice (some a) len cap := by simpa using hcs
    subst hv
    have hlm : len ≤ m := by rw [hmm]; split <;> omega
    by_cases hp : ¬ 0 < len
    · have : len = 0 := by omega
      subst this
      exact ⟨[], .inl ⟨rfl, some a, cap, rfl⟩, by simp, fun y hy => by cases hy⟩
    have hp : 0 < len := by omega
    have ha : a = ⟨a.block, a.off, none⟩ := by
      obtain ⟨cs', h1, _⟩ := hel 0 (by omega)
      rw [cellsO39] at h1
      exact first_spot h1
    have each : ∀ i, ∃ y : List UInt8 × List UInt8, i < len → w.cell? ⟨a.block, a.off + i * 2, none⟩ = some (.string ⟨y.1.toArray⟩) ∧ w.cell? ⟨a.block, a.off + i * 2 + 1, none⟩ = some (.string ⟨y.2.toArray⟩) ∧ y.1.length ≤ maxLen ∧ y.2.length ≤ maxLen := by
      intro i
      by_cases hi : i < len
      · obtain ⟨cs', h1, h2⟩ := hel i (by omega)
        rw [cellsO39] at h1
        rw [ha] at h1
        obtain ⟨v0, v1, rfl, c0, c1⟩ := two_cells h1
        obtain ⟨y0, y1, k, _, _, t0, t1⟩ := Go.ChangeShapes.trod_struct2 Try.underlying48 h2
        simp only [cellsO9, List.drop_zero, List.drop_succ_cons, List.take_succ_cons, List.take_zero] at t0 t1
        obtain ⟨s0, e0, _, hs0⟩ := DataW.trod_string Try.underlying9 t0
        obtain ⟨s1, e1, _, hs1⟩ := DataW.trod_string Try.underlying9 t1
        simp only [List.cons.injEq, and_true] at e0 e1
        subst e0 e1
        exact ⟨(s0.data.toList, s1.data.toList), fun _ => ⟨c0, c1, by rw [← size_list]; exact hs0, by rw [← size_list]; exact hs1⟩⟩
      · exact ⟨([], []), fun h => absurd h hi⟩
    obtain ⟨f, hf⟩ := Classical.axiomOfChoice each
    refine ⟨(List.range len).map f, ?_, by simp; omega, ?_⟩
    · refine .inr ⟨by simpa using hp, a.block, a.off, cap, by rw [List.length_map, List.length_range, ← ha], fun k hk => ?_⟩
      have hk' : k < len := by simpa using hk
      have e : ((List.range len).map f)[k] = f k := by simp
      rw [e]
      exact ⟨(hf k hk').1, (hf k hk').2.1⟩
    · intro y hy
      obtain ⟨k, hk, rfl⟩ := List.mem_map.1 hy
      exact (hf k (List.mem_range.1 hk)).2.2
set_option maxRecDepth 20000 in
theorem open_value {r : Reach} {b0 : Nat} {v : Value} {d : DataW H} {ps : List MemPlace} (hv : Value.okWide Try.prog w r b0 28 v) (hd : DataW.Trod enc Try.prog w base sp held 28 v d ps) :
    ∃ a : Vl, VlAt w v a ∧ WideV a := by
  have hbig : maxLen ≤ 9223372036854775807 := by unfold maxLen; omega
  obtain ⟨c0, c1, c2, c3, y0, y1, y2, y3, n, rfl, rfl, rfl, h0, h1, h2, h3⟩ := open_agg4 Try.underlying28 (by kernel_rfl) cellsO25 hv hd
  obtain ⟨k, e0, rfl, _⟩ := DataW.trod_int Try.underlying3 h0
  obtain ⟨s, e1, rfl, k1⟩ := DataW.trod_string Try.underlying9 h1
  simp only [List.cons.injEq, and_true] at e0 e1
  subst e0 e1
  obtain ⟨xs, x1, x2, x3, _⟩ := open_strs h2
  obtain ⟨qs, q1, q2, q3⟩ := open_pairs h3
  refine ⟨⟨k, s.data.toList, xs, qs⟩, ⟨c2, c3, rfl, x1, q1⟩, ⟨Nat.le_trans x2 hbig, Nat.le_trans q2 hbig, ?_, fun y hy => Nat.le_trans (x3 y hy) hbig, fun y hy => ⟨Nat.le_trans (q3 y hy).1 hbig, Nat.le_trans (q3 y hy).2 hbig⟩⟩⟩
  show s.data.toList.length ≤ _
  rw [← size_list]
  exact Nat.le_trans k1 hbig
end
theorem weights_mem {H : Type} {P : Program} {e : TypeId} : ∀ {el : List (DataW H)} {d : DataW H}, d ∈ el → ∀ n ∈ d.weights P e, n ∈ DataW.weightsAll P e el
  | c :: r, d, hd, n, hn => by
    simp only [DataW.weightsAll, List.mem_append]
    rcases List.mem_cons.1 hd with rfl | hd
    · exact .inl hn
    · exact .inr (weights_mem hd n hn)
theorem strs_reach {H : Type} {ts : List TypeId} {ds : List (DataW H)} (h : (DataW.weightsEach Try.prog ts ds).all (· ≤ reachBytes) = true) {j : Nat} (ht : ts[j]? = some 25) {el spare : List (DataW H)} (hd : ds[j]? = some (.slice el spare)) {y : List UInt8} (hy : (.lit (.string y)) ∈ el) : y.length ≤ 140737488355328 := by
  have := List.all_eq_true.1 h _ (DataW.weights_mem_each ht hd y.length (by
    simp only [DataW.weights, Try.underlying25, List.mem_cons, List.mem_append]
    exact .inr (.inl (weights_mem hy _ (by simp [DataW.weights])))))
  have h2 : y.length ≤ reachBytes := by simpa using this
  have h3 := reachBytes_lt
  omega
end Go.Proofs.Ytgnccmmbpgnamaa

/-
  OPENING of arguments: variables (layer 9).
-/
namespace Go.Proofs.Ytgnccmmbpgnamaa
open Go Go.RowKit Go.Deep Go.Joins Go.Lib

theorem cellsO41 : Try.prog.cellsOf 41 = 5 := by kernel_rfl
theorem cellsO3 : Try.prog.cellsOf 3 = 1 := by kernel_rfl
theorem cellsO25' : Try.prog.cellsOf 25 = 1 := by kernel_rfl
theorem cellsO26 : Try.prog.cellsOf 26 = 1 := by kernel_rfl
theorem cellsO28 : Try.prog.cellsOf 28 = 4 := by kernel_rfl
section
variable {H : Type} {enc : TypeId × Value → H} {w : World} {base : Nat} {sp : Nat → Bool} {held : Bool}
set_option maxRecDepth 20000 in
theorem trod_vl {fuel : Nat} {v1 v2 v3 v4 : Value} {x : DataW H × List MemPlace} (h : DataW.trod enc Try.prog w base sp held fuel 28 [v1, v2, v3, v4] = some x) :
    ∃ (kd : Int) (S : ByteArray) (u : Vl), v1 = .int .i64 kd ∧ v2 = .string S ∧ VlAt w (.agg #[.int .i64 kd, .string S, v3, v4]) u ∧ WideV u := by
  have hbig : maxLen ≤ 9223372036854775807 := by unfold maxLen; omega
  obtain ⟨y0, y1, y2, y3, n, _, _, t0, t1, t2, t3⟩ := trod_struct4 Try.underlying28 h
  simp only [cellsO3, cellsO9, cellsO25', cellsO26, List.drop_zero, List.drop_succ_cons, List.take_succ_cons, List.take_zero] at t0 t1 t2 t3
  obtain ⟨k, e0, _, _⟩ := DataW.trod_int Try.underlying3 t0
  obtain ⟨s, e1, _, k1⟩ := DataW.trod_string Try.underlying9 t1
  simp only [List.cons.injEq, and_true] at e0 e1
  subst e0 e1
  obtain ⟨xs, x1, x2, x3, _⟩ := open_strs t2
  obtain ⟨qs, q1, q2, q3⟩ := open_pairs t3
  refine ⟨k, s, ⟨k, s.data.toList, xs, qs⟩, rfl, rfl, ⟨v3, v4, rfl, x1, q1⟩, ⟨Nat.le_trans x2 hbig, Nat.le_trans q2 hbig, ?_, fun y hy => Nat.le_trans (x3 y hy) hbig, fun y hy => ⟨Nat.le_trans (q3 y hy).1 hbig, Nat.le_trans (q3 y hy).2 hbig⟩⟩⟩
  show s.data.toList.length ≤ _
  rw [← size_list]
  exact Nat.le_trans k1 hbig
set_option maxRecDepth 20000 in
theorem trod_bind {fuel : Nat} {cs : List Value} {x : DataW H × List MemPlace} (h : DataW.trod enc Try.prog w base sp held fuel 41 cs = some x) :
    ∃ (M S : ByteArray) (kd : Int) (l p : Value) (b : Bd), cs = [.string M, .int .i64 kd, .string S, l, p] ∧ M.data.toList = b.1 ∧ VlAt w (.agg #[.int .i64 kd, .string S, l, p]) b.2 ∧ M.size ≤ maxLen ∧ WideV b.2 := by
  obtain ⟨y0, y1, n, _, hl, t0, t1⟩ := Go.ChangeShapes.trod_struct2 Try.underlying41 h
  rw [cellsO41] at hl
  match cs, hl with
  | [v0, v1, v2, v3, v4], _ =>
    simp only [cellsO9, cellsO28, List.drop_zero, List.drop_succ_cons, List.take_succ_cons, List.take_zero] at t0 t1
    obtain ⟨s, e0, _, k0⟩ := DataW.trod_string Try.underlying9 t0
    simp only [List.cons.injEq, and_true] at e0
    subst e0
    obtain ⟨kd, S, u, rfl, rfl, hv, hw⟩ := trod_vl t1
    exact ⟨s, S, kd, v3, v4, (s.data.toList, u), rfl, rfl, hv, k0, hw⟩
theorem first_spot5 {a : Addr} {cs : List Value} (h : w.cells? base (a.add (0 * 5)) 5 = some cs) : a = ⟨a.block, a.off, none⟩ := by
  obtain ⟨_, hlen, hc⟩ := World.cells?_some h
  have e0 := hc 0 (by omega)
  have e : (a.add (0 * 5)).add 0 = a := by simp [Addr.add]
  rw [e] at e0
  match cs, hlen with
  | v0 :: _, _ => exact spot_none e0
theorem five_cells {b o i : Nat} {cs : List Value} (h : w.cells? base ((⟨b, o, none⟩ : Addr).add (i * 5)) 5 = some cs) : ∀ j u, cs[j]? = some u → w.cell? ⟨b, o + i * 5 + j, none⟩ = some u := by
  obtain ⟨_, hlen, hc⟩ := World.cells?_some h
  intro j u hj
  have hj5 : j < 5 := by
    apply Classical.byContradiction
    intro hge
    rw [List.getElem?_eq_none (by rw [hlen]; omega)] at hj
    cases hj
  have e := hc j (by omega)
  rw [add_none, add_none] at e
  rw [e]
  simpa using hj
set_option maxRecDepth 20000 in
theorem open_binds {fuel : Nat} {v : Value} {x : DataW H × List MemPlace} (h : DataW.trod enc Try.prog w base sp held fuel 22 [v] = some x) : ∃ bs : List Bd, BindsAt w v bs ∧ WideB bs := by
  have hbig : maxLen ≤ 9223372036854775807 := by unfold maxLen; omega
  rcases open_slice Try.underlying22 h with ⟨hcs, _⟩ | ⟨a, len, cap, m, n, D, Pl, hcs, _, hl, hm, hmm, _, hel⟩
  · have : v = .slice none 0 0 := by simpa using hcs
    subst this
    exact ⟨[], BindsAt.nil _ _ _, by simp, (fun b hb => by cases hb), fun b hb => by cases hb⟩
  · have hv : v = .slice (some a) len cap := by simpa using hcs
    subst hv
    have hlm : len ≤ m := by rw [hmm]; split <;> omega
    by_cases hp : ¬ 0 < len
    · have : len = 0 := by omega
      subst this
      exact ⟨[], BindsAt.nil _ _ _, by simp, (fun b hb => by cases hb), fun b hb => by cases hb⟩
    have hp : 0 < len := by omega
    have ha : a = ⟨a.block, a.off, none⟩ := by
      obtain ⟨cs', h1, _⟩ := hel 0 (by omega)
      rw [cellsO41] at h1
      exact first_spot5 h1
    have each : ∀ i, ∃ e : Ev, i < len → (∀ j u, (cellsE e)[j]? = some u → w.cell? ⟨a.block, a.off + i * 5 + j, none⟩ = some u) ∧ EAt w e ∧ e.b.1.length ≤ maxLen ∧ WideV e.b.2 := by
      intro i
      by_cases hi : i < len
      · obtain ⟨cs', h1, h2⟩ := hel i (by omega)
        rw [cellsO41, ha] at h1
        obtain ⟨M, S, kd, l, p, b, rfl, hM, hv, hs, hw⟩ := trod_bind h2
        have eM : M = ⟨b.1.toArray⟩ := by rw [← hM]
        obtain ⟨sl, sq, e, g1, g2⟩ := hv
        cases e
        refine ⟨⟨b, l, p⟩, fun _ => ⟨fun j u hj => five_cells h1 j u ?_, ⟨g1, g2⟩, by rw [← hM, ← size_list]; exact hs, hw⟩⟩
        rw [eM]
        exact hj
      · exact ⟨⟨([], zeroV), .slice none 0 0, .slice none 0 0⟩, fun h => absurd h hi⟩
    obtain ⟨f, hf⟩ := Classical.axiomOfChoice each
    have hlen : ((List.range len).map f).length = len := by simp
    refine ⟨plainE ((List.range len).map f), ⟨(List.range len).map f, rfl, .inr ⟨by simpa using hp, a.block, a.off, cap, by rw [hlen, ← ha], fun k hk j u hj => ?_⟩, fun e he => ?_⟩, ?_, fun b hb => ?_, fun b hb => ?_⟩
    · have hk' : k < len := by simpa using hk
      have e : ((List.range len).map f)[k] = f k := by simp
      rw [e] at hj
      exact (hf k hk').1 j u hj
    · obtain ⟨k, hk, rfl⟩ := List.mem_map.1 he
      exact (hf k (List.mem_range.1 hk)).2.1
    · simp [plainE]
      omega
    · obtain ⟨e, he, rfl⟩ := List.mem_map.1 hb
      obtain ⟨k, hk, rfl⟩ := List.mem_map.1 he
      exact Nat.le_trans (hf k (List.mem_range.1 hk)).2.2.1 hbig
    · obtain ⟨e, he, rfl⟩ := List.mem_map.1 hb
      obtain ⟨k, hk, rfl⟩ := List.mem_map.1 he
      exact (hf k (List.mem_range.1 hk)).2.2.2
set_option maxRecDepth 20000 in
theorem open_bind {r : Reach} {b0 : Nat} {v : Value} {d : DataW H} {ps : List MemPlace} (hv : Value.okWide Try.prog w r b0 41 v) (hd : DataW.Trod enc Try.prog w base sp held 41 v d ps) :
    ∃ (M S : ByteArray) (kd : Int) (a1 : Option Addr) (n1 c1 : Nat) (a2 : Option Addr) (n2 c2 : Nat) (b : Bd), v = .agg #[.string M, .int .i64 kd, .string S, .slice a1 n1 c1, .slice a2 n2 c2] ∧ M.data.toList = b.1 ∧ VlAt w (.agg #[.int .i64 kd, .string S, .slice a1 n1 c1, .slice a2 n2 c2]) b.2 ∧ WideB [b] := by
  have hbig : maxLen ≤ 9223372036854775807 := by unfold maxLen; omega
  obtain ⟨cs, rfl, hsz⟩ := Go.WideShapes.okWide_struct Try.underlying41 hv
  obtain ⟨fuel, hf⟩ := hd
  obtain ⟨M, S, kd, l, p, b, e, hM, hvl, hs, hw⟩ := trod_bind hf
  have e2 : cs = #[.string M, .int .i64 kd, .string S, l, p] := by
    have : cs.toList = [.string M, .int .i64 kd, .string S, l, p] := by simpa [Value.cells] using e
    rw [← Array.toArray_toList (xs := cs), this]
  subst e2
  obtain ⟨sl, sq, ee, g1, g2⟩ := hvl
  cases ee
  obtain ⟨a1, c1, rfl⟩ := g1.form
  obtain ⟨a2, c2, rfl⟩ := g2.form
  refine ⟨M, _, _, a1, _, c1, a2, _, c2, b, rfl, hM, ⟨_, _, rfl, g1, g2⟩, by simp, fun x hx => ?_, fun x hx => ?_⟩
  · rw [List.mem_singleton] at hx; subst hx
    rw [← hM, ← size_list]
    exact Nat.le_trans hs hbig
  · rw [List.mem_singleton] at hx; subst hx
    exact hw
end
end Go.Proofs.Ytgnccmmbpgnamaa

namespace Go.Proofs.Ytgnccmmbpgnamaa.bindTold
open Go.ChangeShapes Go.WideShapes Go.ChangeAt Go.RowKit
open Go.ChangeMaps (open_string shut_string)
set_option linter.unusedVariables false

theorem own : ownKnob Try.prog.godebug = none := by kernel_rfl
theorem laidOut : laidOutB Try.prog = true := by kernel_rfl

set_option maxRecDepth 100000 in
theorem lifted (os : Os) (started : os.Started) (H : Type) (enc : TypeId × Value → H) :
    ReturnsInHanded {} Try.checked os 5 .any (Rows.bindToldSpec.pre6 enc Try.prog Try.f5 Rows.bindToldRow.domain false) (Rows.bindToldSpec.post enc Try.prog Try.f5 false true false false) := by
  refine returnsInHanded_of_change (C := Try.checked) own started (by kernel_rfl) Try.func5
    (ChangeSpec.witness6 (enc := enc) (C := Try.checked) false ⟨#[], #[.slice none 0 0, .agg #[.string ByteArray.empty, .int .i64 0, .string ByteArray.empty, .slice none 0 0, .slice none 0 0], .agg #[.string ByteArray.empty, .int .i64 0, .string ByteArray.empty, .slice none 0 0, .slice none 0 0]], []⟩ 8 (by kernel_rfl) (by kernel_rfl) (by kernel_rfl) (by kernel_rfl)) ?_
  intro W base args ds gs before hval0 hW hcnd _
  have hval : ∀ (j : Nat) t v, Try.f5.params[j]? = some t → args[j]? = some v → Value.okWide Try.prog W .any base t v := hval0
  have hW' := hW
  obtain ⟨p, q, hA0, hV, rfl, hfz, hnd⟩ := hW
  have hA : DataW.TrodAll enc Try.prog W 0 (fun _ => true) true Try.f5.params.toList args.toList ds p := hA0
  rw [Try.params5] at hA hval
  obtain ⟨v0, vs0, d0, ds0, p0, q0, hargs, rfl, rfl, h0, r0⟩ := trodAll_cons hA
  obtain ⟨v1, vs1, d1, ds1, p1, q1, rfl, rfl, rfl, h1, r1⟩ := trodAll_cons r0
  obtain ⟨v2, vs2, d2, ds2, p2, q2, rfl, rfl, rfl, h2, r2⟩ := trodAll_cons r1
  obtain ⟨rfl, rfl, rfl⟩ := trodAll_nil r2
  obtain rfl : args = #[v0, v1, v2] := by cases args; simp_all
  obtain ⟨rfl, rfl⟩ := trodVars_none hV
  obtain ⟨a0, len0, cap0, rfl⟩ := okWide_slice Try.underlying22 (hval 0 22 v0 rfl rfl)
  have k0 := h0
  have lt0 : ∀ x ∈ p0, x.block < W.heap.size := by obtain ⟨m, hm⟩ := k0; exact DataW.trod_lt m _ _ _ hm
  obtain ⟨bs0, B0, w0⟩ : ∃ bs, BindsAt W (.slice a0 len0 cap0) bs ∧ WideB bs := by
    obtain ⟨fuel, hf⟩ := h0
    exact open_binds (show DataW.trod _ _ _ _ _ _ fuel 22 [.slice a0 len0 cap0] = some _ from hf)
  have k1 := h1
  have lt1 : ∀ x ∈ p1, x.block < W.heap.size := by obtain ⟨m, hm⟩ := k1; exact DataW.trod_lt m _ _ _ hm
  obtain ⟨M1, S1, kd1, a1, n1, c1, e1, m1, z1, x1, rfl, hM1, V1, w1⟩ := open_bind (hval 1 41 v1 rfl rfl) h1
  have k2 := h2
  have lt2 : ∀ x ∈ p2, x.block < W.heap.size := by obtain ⟨m, hm⟩ := k2; exact DataW.trod_lt m _ _ _ hm
  obtain ⟨M2, S2, kd2, a2, n2, c2, e2, m2, z2, x2, rfl, hM2, V2, w2⟩ := open_bind (hval 2 41 v2 rfl rfl) h2
  clear hA0 hval0
  simp only [List.append_nil] at hW'
  refine (told_walk _ bs0 M1 S1 kd1 a1 e1 n1 m1 c1 z1 x1 M2 S2 kd2 a2 e2 n2 m2 c2 z2 x2 W B0 hM1 V1 hM2 V2 w0 w1 w2).mono fun e W' ⟨he, bel⟩ => ?_
  subst he
  exact ⟨_, rfl, _, _, _, [], _, [], hW', trodAll_mk1 (shut_bool Try.underlying4 _), (trodAll_cons_mk (Below.trod laidOut (by kernel_rfl) (of_decide_eq_true (by kernel_rfl)) k0 bel lt0) (trodAll_cons_mk (Below.trod laidOut (by kernel_rfl) (of_decide_eq_true (by kernel_rfl)) k1 bel lt1) (trodAll_cons_mk (Below.trod laidOut (by kernel_rfl) (of_decide_eq_true (by kernel_rfl)) k2 bel lt2) trodAll_mk0))), rfl, bel.frame _, fun h => by cases h⟩

theorem over : Rows.bindToldRow.holds Try.pinned (OpenSpec.ofChange Rows.bindToldSpec) :=
  OpenClaim.holds_of_wide 5 Try.f5 rfl rfl rfl rfl rfl rfl rfl ⟨rfl, rfl, rfl, rfl, rfl⟩ rfl rfl rfl rfl rfl (by kernel_rfl) Try.func5 (by kernel_rfl)
    (of_decide_eq_true (by kernel_rfl)) (by unfold Func.isWrapper; first | (rw [if_pos (by decide +kernel)]; kernel_rfl) | (rw [if_neg (by decide +kernel)]; exact ⟨rfl, rfl⟩))
    (fun os started H enc _ => lifted os started H enc)

theorem proved : Rows.BindToldSaid := over
end Go.Proofs.Ytgnccmmbpgnamaa.bindTold
