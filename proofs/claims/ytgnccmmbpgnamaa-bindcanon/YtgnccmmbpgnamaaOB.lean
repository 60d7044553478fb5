/-
  OPENING of arguments: variables (layer 9).
-/
import Derived.Test.YtgnccmmbpgnamaaO
import Derived.Test.YtgnccmmbpgnamaaD3
namespace Go.Proofs.Ytgnccmmbpgnamaa
open Go Go.RowKit Go.Deep Go.Joins Go.Lib

theorem cellsO41 : Try.prog.cellsOf 41 = 5 := by kernel_rfl
theorem cellsO3 : Try.prog.cellsOf 3 = 1 := by kernel_rfl
theorem cellsO25' : Try.prog.cellsOf 25 = 1 := by kernel_rfl
theorem cellsO26 : Try.prog.cellsOf 26 = 1 := by kernel_rfl
theorem cellsO28 : Try.prog.cellsOf 28 = 4 := by kernel_rfl
section
variable {H : Type} {enc : TypeId × Value → H} {w : World} {base : Nat} {sp : Nat → Bool} {held : Bool}
set_option maxRecDepth 20000 in
theorem trod_vl {fuel : Nat} {v1 v2 v3 v4 : Value} {x : DataW H × List MemPlace} (h : DataW.trod enc Try.prog w base sp held fuel 28 [v1, v2, v3, v4] = some x) :
    ∃ (kd : Int) (S : ByteArray) (u : Vl), v1 = .int .i64 kd ∧ v2 = .string S ∧ VlAt w (.agg #[.int .i64 kd, .string S, v3, v4]) u ∧ WideV u := by
  have hbig : maxLen ≤ 9223372036854775807 := by unfold maxLen; omega
  obtain ⟨y0, y1, y2, y3, n, _, _, t0, t1, t2, t3⟩ := trod_struct4 Try.underlying28 h
  simp only [cellsO3, cellsO9, cellsO25', cellsO26, List.drop_zero, List.drop_succ_cons, List.take_succ_cons, List.take_zero] at t0 t1 t2 t3
  obtain ⟨k, e0, _, _⟩ := DataW.trod_int Try.underlying3 t0
  obtain ⟨s, e1, _, k1⟩ := DataW.trod_string Try.underlying9 t1
  simp only [List.cons.injEq, and_true] at e0 e1
  subst e0 e1
  obtain ⟨xs, x1, x2, x3, _⟩ := open_strs t2
  obtain ⟨qs, q1, q2, q3⟩ := open_pairs t3
  refine ⟨k, s, ⟨k, s.data.toList, xs, qs⟩, rfl, rfl, ⟨v3, v4, rfl, x1, q1⟩, ⟨Nat.le_trans x2 hbig, Nat.le_trans q2 hbig, ?_, fun y hy => Nat.le_trans (x3 y hy) hbig, fun y hy => ⟨Nat.le_trans (q3 y hy).1 hbig, Nat.le_trans (q3 y hy).2 hbig⟩⟩⟩
  show s.data.toList.length ≤ _
  rw [← size_list]
  exact Nat.le_trans k1 hbig
set_option maxRecDepth 20000 in
theorem trod_bind {fuel : Nat} {cs : List Value} {x : DataW H × List MemPlace} (h : DataW.trod enc Try.prog w base sp held fuel 41 cs = some x) :
    ∃ (M S : ByteArray) (kd : Int) (l p : Value) (b : Bd), cs = [.string M, .int .i64 kd, .string S, l, p] ∧ M.data.toList = b.1 ∧ VlAt w (.agg #[.int .i64 kd, .string S, l, p]) b.2 ∧ M.size ≤ maxLen ∧ WideV b.2 := by
  obtain ⟨y0, y1, n, _, hl, t0, t1⟩ := Go.ChangeShapes.trod_struct2 Try.underlying41 h
  rw [cellsO41] at hl
  match cs, hl with
  | [v0, v1, v2, v3, v4], _ =>
    simp only [cellsO9, cellsO28, List.drop_zero, List.drop_succ_cons, List.take_succ_cons, List.take_zero] at t0 t1
    obtain ⟨s, e0, _, k0⟩ := DataW.trod_string Try.underlying9 t0
    simp only [List.cons.injEq, and_true] at e0
    subst e0
    obtain ⟨kd, S, u, rfl, rfl, hv, hw⟩ := trod_vl t1
    exact ⟨s, S, kd, v3, v4, (s.data.toList, u), rfl, rfl, hv, k0, hw⟩
theorem first_spot5 {a : Addr} {cs : List Value} (h : w.cells? base (a.add (0 * 5)) 5 = some cs) : a = ⟨a.block, a.off, none⟩ := by
  obtain ⟨_, hlen, hc⟩ := World.cells?_some h
  have e0 := hc 0 (by omega)
  have e : (a.add (0 * 5)).add 0 = a := by simp [Addr.add]
  rw [e] at e0
  match cs, hlen with
  | v0 :: _, _ => exact spot_none e0
theorem five_cells {b o i : Nat} {cs : List Value} (h : w.cells? base ((⟨b, o, none⟩ : Addr).add (i * 5)) 5 = some cs) : ∀ j u, cs[j]? = some u → w.cell? ⟨b, o + i * 5 + j, none⟩ = some u := by
  obtain ⟨_, hlen, hc⟩ := World.cells?_some h
  intro j u hj
  have hj5 : j < 5 := by
    apply Classical.byContradiction
    intro hge
    rw [List.getElem?_eq_none (by rw [hlen]; omega)] at hj
    cases hj
  have e := hc j (by omega)
  rw [add_none, add_none] at e
  rw [e]
  simpa using hj
set_option maxRecDepth 20000 in
theorem open_binds {fuel : Nat} {v : Value} {x : DataW H × List MemPlace} (h : DataW.trod enc Try.prog w base sp held fuel 22 [v] = some x) : ∃ bs : List Bd, BindsAt w v bs ∧ WideB bs := by
  have hbig : maxLen ≤ 9223372036854775807 := by unfold maxLen; omega
  rcases open_slice Try.underlying22 h with ⟨hcs, _⟩ | ⟨a, len, cap, m, n, D, Pl, hcs, _, hl, hm, hmm, _, hel⟩
  · have : v = .slice none 0 0 := by simpa using hcs
    subst this
    exact ⟨[], BindsAt.nil _ _ _, by simp, (fun b hb => by cases hb), fun b hb => by cases hb⟩
  · have hv : v = .slice (some a) len cap := by simpa using hcs
    subst hv
    have hlm : len ≤ m := by rw [hmm]; split <;> omega
    by_cases hp : ¬ 0 < len
    · have : len = 0 := by omega
      subst this
      exact ⟨[], BindsAt.nil _ _ _, by simp, (fun b hb => by cases hb), fun b hb => by cases hb⟩
    have hp : 0 < len := by omega
    have ha : a = ⟨a.block, a.off, none⟩ := by
      obtain ⟨cs', h1, _⟩ := hel 0 (by omega)
      rw [cellsO41] at h1
      exact first_spot5 h1
    have each : ∀ i, ∃ e : Ev, i < len → (∀ j u, (cellsE e)[j]? = some u → w.cell? ⟨a.block, a.off + i * 5 + j, none⟩ = some u) ∧ EAt w e ∧ e.b.1.length ≤ maxLen ∧ WideV e.b.2 := by
      intro i
      by_cases hi : i < len
      · obtain ⟨cs', h1, h2⟩ := hel i (by omega)
        rw [cellsO41, ha] at h1
        obtain ⟨M, S, kd, l, p, b, rfl, hM, hv, hs, hw⟩ := trod_bind h2
        have eM : M = ⟨b.1.toArray⟩ := by rw [← hM]
        obtain ⟨sl, sq, e, g1, g2⟩ := hv
        cases e
        refine ⟨⟨b, l, p⟩, fun _ => ⟨fun j u hj => five_cells h1 j u ?_, ⟨g1, g2⟩, by rw [← hM, ← size_list]; exact hs, hw⟩⟩
        rw [eM]
        exact hj
      · exact ⟨⟨([], zeroV), .slice none 0 0, .slice none 0 0⟩, fun h => absurd h hi⟩
    obtain ⟨f, hf⟩ := Classical.axiomOfChoice each
    have hlen : ((List.range len).map f).length = len := by simp
    refine ⟨plainE ((List.range len).map f), ⟨(List.range len).map f, rfl, .inr ⟨by simpa using hp, a.block, a.off, cap, by rw [hlen, ← ha], fun k hk j u hj => ?_⟩, fun e he => ?_⟩, ?_, fun b hb => ?_, fun b hb => ?_⟩
    · have hk' : k < len := by simpa using hk
      have e : ((List.range len).map f)[k] = f k := by simp
      rw [e] at hj
      exact (hf k hk').1 j u hj
    · obtain ⟨k, hk, rfl⟩ := List.mem_map.1 he
      exact (hf k (List.mem_range.1 hk)).2.1
    · simp [plainE]
      omega
    · obtain ⟨e, he, rfl⟩ := List.mem_map.1 hb
      obtain ⟨k, hk, rfl⟩ := List.mem_map.1 he
      exact Nat.le_trans (hf k (List.mem_range.1 hk)).2.2.1 hbig
    · obtain ⟨e, he, rfl⟩ := List.mem_map.1 hb
      obtain ⟨k, hk, rfl⟩ := List.mem_map.1 he
      exact (hf k (List.mem_range.1 hk)).2.2.2
set_option maxRecDepth 20000 in
theorem open_bind {r : Reach} {b0 : Nat} {v : Value} {d : DataW H} {ps : List MemPlace} (hv : Value.okWide Try.prog w r b0 41 v) (hd : DataW.Trod enc Try.prog w base sp held 41 v d ps) :
    ∃ (M S : ByteArray) (kd : Int) (a1 : Option Addr) (n1 c1 : Nat) (a2 : Option Addr) (n2 c2 : Nat) (b : Bd), v = .agg #[.string M, .int .i64 kd, .string S, .slice a1 n1 c1, .slice a2 n2 c2] ∧ M.data.toList = b.1 ∧ VlAt w (.agg #[.int .i64 kd, .string S, .slice a1 n1 c1, .slice a2 n2 c2]) b.2 ∧ WideB [b] := by
  have hbig : maxLen ≤ 9223372036854775807 := by unfold maxLen; omega
  obtain ⟨cs, rfl, hsz⟩ := Go.WideShapes.okWide_struct Try.underlying41 hv
  obtain ⟨fuel, hf⟩ := hd
  obtain ⟨M, S, kd, l, p, b, e, hM, hvl, hs, hw⟩ := trod_bind hf
  have e2 : cs = #[.string M, .int .i64 kd, .string S, l, p] := by
    have : cs.toList = [.string M, .int .i64 kd, .string S, l, p] := by simpa [Value.cells] using e
    rw [← Array.toArray_toList (xs := cs), this]
  subst e2
  obtain ⟨sl, sq, ee, g1, g2⟩ := hvl
  cases ee
  obtain ⟨a1, c1, rfl⟩ := g1.form
  obtain ⟨a2, c2, rfl⟩ := g2.form
  refine ⟨M, _, _, a1, _, c1, a2, _, c2, b, rfl, hM, ⟨_, _, rfl, g1, g2⟩, by simp, fun x hx => ?_, fun x hx => ?_⟩
  · rw [List.mem_singleton] at hx; subst hx
    rw [← hM, ← size_list]
    exact Nat.le_trans hs hbig
  · rw [List.mem_singleton] at hx; subst hx
    exact hw
end
end Go.Proofs.Ytgnccmmbpgnamaa
