/-
  WALKS: slices.Grow and slices.Concat over variables, the program's Set (layer 9).
-/
import Derived.Test.YtgnccmmbpgnamaaG7
namespace Go.Proofs.Ytgnccmmbpgnamaa
open Go.RowKit

theorem grow_any (n : Nat) (w : World) (hn : 0 < n) (hm : n ≤ 1000000) : Calls Try.prog 45 #[.slice none 0 0, .int .i64 n] w fun e w' => ∃ g c, e = .returned (.slice (some ⟨g, 0, none⟩) 0 c) ∧ Rw w.heap.size w' (.slice (some ⟨g, 0, none⟩) 0 c) [] ∧ Below w.heap.size w w' := by
  obtain ⟨i0, hi, hz0, hz1, hz2⟩ := info_parts info41
  refine (Any8.slices_Grow_grow growA i0 (.agg #[.string ⟨#[]⟩, .int .i64 0, .string ⟨#[]⟩, .slice none 0 0, .slice none 0 0]) hi hz0 (by omega) none 0 0 n [] w (Nat.le_refl _) (by omega) (by rw [hz2]; omega) (by omega) (by simp) (fun _ => rfl) (fun a h => by cases h)).mono ?_
  rintro e w' ⟨rfl, rfl⟩
  have hge : 0 + n ≤ grownCap w (0 + n) 0 41 := grownCap_ge w _ _ _
  have hle := grownCap_le_maxLen w (0 + n) 0 41 (by unfold maxLen; omega)
  refine ⟨w.heap.size, _, rfl, ⟨⟨rfl, .inr ⟨w.heap.size, _, _, rfl, Nat.le_refl _, Bx.made _ _ _, Nat.zero_le _, hle, ?_, rfl⟩⟩, fun _ h => (by cases h), fun _ _ _ h => (by cases h)⟩, b_drew_alloc _ _⟩
  show (#[] ++ Builtin.zeroCells _ (0 + n - 0) ++ Builtin.zeroCells _ _ : Array Value).size = _
  rw [Array.size_append, Array.size_append, size_zeroCells, size_zeroCells]
  show 0 + (0 + n - 0) * 5 + (grownCap w (0 + n) 0 41 - (0 + n)) * 5 = grownCap w (0 + n) 0 41 * 5
  omega
theorem grow_is (n : Nat) (z : Int) (w : World) (hz : z = n) (hn : 0 < n) (hm : n ≤ 1000000) : Calls Try.prog 45 #[.slice none 0 0, .int .i64 z] w fun e w' => ∃ g c, e = .returned (.slice (some ⟨g, 0, none⟩) 0 c) ∧ Rw w.heap.size w' (.slice (some ⟨g, 0, none⟩) 0 c) [] ∧ Below w.heap.size w w' := by
  subst hz; exact grow_any n w hn hm
theorem wpList_moreM {ops : Array Oper} {rest : List Oper} {o : Oper} {a : Act} {w : World} {Q : Exit → Act → World → Prop} (hgd : o.guard = none) (s x : Operand)
    (ho : o.op = .call { callee := .builtin .append, args := #[s, x], argTypes := #[22, 22] }) (base : Nat) (v u : Value) (es fs : List Ev) (m : Nat) (hm : es.length + fs.length = m) (hs : a.eval s = v) (hx : a.eval x = u)
    (hr : Rw base w v es) (hu : BindsE w u fs) (hof : ∀ b, v.ownBlock = some b → ∀ f ∈ fs, OffE b f) (hn : m ≤ 1000000) (hbase : base ≤ w.heap.size)
    (h : ∀ d c w', Rw base w' (.slice d m c) (es ++ fs) → w.grownBy w' v.ownBlock → wpList Try.prog ops Q rest (a.put o.dst (.slice d m c)) w') : wpList Try.prog ops Q (o :: rest) a w := by
  subst hm; exact wpList_moreB hgd s x ho base v u es fs hs hx hr hu hof hn hbase h
set_option maxRecDepth 20000 in
set_option maxHeartbeats 8000000 in
theorem concat_any (k : Nat) (a1 a2 : Option Addr) (n1 n2 c1 c2 : Nat) (es fs : List Ev) (w : World) (hk : w.cell? ⟨k, 0, none⟩ = some (.slice a1 n1 c1)) (hk2 : w.cell? ⟨k, 1, none⟩ = some (.slice a2 n2 c2)) (HE : BindsE w (.slice a1 n1 c1) es) (HF : BindsE w (.slice a2 n2 c2) fs)
    (he : es.length = n1) (hf : fs.length = n2) (hp : 0 < n1) (hn : n1 ≤ 1000) (hn2 : n2 ≤ 1000) :
    Calls Try.prog 34 #[.slice (some ⟨k, 0, none⟩) 2 2] w fun e w' => ∃ a c, e = .returned (.slice a (n1 + n2) c) ∧ BindsAt w' (.slice a (n1 + n2) c) (plainE (es ++ fs)) ∧ Below w.heap.size w w' := by
  have hkl : k < w.heap.size := lt_of_cell hk
  have e1 : IntKind.i64.wrap ((n1 : Int) + n2) = ((n1 + n2 : Nat) : Int) := by rw [IntKind.wrap_i64]; omega
  have e0 : IntKind.i64.wrap (0 + (n1 : Int)) = (n1 : Int) := by rw [IntKind.wrap_i64]; omega
  have g0 : ¬ ((n1 : Int) < 0) := by omega
  have g1 : ¬ ((n1 : Int) + n2 < 0) := by omega
  have HEh := hide HE
  have HFh := hide HF
  have He := hide he
  have Hf := hide hf
  clear HE HF he hf
  go_enter Try.func34, Try.ntmps34
  go_wp2
  refine wp_loop_rounds 3 ?_
  rw [rounds_succ]
  go_wp2
  rw [rounds_succ]
  go_wp2
  rw [rounds_succ]
  go_wp2_with (go_at_call 45; refine (grow_is (n1 + n2) _ _ (by omega) (by omega) (by omega)).mono ?_; rintro e w1 ⟨g, cg, rfl, R, bb⟩)
  have d0 := (bb.cell (p := ⟨k, 0, none⟩) hkl).trans hk
  have d1 := (bb.cell (p := ⟨k, 1, none⟩) hkl).trans hk2
  have HR := hide R
  have hb1 := bb.size
  have he2 := hide (HEh.out.later bb)
  have hO1 := hide (show ∀ b, (Value.slice (some ⟨g, 0, none⟩) 0 cg).ownBlock = some b → ∀ f ∈ es, OffE b f from fun b hb f hf => OffE.old (HEh.out.2 f hf) (HR.out.row.lt b hb).1)
  clear R
  refine wp_loop_rounds 3 ?_
  rw [rounds_succ]
  go_wp2_with (at_builtin; refine wpList_moreM rfl _ _ rfl w.heap.size _ _ [] es n1 (by rw [He.out]; simp) rfl rfl HR.out he2.out hO1.out (by omega) hb1 ?_; intro p1 q1 w2 R2 hgr)
  have hr1 : ∀ i, i < w.heap.size → some i ≠ (Value.slice (some ⟨g, 0, none⟩) 0 cg).ownBlock := fun i hi e => by have := (HR.out.row.lt i e.symm).1; omega
  have B2 : Below w.heap.size w w2 := bb.grown hgr hb1 (fun j hj => (HR.out.row.lt j hj).1)
  rw [List.nil_append] at R2
  have HR2 := hide R2
  have f0 := (B2.cell (p := ⟨k, 0, none⟩) hkl).trans hk
  have f1 := (B2.cell (p := ⟨k, 1, none⟩) hkl).trans hk2
  have hb2 := B2.size
  have hf2 := hide (HFh.out.later B2)
  have hO2 := hide (show ∀ b, (Value.slice p1 n1 q1).ownBlock = some b → ∀ f ∈ fs, OffE b f from fun b hb f hf => OffE.old (HFh.out.2 f hf) (HR2.out.row.lt b hb).1)
  clear R2 d0 d1 hgr hr1
  rw [rounds_succ]
  go_wp2_with (at_builtin; refine wpList_moreM rfl _ _ rfl w.heap.size _ _ es fs (n1 + n2) (by rw [He.out, Hf.out]) rfl rfl HR2.out hf2.out hO2.out (by omega) hb2 ?_; intro p2 q2 w3 R3 hgr2)
  have B3 : Below w.heap.size w w3 := B2.grown hgr2 hb2 (fun j hj => (HR2.out.row.lt j hj).1)
  have HR3 := hide R3
  clear R3 hgr2
  rw [rounds_succ]
  go_wp2
  go_ret
  exact ⟨p2, q2, rfl, HR3.out.binds, B3⟩
end Go.Proofs.Ytgnccmmbpgnamaa
