/-
  WALKS: the program's Valid (layer 8).
-/
import Derived.Test.YtikhggdigndhoaaP3
namespace Go.Proofs.Ytikhggdigndhoaa
open Go.RowKit Go.Shelf
open Go.Proofs.Ytikhggdigndhoaau (valid_any)
attribute [local go_sem] Oper.semAt_some

theorem valid_one (s : ByteArray) (b : Bool) (w : World) (h : validT s.data.toList = b) : Calls Try.prog 30 #[.string s] w fun e w' => e = .returned (.bool b) ∧ Below w.heap.size w w' := by
  subst h; exact valid_any s w
/-- a result's box, beside a value's box -/
structure Vx (w W : World) (B Bn : Nat) (cs : Array Value) (t : TypeId) (r : Value) : Prop where
  bel : Below w.heap.size w W
  hB : w.heap.size ≤ B
  box : Boxed W B t r
  val : Bx W Bn cs 25
section
variable {w W W' : World} {B Bn : Nat} {cs : Array Value} {t : TypeId} {r : Value}
theorem Vx.next (h : Vx w W B Bn cs t r) (bb : Below W.heap.size W W') : Vx w W' B Bn cs t r := ⟨h.bel.trans (bb.mono h.bel.size), h.hB, boxed_next h.box bb, h.val.next bb⟩
theorem Vx.set (h : Vx w W B Bn cs t r) (hne : Bn ≠ B) (u : Value) : Vx w (W.setCell ⟨B, 0, none⟩ u) B Bn cs t u := ⟨h.bel.setCell (p := ⟨B, 0, none⟩) h.hB u, h.hB, h.box.set u, h.val.other hne 0 u⟩
theorem not_row {X : World} {row : Option Nat} (hr : ∀ r, row = some r → ∃ o : Obj, X.heap[r]? = some o ∧ o.isCells = false) {b : Nat} {c : Array Value} {t : TypeId} {f : Nat × Nat} (hb : X.heap[b]? = some (.cells c t f)) : some b ≠ row := fun e => by
  obtain ⟨o, ho, hc⟩ := hr b e.symm
  rw [hb] at ho; cases ho; cases hc
theorem vx_own {β : Type} {n : Nat} (hn : w.heap.size ≤ n) (p : β → Prop) : OwnFrom n (fun (s : β) W => p s ∧ Vx w W B Bn cs t r) := by
  rintro s X Y row ⟨hp, h⟩ hg hrow
  have hr2 : ∀ r, row = some r → ∃ o : Obj, X.heap[r]? = some o ∧ o.isCells = false := fun r e => (hrow r e).2
  exact ⟨hp, h.bel.grown hg h.bel.size (fun k e => Nat.le_trans hn (hrow k e).1), h.hB, h.box.kept hg (not_row hr2 h.box), (hg.block Bn h.val.lt (not_row hr2 h.val)).trans h.val⟩
theorem kp_val {n : Nat} {cs : Array Value} {t : TypeId} (bel : Below n W W') (h : Bx W Bn cs t) (h' : Bx W' Bn cs t) : Kp n Bn W W' := ⟨bel, fun o ho => by rw [show W.heap[Bn]? = _ from h] at ho; rw [← ho]; exact h'⟩
end
set_option maxRecDepth 100000 in
set_option maxHeartbeats 4000000 in
theorem pvalid_any (x : Value) (v : Vl) (b : Bool) (w : World) (H : VlAt w x v) (hl : v.l.length ≤ 100000) (hp : v.p.length ≤ 100000) (hts : ∀ y ∈ textsV v, y.length ≤ 140737488355328) (hb : validV v = b) :
    Calls Try.prog 18 #[x] w fun e w' => e = .returned (.bool b) ∧ Below w.heap.size w w' := by
  obtain ⟨xs, hxs⟩ := list_lift (textsV v) hts
  have HV := hide H
  obtain ⟨sl, sp, rfl, _, _⟩ := H
  obtain ⟨S, hS⟩ : ∃ S : ByteArray, (⟨v.s.toArray⟩ : ByteArray) = S := ⟨_, rfl⟩
  obtain ⟨k, hk⟩ : ∃ k, v.kind = k := ⟨_, rfl⟩
  rw [hS, hk] at HV ⊢
  have hb2 : (listS xs).all validT = b := by rw [hxs]; exact hb
  have Hb := hide hb2
  have Hxs := hide hxs
  clear hS hk hxs hts hb hb2
  refine (callsIn_wide (n := 5)).1 ?_
  refine callsIn_of_wp_marks Try.func18 rfl trivial ?_ rfl
  simp only [Try.ntmps18, List.size_toArray, List.length_cons, List.length_nil, Nat.reduceAdd, Nat.reduceSub, Array.replicate_succ, Array.replicate_zero, List.push_toArray, List.append_toArray, List.nil_append, List.cons_append]
  gi_wp2_with (refine ⟨trivial, ?_⟩; gi_at_call 27; refine (callsIn_wide.2 (each_any _ _)).mono ?_; rintro e w' ⟨rfl, rfl⟩)
  have B0 : Below w.heap.size w (((w.alloc (.cells #[.int .i64 k, .string S, sl, sp] 25)).alloc (.cells #[.bool false] 4)).alloc (.cells #[.int .i64 k, .string S, sl, sp] 25)) := (((Below.refl _ _).alloc (Nat.le_refl _) _).alloc (by simp) _).alloc (by simp; omega) _
  have bO : Boxed (((w.alloc (.cells #[.int .i64 k, .string S, sl, sp] 25)).alloc (.cells #[.bool false] 4)).alloc (.cells #[.int .i64 k, .string S, sl, sp] 25)) (w.heap.size + 1) 4 (.bool false) := by
    have := (Boxed.new (w.alloc (.cells #[.int .i64 k, .string S, sl, sp] 25)) 4 (.bool false)).alloc (.cells #[.int .i64 k, .string S, sl, sp] 25)
    simpa using this
  have bN : Bx (((w.alloc (.cells #[.int .i64 k, .string S, sl, sp] 25)).alloc (.cells #[.bool false] 4)).alloc (.cells #[.int .i64 k, .string S, sl, sp] 25)) (w.heap.size + 1 + 1) #[.int .i64 k, .string S, sl, sp] 25 := by
    have := Bx.made ((w.alloc (.cells #[.int .i64 k, .string S, sl, sp] 25)).alloc (.cells #[.bool false] 4)) #[.int .i64 k, .string S, sl, sp] 25
    simpa using this
  have hz : (((w.alloc (.cells #[.int .i64 k, .string S, sl, sp] 25)).alloc (.cells #[.bool false] 4)).alloc (.cells #[.int .i64 k, .string S, sl, sp] 25)).heap.size = w.heap.size + 3 := by simp
  obtain ⟨W0, hW0⟩ : ∃ W0, ((w.alloc (.cells #[.int .i64 k, .string S, sl, sp] 25)).alloc (.cells #[.bool false] 4)).alloc (.cells #[.int .i64 k, .string S, sl, sp] 25) = W0 := ⟨_, rfl⟩
  rw [hW0] at B0 bO bN hz ⊢
  have V0 : Vx w W0 (w.heap.size + 1) (w.heap.size + 1 + 1) #[.int .i64 k, .string S, sl, sp] 4 (.bool false) := ⟨B0, by omega, bO, bN⟩
  refine wpIn_rangeFunc_ownG rfl (by omega) (gf := 37) (lb := #[.pointer (some ⟨w.heap.size + 1 + 1, 0, none⟩)]) rfl trivial (enters_of Try.func37 (by kernel_rfl) rfl)
    (each1_stops (w.heap.size + 1 + 1) v _ _ _ _ xs w W0 HV.out (by omega) (by omega) B0 bN Hxs.out) (fun h k => kp_t h k) (kp_b (w := W0) (by omega) (by omega)) (Below.refl _ _) (fun _ => rfl)
    (fun pre W => (listS pre).all validT = true ∧ Vx w W (w.heap.size + 1) (w.heap.size + 1 + 1) #[.int .i64 k, .string S, sl, sp] 4 (.bool false))
    (fun c pre W => (c = .ret ∧ (listS pre).all validT = false) ∧ Vx w W (w.heap.size + 1) (w.heap.size + 1 + 1) #[.int .i64 k, .string S, sl, sp] 4 (.bool false))
    (vx_own (by omega) _)
    (fun c => vx_own (by omega) _)
    ⟨rfl, V0⟩
    (fun x => { tmps := #[.agg #[.int .i64 k, .string S, sl, sp], .pointer (some ⟨w.heap.size, 0, none⟩), .pointer (some ⟨w.heap.size + 1, 0, none⟩), .string x.1, .agg #[.int .i64 k, .string S, sl, sp], .func (.func 37) #[] #[.pointer (some ⟨w.heap.size + 1 + 1, 0, none⟩)], .string x.1, undef, undef, undef], defers := [] }) ?assign ?body ?done ?stop
  case assign =>
    intro l x W K hK
    dsimp only [encX]
    gi_wp2
    exact hK
  case body =>
    rintro l pre x W ⟨hpre, V⟩ _
    have hsn : (listS (pre ++ [x])).all validT = (((listS pre).all validT) && validT x.1.data.toList) := by simp [listS]
    rw [hpre, Bool.true_and] at hsn
    have Hpre := hide hpre
    cases hv : validT x.1.data.toList with
    | true =>
      rw [hv] at hsn
      have Hv := hide hv
      have Hsn := hide hsn
      clear hv hsn hpre
      gi_wp2_with (refine ⟨trivial, ?_⟩; gi_at_call 30; refine (CallsIn.inRound l (callsIn_wide.2 (valid_one _ true _ Hv.out))).mono ?_; rintro e w2 ⟨rfl, bb⟩)
      exact ⟨keeps_below bb _, kp_val (bb.mono V.bel.size) V.val (V.next bb).val, Hsn.out, V.next bb⟩
    | false =>
      rw [hv] at hsn
      have Hv := hide hv
      have Hsn := hide hsn
      clear hv hsn hpre
      gi_wp2_with (refine ⟨trivial, ?_⟩; gi_at_call 30; refine (CallsIn.inRound l (callsIn_wide.2 (valid_one _ false _ Hv.out))).mono ?_; rintro e w2 ⟨rfl, bb⟩; have V2 := V.next bb; have hc2 := V2.box.cell; have hf2 := V2.box.frozen)
      exact ⟨(keeps_below bb _).trans ((KeepsOthers.setCell _ _ _).from _), ⟨rfl, Hsn.out⟩, V2.set (by omega) _⟩
  case done =>
    rintro D ys W hD rfl ⟨hall, V⟩ hK
    have Hall : Hid (true = b) := by have := Hb.out; rw [hall] at this; exact hide this
    clear hall
    have hcr := V.box.cell
    have hfr := V.box.frozen
    gi_wp2
    have hK' := (KeepsOthers.setCell W ⟨w.heap.size + 1, 0, none⟩ (.bool true)).same D _ hK rfl
    refine ⟨by simp, .inl ⟨_, _, rfl, run_takeDeferred hK', ?_⟩⟩
    have hc5 := cell_kept (World.cell?_setCell_same' W ⟨w.heap.size + 1, 0, none⟩ (.bool true) (by rw [hcr]; rfl)) (grownBy_putObj' _ D (.deferred none)) (fun r e => by cases e; exact ⟨_, hK', rfl⟩)
    refine ⟨.bool true, ?_, by rw [Hall.out], (V.set (by omega) _).bel.trans (belowK_b (w := w) (Nat.le_refl _) _ D _ _ (by omega) hK' rfl rfl)⟩
    simp [results, Try.results18, go_sem, hc5]
  case stop =>
    rintro D c pre W hD hpre ⟨⟨rfl, hin⟩, V⟩ hK
    have Hall : Hid (false = b) := by
      have := Hb.out
      obtain ⟨r, hr⟩ := hpre
      rw [← hr, show listS (pre ++ r) = listS pre ++ listS r by simp [listS], List.all_append, hin] at this
      exact hide this
    have hcr := V.box.cell
    clear hin
    gi_wp2
    refine ⟨by simp, .inl ⟨_, _, rfl, run_takeDeferred hK, ?_⟩⟩
    have hc5 := cell_kept hcr (grownBy_putObj' _ D (.deferred none)) (fun r e => by cases e; exact ⟨_, hK, rfl⟩)
    refine ⟨.bool false, ?_, by rw [Hall.out], V.bel.trans (belowK_b (w := w) (Nat.le_refl _) W D _ _ (by omega) hK rfl rfl)⟩
    simp [results, Try.results18, go_sem, hc5]
end Go.Proofs.Ytikhggdigndhoaa
