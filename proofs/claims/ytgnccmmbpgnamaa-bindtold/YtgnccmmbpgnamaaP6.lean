/-
  WALKS: the program's paired, made (layer 8).
-/
import Derived.Test.YtgnccmmbpgnamaaP5
namespace Go.Proofs.Ytgnccmmbpgnamaa
open Go.RowKit Go.Shelf
attribute [local go_sem] Oper.semAt_some

def rowP (xs : List Px) : List Value := pairsV (listP xs)
theorem pairsV_len : ∀ ps : List (List UInt8 × List UInt8), (pairsV ps).length = ps.length * 2
  | [] => rfl
  | q :: r => by
    show (twoV q ++ pairsV r).length = _
    rw [List.length_append, pairsV_len r]
    show 2 + r.length * 2 = (r.length + 1) * 2
    omega
theorem rowP_snoc (xs : List Px) (x : Px) : rowP (xs ++ [x]) = rowP xs ++ [.string x.1.1, .string x.2.1] := by
  unfold rowP
  rw [show listP (xs ++ [x]) = listP xs ++ [(x.1.1.data.toList, x.2.1.data.toList)] by simp [listP], pairsV_snoc]
  rfl
/-- a list of pairs in a box that is written on, beside the texts' box -/
structure Ly (w W : World) (B Bn : Nat) (s : Value) (xs : List Px) (u : Value) : Prop where
  bel : Below w.heap.size w W
  hB : w.heap.size ≤ B
  box : Boxed W B 26 u
  row : W.ownsRow w.heap.size 48 2 u xs.length (rowP xs)
  val : Boxed W Bn 25 s
section
variable {w W W' : World} {B Bn : Nat} {s : Value} {xs : List Px} {u : Value}
theorem Ly.appended {w1 : World} {x : Px} {v' : Value} {tmp : Obj} (h : Ly w W B Bn s xs u) (hne : Bn ≠ B) (hown : w1.ownsRow w.heap.size 48 2 v' (xs.length + 1) (rowP xs ++ [.string x.1.1, .string x.2.1])) (hg : (W.alloc tmp).grownBy w1 u.ownBlock) :
    Boxed w1 B 26 u ∧ Ly w (w1.setCell ⟨B, 0, none⟩ v') B Bn s (xs ++ [x]) v' ∧ KeepsOthers W (w1.setCell ⟨B, 0, none⟩ v') ∧ Below w.heap.size W (w1.setCell ⟨B, 0, none⟩ v') := by
  obtain ⟨h1, h2, h3, h4, h5⟩ := h.box.appended (by decide) h.row h.bel.size h.hB hown hg
  refine ⟨h1, ⟨h.bel.trans h5, h.hB, h2, by rw [rowP_snoc, List.length_append]; exact h3, ?_⟩, h4, h5⟩
  have hv : Boxed w1 Bn 25 s := (h.val.alloc tmp).kept hg (h.val.not_row (by decide) h.row)
  exact hv.other hne v'
theorem ly_own {n : Nat} (hn : w.heap.size ≤ n) : OwnFrom n (fun (pre : List Px) W => ∃ u, Ly w W B Bn s pre u) := by
  rintro p X Y row ⟨u, h⟩ hg hrow
  have hr2 : ∀ r, row = some r → ∃ o : Obj, X.heap[r]? = some o ∧ o.isCells = false := fun r e => (hrow r e).2
  refine ⟨u, h.bel.grown hg h.bel.size (fun k e => Nat.le_trans hn (hrow k e).1), h.hB, h.box.kept hg (not_row hr2 h.box), h.row.kept hg ?_, h.val.kept hg (not_row hr2 h.val)⟩
  rcases h.row.2 with ⟨rfl, _⟩ | ⟨g, cap, cur, rfl, _, hgb, _⟩
  · exact .inl rfl
  · exact .inr (by rw [show (Value.slice (some ⟨g, 0, none⟩) p.length cap).ownBlock = some g from rfl]; exact (not_row hr2 hgb))
end
set_option maxRecDepth 100000 in
set_option maxHeartbeats 4000000 in
theorem paired_walk (ta : Option Addr) (tc : Nat) (ts : List (List UInt8)) (w : World) (H : StrsAt w (.slice ta ts.length tc) ts) (hl : ts.length ≤ 100000) (hts : ∀ y ∈ ts, y.length ≤ 140737488355328) :
    Calls Try.prog 46 #[.slice ta ts.length tc] w fun e w' => ∃ u, e = .returned u ∧ w'.ownsRow w.heap.size 48 2 u (pairsL ts).length (pairsV (pairsL ts)) ∧ Below w.heap.size w w' := by
  obtain ⟨xs, hxs⟩ := pair_lift (pairsL ts) (pairs_mem ts hts)
  obtain ⟨i0, hi, hz0, hz1, hz2⟩ := info_parts info39
  have hlen : xs.length ≤ 50000 := by rw [← listP_len, hxs, pairs_len]; omega
  have HT := hide H
  rw [← hxs, listP_len]
  have Hxs := hide hxs
  clear hxs hts H
  refine (callsIn_wide (n := 5)).1 ?_
  refine callsIn_of_wp_marks Try.func46 rfl trivial ?_ rfl
  simp only [Try.ntmps46, List.size_toArray, List.length_cons, List.length_nil, Nat.reduceAdd, Nat.reduceSub, Array.replicate_succ, Array.replicate_zero, List.push_toArray, List.append_toArray, List.nil_append, List.cons_append]
  gi_wp2_with (refine ⟨trivial, ?_⟩; gi_at_call 54; refine (callsIn_wide.2 (twos_any _ _ _ _)).mono ?_; rintro e w' ⟨rfl, rfl⟩)
  have B0 : Below w.heap.size w ((w.alloc (.cells #[.slice none 0 0] 26)).alloc (.cells #[.slice ta ts.length tc] 25)) := ((Below.refl _ _).alloc (Nat.le_refl _) _).alloc (by simp) _
  have bO : Boxed ((w.alloc (.cells #[.slice none 0 0] 26)).alloc (.cells #[.slice ta ts.length tc] 25)) w.heap.size 26 (.slice none 0 0) := (Boxed.new w 26 (.slice none 0 0)).alloc _
  have bN : Boxed ((w.alloc (.cells #[.slice none 0 0] 26)).alloc (.cells #[.slice ta ts.length tc] 25)) (w.heap.size + 1) 25 (.slice ta ts.length tc) := by
    have := Boxed.new (w.alloc (.cells #[.slice none 0 0] 26)) 25 (.slice ta ts.length tc)
    simpa using this
  have hz : ((w.alloc (.cells #[.slice none 0 0] 26)).alloc (.cells #[.slice ta ts.length tc] 25)).heap.size = w.heap.size + 2 := by simp
  obtain ⟨W0, hW0⟩ : ∃ W0, (w.alloc (.cells #[.slice none 0 0] 26)).alloc (.cells #[.slice ta ts.length tc] 25) = W0 := ⟨_, rfl⟩
  rw [hW0] at B0 bO bN hz ⊢
  have L0 : Ly w W0 w.heap.size (w.heap.size + 1) (.slice ta ts.length tc) [] (.slice none 0 0) := ⟨B0, Nat.le_refl _, bO, World.ownsRow_nil _ _ _ _, bN⟩
  refine wpIn_rangeFunc_ownG rfl (by omega) (gf := 64) (lb := #[.pointer (some ⟨w.heap.size + 1, 0, none⟩)]) rfl trivial (enters_of Try.func64 (by kernel_rfl) rfl)
    (twos1_stops (w.heap.size + 1) ta tc ts xs w W0 HT.out (by omega) B0 bN Hxs.out) (fun h k => kp_t h k) (kp_b (w := W0) (by omega) (by omega)) (Below.refl _ _) (fun _ => rfl)
    (fun pre W => ∃ u, Ly w W w.heap.size (w.heap.size + 1) (.slice ta ts.length tc) pre u)
    (fun _ _ _ => False)
    (ly_own (by omega))
    (fun _ _ _ _ _ hs _ _ => hs)
    ⟨_, L0⟩
    (fun x => { tmps := #[.slice ta ts.length tc, undef, .slice none 0 0, .pointer (some ⟨w.heap.size, 0, none⟩), .string x.1.1, .string x.2.1, .slice ta ts.length tc, .func (.func 64) #[] #[.pointer (some ⟨w.heap.size + 1, 0, none⟩)], .string x.1.1, .string x.2.1, undef, undef, undef, undef, undef, undef, undef], defers := [] }) ?assign ?body ?done ?stop
  case assign =>
    intro l x W K hK
    dsimp only [encP]
    gi_wp2
    exact hK
  case body =>
    rintro l pre x W ⟨u, L⟩ hlt
    have hc := L.box.cell
    have hB := L.bel.size
    gi_wp2_with (gi_at_builtin; refine wpListIn_append_own _ rfl _ _ 26 rfl w.heap.size 48 i0 (.agg #[.string ⟨#[]⟩, .string ⟨#[]⟩]) 2 32 Try.underlying26 hi hz0 hz1 hz2 rfl (by decide) u pre.length (rowP pre) rfl (L.row.alloc _) ⟨W.heap.size, 0, none⟩ 1 1 [.string x.1.1, .string x.2.1] rfl rfl (World.news_of_block (heap_alloc_new _ _)) (by intro z hz; simp at hz; rcases hz with rfl | rfl <;> rfl) (by unfold maxLen; omega) (by omega) (by simp; omega) ?_; intro v' w1 hown' hgrow _; obtain ⟨g', cap', rfl⟩ := ownsRow_succ hown'; obtain ⟨hv1, L2, hk2, hb2⟩ := L.appended (by omega) hown' hgrow; have hc1 := hv1.cell; have hf1 := hv1.frozen)
    exact ⟨hk2.from _, ⟨hb2, fun o ho => by rw [show W.heap[w.heap.size + 1]? = _ from L.val] at ho; rw [← ho]; exact L2.val⟩, _, L2⟩
  case done =>
    rintro D ys W hD rfl ⟨u, L⟩ hK
    have hc := L.box.cell
    gi_wp2
    refine ⟨by simp, .inl ⟨_, _, rfl, run_takeDeferred hK, ?_⟩⟩
    exact ⟨_, results_tmp rfl _ _ _, u, rfl, ownsRow_putObj L.row _ hK rfl, L.bel.trans (belowK_b (w := w) (Nat.le_refl _) W D _ _ (by omega) hK rfl rfl)⟩
  case stop =>
    rintro D c pre W _ _ h _
    exact h.elim
end Go.Proofs.Ytgnccmmbpgnamaa
