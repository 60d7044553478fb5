/-
  WALKS: the program's Texts (layer 8).
-/
import Derived.RangeFuncBox
import Derived.Maps.AppendAt
import Derived.Deep.AppendLies
import Derived.Test.YtgnccmmbpgnamaaP2
namespace Go.Proofs.Ytgnccmmbpgnamaa
open Go.RowKit Go.Shelf
attribute [local go_sem] Oper.semAt_some

theorem stepIn_append_lies {F : Fence} {n' : Nat} {P : Program} (w : World) {ops : Array Oper} {o : Oper} {a : Act} {K : Act → World → Prop} {Q : Exit → Act → World → Prop} {E : Prop} (hgd : o.guard = none) (s x : Operand) (t : TypeId)
    (ho : o.op = .call { callee := .builtin .append, args := #[s, x], argTypes := #[t, t] })
    (base : Nat) (e : TypeId) (i : TypeInfo) (z : Value) (size bytes : Nat) (ht : P.underlying t = some (.slice e)) (hi : P.info? e = some i) (hz : i.zero = some z)
    (hsize : i.size = size) (hby : i.bytes = bytes) (hzs : z.cells.size = size) (hsz : 0 < size)
    (v : Value) (n : Nat) (xs : List Value) (hs : a.eval s = v) (hown : w.ownsRow base e size v n xs)
    (ad : Addr) (m c : Nat) (news : List Value) (hx : a.eval x = .slice (some ad) m c) (hl : news.length = m * size) (hnews : ∀ j u, news[j]? = some u → w.cell? (ad.add j) = some u) (h1 : ∀ u ∈ news, u.oneCell' = true)
    (hm : 0 < m) (h63 : n + m ≤ maxLen) (hbytes : (n + m) * bytes ≤ 140737488355328) (hbase : base ≤ w.heap.size) (H : Nat) (hH : w.heap.size = H)
    (h : ∀ g cap w', w'.ownsRow base e size (.slice (some ⟨g, 0, none⟩) (n + m) cap) (n + m) (xs ++ news) → w.grownBy w' v.ownBlock → (v.ownBlock = some g ∨ g = H) → g < w'.heap.size → K (a.put o.dst (.slice (some ⟨g, 0, none⟩) (n + m) cap)) w') :
    if Region.wanted o (yielded ops a.tmps) = true then Oper.wpIn F n' P o a w K Q else E := by
  have hw : Region.wanted o (yielded ops a.tmps) = true := by simp [Region.wanted, hgd]
  rw [if_pos hw]
  obtain ⟨g, cap, w', hr, h2, h3, h4, h5⟩ := run_append_lies (P := P) w t o.type base e i z size bytes ht hi hz hsize hby hzs hsz v n xs hown ad m c news hl hnews h1 hm h63 hbytes hbase H hH
  unfold Oper.wpIn
  refine ⟨?_, ?_⟩
  · simp [Oper.about, ho, resolve, Target.leads, Sem.run_pure]
  · rw [Oper.semAt_plain F _ _ (by rw [ho]; intro c hc'; cases hc')]
    simp [execOp, ho, resolve, invoke, builtin, hs, hx, hr, Result.andThen]
    exact h g cap w' h2 h3 h4 h5
def rowX (xs : List Sx) : List Value := xs.map fun x => .string x.1
theorem rowX_len (xs : List Sx) : (rowX xs).length = xs.length := by simp [rowX]
theorem rowX_snoc (xs : List Sx) (x : Sx) : rowX (xs ++ [x]) = rowX xs ++ [.string x.1] := by simp [rowX]
theorem rowX_strs (xs : List Sx) : rowX xs = strsV (listS xs) := by
  simp [rowX, strsV, listS]
/-- a list in a box that is written on, beside a value's box -/
structure Lx (w W : World) (B Bn : Nat) (cs : Array Value) (xs : List Sx) (u : Value) : Prop where
  bel : Below w.heap.size w W
  hB : w.heap.size ≤ B
  box : Boxed W B 25 u
  row : W.ownsRow w.heap.size 9 1 u xs.length (rowX xs)
  val : Bx W Bn cs 28
section
variable {w W W' : World} {B Bn : Nat} {cs : Array Value} {xs : List Sx} {u : Value}
theorem boxed_next {t : TypeId} (h : Boxed W B t u) (bb : Below W.heap.size W W') : Boxed W' B t u := (bb.block B h.lt).trans h
theorem Lx.next (h : Lx w W B Bn cs xs u) (bb : Below W.heap.size W W') : Lx w W' B Bn cs xs u := ⟨h.bel.trans (bb.mono h.bel.size), h.hB, boxed_next h.box bb, own_later h.row bb, h.val.next bb⟩
theorem bx_not_row {e t : TypeId} (h : Bx W Bn cs t) (hte : t ≠ e) {base size k : Nat} {v : Value} {ys : List Value} (hr : W.ownsRow base e size v k ys) : some Bn ≠ v.ownBlock := by
  rcases hr.2 with ⟨rfl, _⟩ | ⟨g, cap, cur, rfl, _, hgb, _⟩
  · simp [Value.ownBlock]
  · intro e'
    obtain rfl : Bn = g := by simpa [Value.ownBlock] using e'
    have := (show W.heap[Bn]? = _ from h).symm.trans hgb
    simp at this
    exact hte this.2
theorem Lx.appended {w1 : World} {x : Sx} {v' : Value} {tmp : Obj} (h : Lx w W B Bn cs xs u) (hne : Bn ≠ B) (hown : w1.ownsRow w.heap.size 9 1 v' (xs.length + 1) (rowX xs ++ [.string x.1])) (hg : (W.alloc tmp).grownBy w1 u.ownBlock) :
    Boxed w1 B 25 u ∧ Lx w (w1.setCell ⟨B, 0, none⟩ v') B Bn cs (xs ++ [x]) v' ∧ KeepsOthers W (w1.setCell ⟨B, 0, none⟩ v') ∧ Below w.heap.size W (w1.setCell ⟨B, 0, none⟩ v') := by
  obtain ⟨h1, h2, h3, h4, h5⟩ := h.box.appended (by decide) h.row h.bel.size h.hB hown hg
  refine ⟨h1, ⟨h.bel.trans h5, h.hB, h2, by rw [rowX_snoc, List.length_append]; exact h3, ?_⟩, h4, h5⟩
  have hv : Bx w1 Bn cs 28 := (hg.block Bn (by have := h.val.lt; simp; omega) (bx_not_row h.val (by decide) h.row)).trans (h.val.later tmp)
  exact hv.other hne 0 v'
theorem keeps_below (bb : Below W.heap.size W W') (B : Nat) : KeepsFrom B W W' := ⟨bb.size, fun k _ _ hk _ => (bb.block k (Array.getElem?_eq_some_iff.1 hk).1).trans hk⟩
theorem bx_own {β : Type} (Bn : Nat) (cs : Array Value) (t : TypeId) : Own (fun (_ : β) W => Bx W Bn cs t) := fun s X Y row hs hg hrow =>
  (hg.block Bn hs.lt (fun e' => by
    obtain ⟨o, ho, hc⟩ := hrow Bn e'.symm
    rw [show X.heap[Bn]? = _ from hs] at ho; cases ho; cases hc)).trans hs
theorem lx_own {n : Nat} (hn : w.heap.size ≤ n) : OwnFrom n (fun (pre : List Sx) W => ∃ u, Lx w W B Bn cs pre u) := by
  rintro s X Y row ⟨u, h⟩ hg hrow
  have hr2 : ∀ r, row = some r → ∃ o : Obj, X.heap[r]? = some o ∧ o.isCells = false := fun r e => (hrow r e).2
  have hno : ∀ (b : Nat) (c : Array Value) (t : TypeId) (f : Nat × Nat), X.heap[b]? = some (.cells c t f) → some b ≠ row := fun b c t f hb e => by
    obtain ⟨o, ho, hc⟩ := hr2 b e.symm
    rw [hb] at ho; cases ho; cases hc
  refine ⟨u, h.bel.grown hg (Nat.le_trans (by have := h.bel.size; omega) (Nat.le_refl _)) (fun k e => Nat.le_trans hn (hrow k e).1), h.hB, h.box.kept hg (hno _ _ _ _ h.box), h.row.kept hg ?_, (hg.block Bn h.val.lt (hno _ _ _ _ h.val)).trans h.val⟩
  rcases h.row.2 with ⟨rfl, _⟩ | ⟨g, cap, cur, rfl, _, hgb, _⟩
  · exact .inl rfl
  · exact .inr (by rw [show (Value.slice (some ⟨g, 0, none⟩) s.length cap).ownBlock = some g from rfl]; exact (hno _ _ _ _ hgb))
end
set_option maxRecDepth 100000 in
set_option maxHeartbeats 4000000 in
theorem texts_walk (x : Value) (v : Vl) (w : World) (H : VlAt w x v) (hl : v.l.length ≤ 100000) (hp : v.p.length ≤ 100000) (hts : ∀ y ∈ textsV v, y.length ≤ 140737488355328) :
    Calls Try.prog 38 #[x] w fun e w' => ∃ u, e = .returned u ∧ w'.ownsRow w.heap.size 9 1 u (textsV v).length (strsV (textsV v)) ∧ Below w.heap.size w w' := by
  obtain ⟨xs, hxs⟩ := list_lift (textsV v) hts
  obtain ⟨i0, hi, hz0, hz1, hz2⟩ := info_parts info9
  have hlen : xs.length ≤ 200000 := by
    rw [← listS_len, hxs]; unfold textsV; split
    · simp
    · split
      · omega
      · split
        · rw [flat_len]; omega
        · simp
  have HV := hide H
  obtain ⟨sl, sp, rfl, _, _⟩ := H
  obtain ⟨S, hS⟩ : ∃ S : ByteArray, (⟨v.s.toArray⟩ : ByteArray) = S := ⟨_, rfl⟩
  obtain ⟨k, hk⟩ : ∃ k, v.kind = k := ⟨_, rfl⟩
  rw [hS, hk] at HV ⊢
  rw [← hxs, ← rowX_strs, listS_len]
  have Hxs := hide hxs
  clear hS hk hxs hts
  refine (callsIn_wide (n := 5)).1 ?_
  refine callsIn_of_wp_marks Try.func38 rfl trivial ?_ rfl
  simp only [Try.ntmps38, List.size_toArray, List.length_cons, List.length_nil, Nat.reduceAdd, Nat.reduceSub, Array.replicate_succ, Array.replicate_zero, List.push_toArray, List.append_toArray, List.nil_append, List.cons_append]
  gi_wp2_with (refine ⟨trivial, ?_⟩; gi_at_call 47; refine (callsIn_wide.2 (each_any _ _)).mono ?_; rintro e w' ⟨rfl, rfl⟩)
  have X0 := Bx.made w #[.int .i64 k, .string S, sl, sp] 28
  have B0 : Below w.heap.size w (((w.alloc (.cells #[.int .i64 k, .string S, sl, sp] 28)).alloc (.cells #[.slice none 0 0] 25)).alloc (.cells #[.int .i64 k, .string S, sl, sp] 28)) := (((Below.refl _ _).alloc (Nat.le_refl _) _).alloc (by simp) _).alloc (by simp; omega) _
  have bO : Boxed (((w.alloc (.cells #[.int .i64 k, .string S, sl, sp] 28)).alloc (.cells #[.slice none 0 0] 25)).alloc (.cells #[.int .i64 k, .string S, sl, sp] 28)) (w.heap.size + 1) 25 (.slice none 0 0) := by
    have := (Boxed.new (w.alloc (.cells #[.int .i64 k, .string S, sl, sp] 28)) 25 (.slice none 0 0)).alloc (.cells #[.int .i64 k, .string S, sl, sp] 28)
    simpa using this
  have bN : Bx (((w.alloc (.cells #[.int .i64 k, .string S, sl, sp] 28)).alloc (.cells #[.slice none 0 0] 25)).alloc (.cells #[.int .i64 k, .string S, sl, sp] 28)) (w.heap.size + 1 + 1) #[.int .i64 k, .string S, sl, sp] 28 := by
    have := Bx.made ((w.alloc (.cells #[.int .i64 k, .string S, sl, sp] 28)).alloc (.cells #[.slice none 0 0] 25)) #[.int .i64 k, .string S, sl, sp] 28
    simpa using this
  have hz : (((w.alloc (.cells #[.int .i64 k, .string S, sl, sp] 28)).alloc (.cells #[.slice none 0 0] 25)).alloc (.cells #[.int .i64 k, .string S, sl, sp] 28)).heap.size = w.heap.size + 3 := by simp
  have L0 : Lx w (((w.alloc (.cells #[.int .i64 k, .string S, sl, sp] 28)).alloc (.cells #[.slice none 0 0] 25)).alloc (.cells #[.int .i64 k, .string S, sl, sp] 28)) (w.heap.size + 1) (w.heap.size + 1 + 1) #[.int .i64 k, .string S, sl, sp] [] (.slice none 0 0) :=
    ⟨B0, by omega, bO, World.ownsRow_nil _ _ _ _, bN⟩
  obtain ⟨W0, hW0⟩ : ∃ W0, ((w.alloc (.cells #[.int .i64 k, .string S, sl, sp] 28)).alloc (.cells #[.slice none 0 0] 25)).alloc (.cells #[.int .i64 k, .string S, sl, sp] 28) = W0 := ⟨_, rfl⟩
  rw [hW0] at B0 bO bN hz L0 ⊢
  have hmx : Try.prog.follows .mixedOrders = true := by kernel_rfl
  refine wpIn_rangeFunc_ownG rfl (by omega) (gf := 55) (lb := #[.pointer (some ⟨w.heap.size + 1 + 1, 0, none⟩)]) rfl trivial (enters_of Try.func55 (by kernel_rfl) rfl)
    (each1_stops (w.heap.size + 1 + 1) v _ _ _ _ xs w W0 HV.out (by omega) (by omega) B0 bN Hxs.out) (fun h k => kp_t h k) (kp_b (w := W0) (by omega) (by omega)) (Below.refl _ _) (fun _ => rfl)
    (fun pre W => ∃ u, Lx w W (w.heap.size + 1) (w.heap.size + 1 + 1) #[.int .i64 k, .string S, sl, sp] pre u)
    (fun _ _ _ => False)
    (lx_own (by omega))
    (fun _ _ _ _ _ hs _ _ => hs)
    ⟨_, L0⟩
    (fun x => { tmps := #[.agg #[.int .i64 k, .string S, sl, sp], .pointer (some ⟨w.heap.size, 0, none⟩), .slice none 0 0, .pointer (some ⟨w.heap.size + 1, 0, none⟩), .string x.1, .agg #[.int .i64 k, .string S, sl, sp], .func (.func 55) #[] #[.pointer (some ⟨w.heap.size + 1 + 1, 0, none⟩)], .string x.1, undef, undef, undef, undef, undef, undef], defers := [] }) ?assign ?body ?done ?stop
  case assign =>
    intro l x W K hK
    dsimp only [encX]
    gi_wp2
    exact hK
  case body =>
    rintro l pre x W ⟨u, L⟩ hlt
    have hc := L.box.cell
    gi_wp2
    refine wpIn_region_any (by assumption) ?_
    change wpAnyIn _ _ _ _ _ _ _ _ _ (World.drew _)
    refine wpAnyIn_ready (rs := [0, 1]) (by kernel_rfl) (by simp) ?_
    refine AllReadyIn.cons rfl (fun K hK => ?_) ?_
    · go_simp
      refine hK _ _ ?_; clear hK K
      refine wpAnyIn_ready (rs := [1]) (by kernel_rfl) (by simp) ?_
      refine AllReadyIn.cons rfl (fun K hK => ?_) AllReadyIn.nil
      go_simp
      refine hK _ _ ?_; clear hK K
      refine wpAnyIn_ready (rs := [2]) (by kernel_rfl) (by simp) ?_
      refine AllReadyIn.cons rfl (fun K hK => ?_) AllReadyIn.nil
      go_simp
      gi_wp2_with (refine ⟨trivial, ?_⟩; gi_at_call 42; refine (CallsIn.inRound l (callsIn_wide.2 (clone_any x.1 _ (by have := x.2; omega)))).mono ?_; rintro e w2 ⟨rfl, bb⟩)
      have b2 : Below W.heap.size W w2 := ⟨bb.os, bb.tape, bb.output, bb.size, bb.block⟩
      have L2 := L.next b2
      have hc2 := L2.box.cell
      have hc3 := (L2.box.alloc (.cells #[.string x.1] 9)).cell
      refine wpAnyIn_ready (rs := [3]) (by kernel_rfl) (by simp) ?_
      refine AllReadyIn.cons rfl (fun K hK => ?_) AllReadyIn.nil
      go_simp
      refine hK _ _ ?_; clear hK K
      refine wpAnyIn_ready (rs := [4]) (by kernel_rfl) (by simp) ?_
      refine AllReadyIn.cons rfl (fun K hK => ?_) AllReadyIn.nil
      refine stepIn_append_lies _ (by rfl) _ _ 25 (by rfl) w.heap.size 9 i0 (.string ⟨#[]⟩) 1 16 Try.underlying25 hi hz0 hz1 hz2 rfl (by decide) u pre.length (rowX pre) (by rfl) (own_later L2.row (b_alloc w2 (.cells #[.string x.1] 9))) ⟨w2.heap.size, 0, none⟩ 1 1 [.string x.1] (by rfl) rfl (cell_one_new _ _ _) (by simp [Value.oneCell']) (by decide) (by unfold maxLen; omega) (by omega) (by have := L2.bel.size; simp; omega) _ rfl ?_
      intro g cap w4 hown hgrow hat hlt4
      obtain ⟨hb4, L4, k4, bl4⟩ := L2.appended (by omega) hown hgrow
      have hc4 := hb4.cell
      have hf4 := hb4.frozen
      clear hown hgrow hat
      refine hK _ _ ?_; clear hK K
      refine wpAnyIn_ready (rs := [5]) (by kernel_rfl) (by simp) ?_
      refine AllReadyIn.cons rfl (fun K hK => ?_) AllReadyIn.nil
      go_simp
      refine hK _ _ ?_; clear hK K
      refine wpAnyIn_done (by kernel_rfl) ?_ _
      exact ⟨(keeps_below b2 _).trans (k4.from _), ⟨(b2.mono L.bel.size).trans bl4, fun o ho => by rw [show W.heap[w.heap.size + 1 + 1]? = _ from L.val] at ho; rw [← ho]; exact L4.val⟩, _, L4⟩
    refine AllReadyIn.cons rfl (fun K hK => ?_) AllReadyIn.nil
    go_simp
    refine hK _ _ ?_; clear hK K
    refine wpAnyIn_ready (rs := [0, 2]) (by kernel_rfl) (by simp) ?_
    refine AllReadyIn.cons rfl (fun K hK => ?_) ?_
    · go_simp
      refine hK _ _ ?_; clear hK K
      refine wpAnyIn_ready (rs := [2]) (by kernel_rfl) (by simp) ?_
      refine AllReadyIn.cons rfl (fun K hK => ?_) AllReadyIn.nil
      go_simp
      gi_wp2_with (refine ⟨trivial, ?_⟩; gi_at_call 42; refine (CallsIn.inRound l (callsIn_wide.2 (clone_any x.1 _ (by have := x.2; omega)))).mono ?_; rintro e w2 ⟨rfl, bb⟩)
      have b2 : Below W.heap.size W w2 := ⟨bb.os, bb.tape, bb.output, bb.size, bb.block⟩
      have L2 := L.next b2
      have hc2 := L2.box.cell
      have hc3 := (L2.box.alloc (.cells #[.string x.1] 9)).cell
      refine wpAnyIn_ready (rs := [3]) (by kernel_rfl) (by simp) ?_
      refine AllReadyIn.cons rfl (fun K hK => ?_) AllReadyIn.nil
      go_simp
      refine hK _ _ ?_; clear hK K
      refine wpAnyIn_ready (rs := [4]) (by kernel_rfl) (by simp) ?_
      refine AllReadyIn.cons rfl (fun K hK => ?_) AllReadyIn.nil
      refine stepIn_append_lies _ (by rfl) _ _ 25 (by rfl) w.heap.size 9 i0 (.string ⟨#[]⟩) 1 16 Try.underlying25 hi hz0 hz1 hz2 rfl (by decide) u pre.length (rowX pre) (by rfl) (own_later L2.row (b_alloc w2 (.cells #[.string x.1] 9))) ⟨w2.heap.size, 0, none⟩ 1 1 [.string x.1] (by rfl) rfl (cell_one_new _ _ _) (by simp [Value.oneCell']) (by decide) (by unfold maxLen; omega) (by omega) (by have := L2.bel.size; simp; omega) _ rfl ?_
      intro g cap w4 hown hgrow hat hlt4
      obtain ⟨hb4, L4, k4, bl4⟩ := L2.appended (by omega) hown hgrow
      have hc4 := hb4.cell
      have hf4 := hb4.frozen
      clear hown hgrow hat
      refine hK _ _ ?_; clear hK K
      refine wpAnyIn_ready (rs := [5]) (by kernel_rfl) (by simp) ?_
      refine AllReadyIn.cons rfl (fun K hK => ?_) AllReadyIn.nil
      go_simp
      refine hK _ _ ?_; clear hK K
      refine wpAnyIn_done (by kernel_rfl) ?_ _
      exact ⟨(keeps_below b2 _).trans (k4.from _), ⟨(b2.mono L.bel.size).trans bl4, fun o ho => by rw [show W.heap[w.heap.size + 1 + 1]? = _ from L.val] at ho; rw [← ho]; exact L4.val⟩, _, L4⟩
    refine AllReadyIn.cons rfl (fun K hK => ?_) AllReadyIn.nil
    go_simp
    gi_wp2_with (refine ⟨trivial, ?_⟩; gi_at_call 42; refine (CallsIn.inRound l (callsIn_wide.2 (clone_any x.1 _ (by have := x.2; omega)))).mono ?_; rintro e w2 ⟨rfl, bb⟩)
    have b2 : Below W.heap.size W w2 := ⟨bb.os, bb.tape, bb.output, bb.size, bb.block⟩
    have L2 := L.next b2
    have hc2 := L2.box.cell
    have hc3 := (L2.box.alloc (.cells #[.string x.1] 9)).cell
    refine wpAnyIn_ready (rs := [0, 3]) (by kernel_rfl) (by simp) ?_
    refine AllReadyIn.cons rfl (fun K hK => ?_) ?_
    · go_simp
      refine hK _ _ ?_; clear hK K
      refine wpAnyIn_ready (rs := [3]) (by kernel_rfl) (by simp) ?_
      refine AllReadyIn.cons rfl (fun K hK => ?_) AllReadyIn.nil
      go_simp
      refine hK _ _ ?_; clear hK K
      refine wpAnyIn_ready (rs := [4]) (by kernel_rfl) (by simp) ?_
      refine AllReadyIn.cons rfl (fun K hK => ?_) AllReadyIn.nil
      refine stepIn_append_lies _ (by rfl) _ _ 25 (by rfl) w.heap.size 9 i0 (.string ⟨#[]⟩) 1 16 Try.underlying25 hi hz0 hz1 hz2 rfl (by decide) u pre.length (rowX pre) (by rfl) (own_later L2.row (b_alloc w2 (.cells #[.string x.1] 9))) ⟨w2.heap.size, 0, none⟩ 1 1 [.string x.1] (by rfl) rfl (cell_one_new _ _ _) (by simp [Value.oneCell']) (by decide) (by unfold maxLen; omega) (by omega) (by have := L2.bel.size; simp; omega) _ rfl ?_
      intro g cap w4 hown hgrow hat hlt4
      obtain ⟨hb4, L4, k4, bl4⟩ := L2.appended (by omega) hown hgrow
      have hc4 := hb4.cell
      have hf4 := hb4.frozen
      clear hown hgrow hat
      refine hK _ _ ?_; clear hK K
      refine wpAnyIn_ready (rs := [5]) (by kernel_rfl) (by simp) ?_
      refine AllReadyIn.cons rfl (fun K hK => ?_) AllReadyIn.nil
      go_simp
      refine hK _ _ ?_; clear hK K
      refine wpAnyIn_done (by kernel_rfl) ?_ _
      exact ⟨(keeps_below b2 _).trans (k4.from _), ⟨(b2.mono L.bel.size).trans bl4, fun o ho => by rw [show W.heap[w.heap.size + 1 + 1]? = _ from L.val] at ho; rw [← ho]; exact L4.val⟩, _, L4⟩
    refine AllReadyIn.cons rfl (fun K hK => ?_) AllReadyIn.nil
    go_simp
    refine hK _ _ ?_; clear hK K
    refine wpAnyIn_ready (rs := [0]) (by kernel_rfl) (by simp) ?_
    refine AllReadyIn.cons rfl (fun K hK => ?_) AllReadyIn.nil
    go_simp
    refine hK _ _ ?_; clear hK K
    refine wpAnyIn_ready (rs := [4]) (by kernel_rfl) (by simp) ?_
    refine AllReadyIn.cons rfl (fun K hK => ?_) AllReadyIn.nil
    refine stepIn_append_lies _ (by rfl) _ _ 25 (by rfl) w.heap.size 9 i0 (.string ⟨#[]⟩) 1 16 Try.underlying25 hi hz0 hz1 hz2 rfl (by decide) u pre.length (rowX pre) (by rfl) (own_later L2.row (b_alloc w2 (.cells #[.string x.1] 9))) ⟨w2.heap.size, 0, none⟩ 1 1 [.string x.1] (by rfl) rfl (cell_one_new _ _ _) (by simp [Value.oneCell']) (by decide) (by unfold maxLen; omega) (by omega) (by have := L2.bel.size; simp; omega) _ rfl ?_
    intro g cap w4 hown hgrow hat hlt4
    obtain ⟨hb4, L4, k4, bl4⟩ := L2.appended (by omega) hown hgrow
    have hc4 := hb4.cell
    have hf4 := hb4.frozen
    clear hown hgrow hat
    refine hK _ _ ?_; clear hK K
    refine wpAnyIn_ready (rs := [5]) (by kernel_rfl) (by simp) ?_
    refine AllReadyIn.cons rfl (fun K hK => ?_) AllReadyIn.nil
    go_simp
    refine hK _ _ ?_; clear hK K
    refine wpAnyIn_done (by kernel_rfl) ?_ _
    exact ⟨(keeps_below b2 _).trans (k4.from _), ⟨(b2.mono L.bel.size).trans bl4, fun o ho => by rw [show W.heap[w.heap.size + 1 + 1]? = _ from L.val] at ho; rw [← ho]; exact L4.val⟩, _, L4⟩
  case done =>
    rintro D ys W hD rfl ⟨u, L⟩ hK
    have hc := L.box.cell
    gi_wp2
    refine ⟨by simp, .inl ⟨_, _, rfl, run_takeDeferred hK, ?_⟩⟩
    exact ⟨_, results_tmp rfl _ _ _, u, rfl, ownsRow_putObj L.row _ hK rfl, L.bel.trans (belowK_b (w := w) (Nat.le_refl _) W D _ _ (by omega) hK rfl rfl)⟩
  case stop =>
    rintro D c pre W _ _ h _
    exact h.elim
theorem texts_any' (x : Value) (v : Vl) (ts : List (List UInt8)) (w : World) (H : VlAt w x v) (hl : v.l.length ≤ 100000) (hp : v.p.length ≤ 100000) (hts : ∀ y ∈ textsV v, y.length ≤ 140737488355328) (h : textsV v = ts) :
    Calls Try.prog 38 #[x] w fun e w' => ∃ a c, e = .returned (.slice a ts.length c) ∧ StrsAt w' (.slice a ts.length c) ts ∧ Newly w.heap.size (.slice a ts.length c) ∧ Below w.heap.size w w' := by
  subst h
  refine (texts_walk x v w H hl hp hts).mono ?_
  rintro e w' ⟨u, rfl, ho, bb⟩
  have hs := StrsAt.of_owns ho
  obtain ⟨a, c, rfl⟩ := hs.form
  exact ⟨a, c, rfl, hs, Newly.of_owns ho (Nat.le_refl _), bb⟩
end Go.Proofs.Ytgnccmmbpgnamaa
