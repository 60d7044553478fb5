/-
  PLAIN, and WALKS: the program's firsts (layer 9).
-/
import Derived.Test.YtgnccmmbpgnamaaG3
import Derived.Maps.OwnIn
import Derived.RangeFuncWrites
namespace Go.Proofs.Ytgnccmmbpgnamaa
open Go.RowKit Go.Shelf
attribute [local go_sem] Oper.semAt_some

/-- one variable more, ahead of those that a map speaks of -/
def stepM (D : DataW Unit) (i : Nat) (b : Bd) : DataW Unit := if definedV b.2 then D.put (.string b.1) (.lit (.int .i64 i)) else D.del (.string b.1)
def foldM (l : List (Nat × Bd)) : DataW Unit := l.foldl (fun D x => stepM D x.1 x.2) (.map [])
theorem foldM_snoc (l : List (Nat × Bd)) (x : Nat × Bd) : foldM (l ++ [x]) = stepM (foldM l) x.1 x.2 := by simp [foldM]
/-- what the map says of the variables from s on -/
def MapOk (bs : List Bd) (s : Nat) (D : DataW Unit) : Prop := Maps.IsMap D ∧ ∀ n, Maps.has D (.string n) = isV (bs.drop s) n ∧ (isV (bs.drop s) n = true → ∃ i, ∃ h : i < bs.length, firstV (bs.drop s) n = some bs[i].2 ∧ ∀ z, D.atKey (.string n) z = .lit (.int .i64 i))
theorem mapOk_none (bs : List Bd) (s : Nat) (h : bs.length ≤ s) : MapOk bs s (.map []) := by
  refine ⟨Maps.isMap_empty, fun n => ?_⟩
  rw [List.drop_eq_nil_of_le h]
  exact ⟨rfl, fun h => by cases h⟩
theorem mapOk_step {bs : List Bd} {s : Nat} {D : DataW Unit} (hs : s < bs.length) (h : MapOk bs (s + 1) D) : MapOk bs s (stepM D s bs[s]) := by
  obtain ⟨hm, hn⟩ := h
  have hd : bs.drop s = bs[s] :: bs.drop (s + 1) := List.drop_eq_getElem_cons hs
  have e1 : ∀ n, isV (bs.drop s) n = if bs[s].1 = n then definedV bs[s].2 else isV (bs.drop (s + 1)) n := fun n => by rw [hd]; exact is_cons _ _ _ _
  have e2 : ∀ n, firstV (bs.drop s) n = if bs[s].1 = n then some bs[s].2 else firstV (bs.drop (s + 1)) n := fun n => by rw [hd]; rfl
  unfold stepM
  cases hdf : definedV bs[s].2 with
  | true =>
    rw [if_pos rfl]
    refine ⟨hm.put _ _, fun n => ?_⟩
    by_cases e : bs[s].1 = n
    · rw [e1, e2, if_pos e, if_pos e, hdf, ← e]
      exact ⟨Maps.has_put_same hm (show WideAt.IsKeyLit (.string bs[s].1) from trivial) _, fun _ => ⟨s, hs, rfl, fun z => Maps.atKey_put_same hm (show WideAt.IsKeyLit (.string bs[s].1) from trivial) _ z⟩⟩
    · have hne : (Lit.string n) ≠ Lit.string bs[s].1 := fun e2 => e (by cases e2; rfl)
      rw [e1, e2, if_neg e, if_neg e, Maps.has_put_other hne]
      refine ⟨(hn n).1, fun hi => ?_⟩
      obtain ⟨i, hi1, hi2, hi3⟩ := (hn n).2 hi
      exact ⟨i, hi1, hi2, fun z => by rw [Maps.atKey_put_other hne]; exact hi3 z⟩
  | false =>
    rw [if_neg (by simp)]
    refine ⟨hm.del _, fun n => ?_⟩
    by_cases e : bs[s].1 = n
    · rw [e1, if_pos e, hdf, ← e]
      exact ⟨Maps.has_del_same, fun h => by cases h⟩
    · have hne : (Lit.string n) ≠ Lit.string bs[s].1 := fun e2 => e (by cases e2; rfl)
      rw [e1, e2, if_neg e, if_neg e, Maps.has_del_other hne]
      refine ⟨(hn n).1, fun hi => ?_⟩
      obtain ⟨i, hi1, hi2, hi3⟩ := (hn n).2 hi
      exact ⟨i, hi1, hi2, fun z => by rw [Maps.atKey_del_other hne]; exact hi3 z⟩
def plainX {w0 : World} (xs : List (Be w0)) : List (Nat × Bd) := xs.map fun x => (x.1.1, x.1.2.b)
theorem mapOk_all {w0 : World} {es : List Ev} {xs : List (Be w0)} (h : BackE es xs) : MapOk (plainE es) 0 (foldM (plainX xs)) := by
  obtain ⟨h1, h2⟩ := h
  have hl : (plainE es).length = es.length := by simp [plainE]
  have key : ∀ k, k ≤ es.length → MapOk (plainE es) (es.length - k) (foldM (plainX (xs.take k))) := by
    intro k
    induction k with
    | zero => intro _; exact mapOk_none _ _ (by omega)
    | succ k ih =>
      intro hk
      have hkx : k < xs.length := by omega
      obtain ⟨m, hm⟩ : ∃ m, es.length - (k + 1) = m := ⟨_, rfl⟩
      have hm1 : es.length - k = m + 1 := by omega
      have hm2 : es.length - 1 - k = m := by omega
      have hml : m < es.length := by omega
      have ih' := ih (by omega)
      rw [hm1] at ih'
      have hat := h2 k hkx (by omega)
      simp only [hm2] at hat
      have := mapOk_step (by omega) ih'
      rw [hm]
      have e : plainX (xs.take (k + 1)) = plainX (xs.take k) ++ [(m, (plainE es)[m]'(by omega))] := by
        unfold plainX
        rw [List.take_succ_eq_append_getElem hkx, List.map_append, List.map_singleton, hat]
        simp [plainE]
      rw [e, foldM_snoc]
      exact this
  have := key es.length (Nat.le_refl _)
  rw [Nat.sub_self, List.take_of_length_le (by omega)] at this
  exact this
/-- the map, in a box, beside the slice's box -/
structure Mx (w W : World) (v : Value) (n : Nat) (D : DataW Unit) : Prop where
  bel : Below w.heap.size w W
  map : W.ownsMap Try.prog 9 (plainElem Try.prog 3) w.heap.size n D
  box : Boxed W (w.heap.size + 1) 50 (.map (some w.heap.size))
  val : Bx W (w.heap.size + 1 + 1) #[v] 22
section
variable {w W W' : World} {v : Value} {n : Nat} {D D' : DataW Unit}
theorem Mx.next (h : Mx w W v n D) (bb : Below W.heap.size W W') : Mx w W' v n D := ⟨h.bel.trans (bb.mono h.bel.size), map_later h.map bb, boxed_next h.box bb, h.val.next bb⟩
theorem Mx.grown {m : Nat} (h : Mx w W v n D) (hg : W.grownBy W' (some w.heap.size)) (hm : W'.ownsMap Try.prog 9 (plainElem Try.prog 3) w.heap.size m D') : Mx w W' v m D' :=
  ⟨h.bel.grown hg h.bel.size (fun k e => by cases e; exact Nat.le_refl _), hm, (hg.block _ h.box.lt (fun e => by have := Option.some.inj e; omega)).trans h.box, (hg.block _ h.val.lt (fun e => by have := Option.some.inj e; omega)).trans h.val⟩
theorem mx_own {α : Type} {B : Nat} (hB : w.heap.size + 1 + 1 < B) (n : α → Nat) (D : α → DataW Unit) : OwnFrom B (fun (s : α) W => Mx w W v (n s) (D s)) := by
  rintro s X Y row h hg hrow
  have hr2 : ∀ r, row = some r → ∃ o : Obj, X.heap[r]? = some o ∧ o.isCells = false := fun r e => (hrow r e).2
  have hlt : ∀ b, b < B → some b ≠ row := fun b hb e => by have := (hrow b e.symm).1; omega
  exact ⟨h.bel.grown hg h.bel.size (fun k e => by have := (hrow k e).1; omega), h.map.kept hg (hlt _ (by omega)), h.box.kept hg (hlt _ (by omega)), (hg.block _ h.val.lt (hlt _ (by omega))).trans h.val⟩
theorem kp_grown (hb : w.heap.size ≤ W.heap.size) (hl : w.heap.size + 1 + 1 < W.heap.size) (hg : W.grownBy W' (some w.heap.size)) : Kp w.heap.size (w.heap.size + 1 + 1) W W' :=
  ⟨(Below.refl _ W).grown hg hb (fun k e => by cases e; exact Nat.le_refl _), fun _ ho => (hg.block _ hl (fun e => by have := Option.some.inj e; omega)).trans ho⟩
theorem kp_below (hb : w.heap.size ≤ W.heap.size) (hl : w.heap.size + 1 + 1 < W.heap.size) (bb : Below W.heap.size W W') : Kp w.heap.size (w.heap.size + 1 + 1) W W' :=
  ⟨bb.mono hb, fun _ ho => (bb.block _ hl).trans ho⟩
end
set_option maxRecDepth 100000 in
set_option maxHeartbeats 4000000 in
theorem firsts_any (v : Value) (bs : List Bd) (w : World) (H : BindsAt w v bs) (F : Fd bs) : Calls Try.prog 31 #[v] w fun e w' => ∃ (m n : Nat) (D : DataW Unit), e = .returned (.map (some m)) ∧ w.heap.size ≤ m ∧ n ≤ 1000 ∧ w'.ownsMap Try.prog 9 (plainElem Try.prog 3) m n D ∧ MapOk bs 0 D ∧ Below w.heap.size w w' := by
  obtain ⟨es, hpl, HE⟩ := H
  have hel : es.length ≤ 100 := by have := F.len; rw [← hpl] at this; simpa [plainE] using this
  obtain ⟨xs, hxs⟩ := back_lift (w0 := w) es (fun e he => ⟨HE.2 e he, F.all _ (by rw [← hpl]; exact List.mem_map.2 ⟨e, he, rfl⟩)⟩) (by omega)
  have hok := mapOk_all hxs
  rw [hpl] at hok
  have hxl : xs.length ≤ 100 := by rw [hxs.1]; exact hel
  obtain ⟨la, lc, rfl⟩ := HE.1.form
  have HES := HE.1
  have Hok := hide hok
  have hmm := @run_makeMap Try.prog
  clear hok F HE hpl
  refine (callsIn_wide (n := 5)).1 ?_
  refine callsIn_of_wp_marks Try.func31 rfl trivial ?_ rfl
  simp only [Try.ntmps31, List.size_toArray, List.length_cons, List.length_nil, Nat.reduceAdd, Nat.reduceSub, Array.replicate_succ, Array.replicate_zero, List.push_toArray, List.append_toArray, List.nil_append, List.cons_append]
  gi_wp2_with (refine ⟨trivial, ?_⟩; gi_at_call 43; refine (callsIn_wide.2 (backward_any _ _ _ _)).mono ?_; rintro e w' ⟨rfl, rfl⟩)
  have hm0 := ((World.ownsMap_made w Try.prog 9 (plainElem (H := Unit) Try.prog 3)).alloc (.cells #[.map (some w.heap.size)] 50)).alloc (.cells #[.slice la es.length lc] 22)
  have bO : Boxed (((w.alloc (.map #[] 0)).alloc (.cells #[.map (some w.heap.size)] 50)).alloc (.cells #[.slice la es.length lc] 22)) (w.heap.size + 1) 50 (.map (some w.heap.size)) := by
    have := (Boxed.new (w.alloc (.map #[] 0)) 50 (.map (some w.heap.size))).alloc (.cells #[.slice la es.length lc] 22)
    simpa using this
  have bN : Bx (((w.alloc (.map #[] 0)).alloc (.cells #[.map (some w.heap.size)] 50)).alloc (.cells #[.slice la es.length lc] 22)) (w.heap.size + 1 + 1) #[.slice la es.length lc] 22 := by
    have := Bx.made ((w.alloc (.map #[] 0)).alloc (.cells #[.map (some w.heap.size)] 50)) #[.slice la es.length lc] 22
    simpa using this
  have B0 : Below w.heap.size w (((w.alloc (.map #[] 0)).alloc (.cells #[.map (some w.heap.size)] 50)).alloc (.cells #[.slice la es.length lc] 22)) := (((Below.refl _ w).alloc (Nat.le_refl _) _).alloc (by simp) _).alloc (by simp; omega) _
  have hz : (((w.alloc (.map #[] 0)).alloc (.cells #[.map (some w.heap.size)] 50)).alloc (.cells #[.slice la es.length lc] 22)).heap.size = w.heap.size + 3 := by simp
  obtain ⟨W0, hW0⟩ : ∃ W0, ((w.alloc (.map #[] 0)).alloc (.cells #[.map (some w.heap.size)] 50)).alloc (.cells #[.slice la es.length lc] 22) = W0 := ⟨_, rfl⟩
  rw [hW0] at hm0 bO bN B0 hz ⊢
  have M0 : Mx w W0 (.slice la es.length lc) 0 (.map []) := ⟨B0, hm0, bO, bN⟩
  clear hm0 bO hW0
  refine wpIn_rangeFunc_ownH rfl (by omega) (gf := 52) (lb := #[.pointer (some ⟨w.heap.size + 1 + 1, 0, none⟩)]) rfl trivial (enters_of Try.func52 (by kernel_rfl) rfl)
    (back1_stops (w.heap.size + 1 + 1) (.slice la es.length lc) es w W0 xs HES (by omega) B0 bN hxs) (fun h k => kp_t h k) (kp_b (w := W0) (by omega) (by omega)) (Below.refl _ _) (fun _ => rfl)
    (fun pre W => Mx w W (.slice la es.length lc) pre.length (foldM (plainX pre)))
    (fun _ _ _ => False)
    (mx_own (by omega) (fun pre => pre.length) (fun pre => foldM (plainX pre)))
    (fun _ _ _ _ _ hs _ _ => hs)
    M0
    (fun x a' W => ∃ Bv, w.heap.size + 1 + 1 < Bv ∧ Bx W Bv (aggE x.1.2) 41 ∧ a' = { tmps := #[.slice la es.length lc, undef, .map none, .pointer (some ⟨w.heap.size + 1, 0, none⟩), .int .i64 x.1.1, .pointer (some ⟨Bv, 0, none⟩), .map (some w.heap.size), .slice la es.length lc, .func (.func 52) #[] #[.pointer (some ⟨w.heap.size + 1 + 1, 0, none⟩)], .int .i64 x.1.1, .agg (aggE x.1.2), undef, undef, undef, undef, undef, undef, undef, undef, undef, undef, undef], defers := [] })
    (fun x a' _ X Y row hs hg hr => by obtain ⟨Bv, h1, h2, h3⟩ := hs; exact ⟨Bv, h1, bx_own Bv (aggE x.1.2) 41 () X Y row h2 hg (fun r e => (hr r e).2), h3⟩)
    ?assign ?body ?done ?stop
  case assign =>
    rintro l pre x W K M hK
    have hsz := M.bel.size
    have hvl := M.val.lt
    obtain ⟨⟨i, ⟨b, el, ep⟩⟩, hat, hfd, hi⟩ := x
    obtain ⟨a1, c1, e1⟩ := hat.1.form
    obtain ⟨a2, c2, e2⟩ := hat.2.form
    dsimp only at e1 e2
    subst e1 e2
    dsimp only [encB, aggE] at hK ⊢
    gi_wp2
    exact hK _ _ ((KeepsOthers.alloc _ _).from _) (kp_below hsz hvl (b_alloc _ _)) (M.next (b_alloc _ _)) ⟨W.heap.size, hvl, Bx.made _ _ _, rfl⟩
  case body =>
    rintro l pre x a' W hl ⟨r, hr⟩ M ⟨Bv, hBv, X, rfl⟩ hlt
    obtain ⟨⟨i, e⟩, hat, hfd, hi⟩ := x
    dsimp only at X hat hfd hi ⊢
    have hV := (hat.later M.bel).val
    have hpn : pre.length < maxLen := by unfold maxLen; omega
    have hnx : foldM (plainX (pre ++ [⟨(i, e), hat, hfd, hi⟩])) = stepM (foldM (plainX pre)) i e.b := by
      unfold plainX
      rw [List.map_append, List.map_singleton, foldM_snoc]
    have hln : (pre ++ [(⟨(i, e), hat, hfd, hi⟩ : Be w)]).length = pre.length + 1 := by simp
    have Hnx := hide hnx
    have Hln := hide hln
    clear hnx hln
    dsimp only [aggE] at X ⊢
    obtain ⟨nm, hnm⟩ : ∃ nm, e.b.1 = nm := ⟨_, rfl⟩
    have hnl := hfd.nm
    have hvp := hfd.vl.p
    rw [hnm] at hnl X ⊢
    obtain ⟨N, hN⟩ : ∃ N : ByteArray, (⟨nm.toArray⟩ : ByteArray) = N := ⟨_, rfl⟩
    obtain ⟨S, hS⟩ : ∃ S : ByteArray, (⟨e.b.2.s.toArray⟩ : ByteArray) = S := ⟨_, rfl⟩
    obtain ⟨kd, hkd⟩ : ∃ kd, e.b.2.kind = kd := ⟨_, rfl⟩
    have hNd : N.data.toList = nm := by rw [← hN]
    have hkey : keyOf Try.prog 9 (.string N) = some (.string nm) := by rw [← hNd]; exact WideMaps.keyOf_string_mk Try.underlying9 (by unfold maxLen; rw [size_list, hNd]; omega)
    have hwf : (Lit.int .i64 (i : Int)).wf = true := by
      have h1 : IntKind.i64.min ≤ (i : Int) := by show (-9223372036854775808 : Int) ≤ _; omega
      have h2 : (i : Int) ≤ IntKind.i64.max := by show _ ≤ (9223372036854775807 : Int); omega
      simp only [Lit.wf, h1, h2, decide_true, Bool.and_self]
    rw [hS, hkd] at X hV ⊢
    rw [hN] at X ⊢
    have HV := hide hV
    have hsz := M.bel.size
    have hvl := M.val.lt
    obtain ⟨d, hd⟩ : ∃ d, definedV e.b.2 = d := ⟨_, rfl⟩
    have Hd := hide hd
    have c0 := X.cell 0 (.string N) rfl
    have c1 := X.cell 1 (.int .i64 kd) rfl
    have c2 := X.cell 2 (.string S) rfl
    have c3 := X.cell 3 e.l rfl
    have c4 := X.cell 4 e.p rfl
    cases d with
    | true =>
      have hst : stepM (foldM (plainX pre)) i e.b = (foldM (plainX pre)).put (.string nm) (.lit (.int .i64 i)) := by unfold stepM; rw [hd, hnm]; rfl
      have Hst := hide hst
      clear hV hd hst hN hS hkd hnm
      gi_wp2_with (first
        | (refine ⟨trivial, ?_⟩; gi_at_call 29; refine (CallsIn.inRound l (callsIn_wide.2 (defined_any _ _ true _ HV.out (by omega) Hd.out))).mono ?_; rintro _ W2 ⟨rfl, bb⟩; have M2 := M.next bb; have X2 := X.next bb; have d0 := X2.cell 0 (.string N) rfl; have d5 := M2.box.cell; have HM2 := hide M2; clear M2 X2)
        | (gi_at_mapUpdate; refine wpListIn_mapUpdate_own _ rfl _ _ _ 50 rfl 9 3 law9 Try.underlying50 _ w.heap.size pre.length _ rfl HM2.out.map hpn _ _ _ rfl rfl hkey _ [] (plainElem_int Try.underlying3 hwf) ?_; intro w1 hown1 hgrow1))
      have hs2 := bb.size
      have R := HM2.out.grown hgrow1 hown1
      rw [← Hst.out, ← Hnx.out, ← Hln.out] at R
      exact ⟨(keeps_below bb _).trans (KeepsFrom.of_grownBy hgrow1 (fun j e => by cases e; omega)), kp_t (kp_below hsz hvl bb) (kp_grown (by omega) (by omega) hgrow1), R⟩
    | false =>
      have hst : stepM (foldM (plainX pre)) i e.b = (foldM (plainX pre)).del (.string nm) := by unfold stepM; rw [hd, hnm]; rfl
      have Hst := hide hst
      clear hV hd hst hN hS hkd hnm
      gi_wp2_with (first
        | (refine ⟨trivial, ?_⟩; gi_at_call 29; refine (CallsIn.inRound l (callsIn_wide.2 (defined_any _ _ false _ HV.out (by omega) Hd.out))).mono ?_; rintro _ W2 ⟨rfl, bb⟩; have M2 := M.next bb; have X2 := X.next bb; have d0 := X2.cell 0 (.string N) rfl; have d5 := M2.box.cell; have HM2 := hide M2; clear M2 X2)
        | (gi_at_delete; refine wpListIn_delete_own _ rfl _ _ 50 9 rfl 3 law9 Try.underlying50 _ w.heap.size pre.length _ rfl HM2.out.map _ _ rfl hkey ?_; intro w1 hown1 hturn1))
      have hs2 := bb.size
      have R := HM2.out.grown hturn1.grown (hown1.mono (n' := pre.length + 1) (by omega))
      rw [← Hst.out, ← Hnx.out, ← Hln.out] at R
      exact ⟨(keeps_below bb _).trans (KeepsFrom.of_grownBy hturn1.grown (fun j e => by cases e; omega)), kp_t (kp_below hsz hvl bb) (kp_grown (by omega) (by omega) hturn1.grown), R⟩
  case done =>
    rintro D ys W hD hys M hK
    subst hys
    have c := M.box.cell
    gi_wp2
    refine ⟨by simp, .inl ⟨_, _, rfl, run_takeDeferred hK, ?_⟩⟩
    exact ⟨_, results_tmp rfl _ _ _, w.heap.size, _, _, rfl, Nat.le_refl _, by omega, M.map.kept (grownBy_putObj' _ D _) (fun e => by cases e; omega), Hok.out, M.bel.trans (belowK_b (w := w) (Nat.le_refl _) W D _ _ (by omega) hK rfl rfl)⟩
  case stop =>
    rintro D c pre W _ _ h _
    exact h.elim
end Go.Proofs.Ytgnccmmbpgnamaa
