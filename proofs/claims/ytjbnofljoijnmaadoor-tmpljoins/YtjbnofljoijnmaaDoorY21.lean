/-
  Joined by program out of the texts C7 O C8.
-/
import Derived.Test.YtjbnofljoijnmaaDoorY20
import Derived.Deep.Slices
import Derived.Deep.Strs
import Derived.OpenShut
/-
  Parts appended; WALKS: the law TmplJoins.
-/
namespace Go.Proofs.YtjbnofljoijnmaaDoor
open Go.RowKit Go.Lib

theorem ptsV_len (ps : List (Pt × Value)) : (ptsV ps).length = ps.length * 3 := by
  induction ps with
  | nil => rfl
  | cons a r ih =>
    show (ptV a ++ ptsV r).length = _
    rw [List.length_append, ih, List.length_cons]
    show 3 + r.length * 3 = _
    omega
/-- parts in memory, with the values of their variables' slices -/
theorem PtsAt.pairs {w : World} {v : Value} {ts : List Pt} (h : PtsAt w v ts) : ∃ ps : List (Pt × Value), ps.map (·.1) = ts ∧ (∀ p ∈ ps, SpecsAt w p.2 p.1.specs) ∧ ((ts = [] ∧ ∃ ao cap, v = .slice ao 0 cap) ∨ ∃ b off cap, v = .slice (some ⟨b, off, none⟩) ts.length cap ∧ ∀ j u, (ptsV ps)[j]? = some u → w.cell? ⟨b, off + j, none⟩ = some u) := by
  rcases h with ⟨rfl, ao, cap, rfl⟩ | ⟨hp, b, off, cap, rfl, hc⟩
  · exact ⟨[], rfl, (fun p hp => by cases hp), .inl ⟨rfl, ao, cap, rfl⟩⟩
  · have key : ∀ n, n ≤ ts.length → ∃ ps : List (Pt × Value), ps.map (·.1) = ts.take n ∧ (∀ p ∈ ps, SpecsAt w p.2 p.1.specs) ∧ ∀ j u, (ptsV ps)[j]? = some u → w.cell? ⟨b, off + j, none⟩ = some u := by
      intro n
      induction n with
      | zero => intro _; exact ⟨[], by simp, (fun p hp => by cases hp), fun j u h => by simp [ptsV] at h⟩
      | succ n ih =>
        intro hn
        obtain ⟨ps, e1, e2, e3⟩ := ih (by omega)
        obtain ⟨h1, h2, sv, h3, h4⟩ := hc n (by omega)
        have hlen : ps.length = n := by
          have := congrArg List.length e1
          simp at this; omega
        refine ⟨ps ++ [(ts[n], sv)], ?_, ?_, ?_⟩
        · rw [List.map_append, e1, List.take_succ_eq_append_getElem (by omega)]; rfl
        · intro p hp
          rcases List.mem_append.1 hp with h | h
          · exact e2 p h
          · rw [List.mem_singleton.1 h]; exact h4
        · intro j u hj
          rw [ptsV_snoc] at hj
          have hl : (ptsV ps).length = n * 3 := by rw [← hlen]; exact ptsV_len ps
          by_cases hjl : j < n * 3
          · rw [List.getElem?_append_left (by omega)] at hj
            exact e3 j u hj
          · rw [List.getElem?_append_right (by omega), hl] at hj
            obtain ⟨q, rfl⟩ : ∃ q, j = n * 3 + q := ⟨j - n * 3, by omega⟩
            rw [Nat.add_sub_cancel_left] at hj
            match q, hj with
            | 0, hj => cases hj; exact h1
            | 1, hj => cases hj; exact h2
            | 2, hj => cases hj; exact h3
            | q + 3, hj => simp [ptV] at hj
    obtain ⟨ps, e1, e2, e3⟩ := key ts.length (Nat.le_refl _)
    exact ⟨ps, by rw [e1, List.take_length], e2, .inr ⟨b, off, cap, rfl, e3⟩⟩
theorem PtsAt.of_row {w : World} {base : Nat} {v : Value} {ps : List (Pt × Value)} (h : w.ownsRow base 37 3 v ps.length (ptsV ps)) (hh : ∀ p ∈ ps, SpecsAt w p.2 p.1.specs) : PtsAt w v (ps.map (·.1)) := by
  have h' := h
  rcases h.2 with ⟨rfl, h0⟩ | ⟨g, cap, cur, rfl, _, hg, hn, hm, hs, ht⟩
  · have : ps = [] := List.eq_nil_of_length_eq_zero h0
    subst this
    exact .inl ⟨rfl, _, _, rfl⟩
  · by_cases hp : 0 < ps.length
    · refine .inr ⟨by simpa using hp, g, 0, cap, by simp, fun k hk => ?_⟩
      have hk' : k < ps.length := by simpa using hk
      rw [Nat.zero_add]
      have e0 := h'.cellAt (k * 3 + 0) (by omega)
      have e1 := h'.cellAt (k * 3 + 1) (by omega)
      have e2 := h'.cellAt (k * 3 + 2) (by omega)
      unfold ptsV at e0 e1 e2
      rw [three_at ptV (fun _ => rfl) ps k _ hk' (by omega)] at e0 e1 e2
      have em : (ps.map (·.1))[k] = ps[k].1 := by simp
      rw [em]
      exact ⟨e0, e1, ps[k].2, e2, hh _ (List.getElem_mem hk')⟩
    · have : ps = [] := List.eq_nil_of_length_eq_zero (by omega)
      subst this
      exact .inl ⟨rfl, _, _, rfl⟩
theorem len_fst {qs : List (Pt × Value)} {ts : List Pt} (e : qs.map (·.1) = ts) : qs.length = ts.length := by rw [← e, List.length_map]
theorem own_nil {w : World} {base : Nat} {v : Value} {qs : List (Pt × Value)} {ts : List Pt} (e : qs.map (·.1) = ts) (h : w.ownsRow base 37 3 v (([] : List (Pt × Value)).length + ts.length) (ptsV ([] ++ qs))) : w.ownsRow base 37 3 v qs.length (ptsV qs) := by
  rw [len_fst e]
  rw [List.nil_append, List.length_nil, Nat.zero_add] at h
  exact h
theorem both_at {w W : World} {base : Nat} {v : Value} {qx qy : List (Pt × Value)} {xs ys : List Pt} (ex : qx.map (·.1) = xs) (ey : qy.map (·.1) = ys) (hx : ∀ p ∈ qx, SpecsAt W p.2 p.1.specs) (hy : ∀ p ∈ qy, SpecsAt W p.2 p.1.specs) (hB : Below W.heap.size W w) (h : w.ownsRow base 37 3 v (qx.length + ys.length) (ptsV (qx ++ qy))) : PtsAt w v (xs ++ ys) := by
  have h1 : w.ownsRow base 37 3 v (qx ++ qy).length (ptsV (qx ++ qy)) := by rw [List.length_append, len_fst ey]; exact h
  have h2 := PtsAt.of_row h1 (fun p hp => by
    rcases List.mem_append.1 hp with h | h
    · exact (hx p h).later hB
    · exact (hy p h).later hB)
  rw [List.map_append, ex, ey] at h2
  exact h2
/-- an owned row with parts behind it; the parts stood in an elder world -/
theorem run_more (W w : World) (t : TypeId) (ht : Tryd.prog.underlying t = some (.slice 37)) (ty : TypeId) (base : Nat) (v u : Value) (ps : List (Pt × Value)) (ts : List Pt) (hown : w.ownsRow base 37 3 v ps.length (ptsV ps)) (hu : PtsAt W u ts) (hB : Below W.heap.size W w) (hn : ps.length + ts.length ≤ 1000000) (hbase : base ≤ w.heap.size) :
    ∃ v' w' qs, (Builtin.append_ #[t, t] ty #[v, u]).run Tryd.prog w = .ok v' w' ∧ qs.map (·.1) = ts ∧ (∀ p ∈ qs, SpecsAt W p.2 p.1.specs) ∧ w'.ownsRow base 37 3 v' (ps.length + ts.length) (ptsV (ps ++ qs)) ∧ w.grownBy w' v.ownBlock := by
  obtain ⟨i0, hi, hz0, hz1, hz2⟩ := info_parts info45
  obtain ⟨qs, e1, e2, e3⟩ := hu.pairs
  have hql : qs.length = ts.length := by rw [← e1, List.length_map]
  have hvl : (ptsV qs).length = ts.length * 3 := by rw [← hql]; exact ptsV_len qs
  have happ : ptsV (ps ++ qs) = ptsV ps ++ ptsV qs := by simp [ptsV]
  rcases e3 with ⟨rfl, ao, cap, rfl⟩ | ⟨b, off, cap, rfl, hc⟩
  · have hq0 : qs = [] := List.eq_nil_of_length_eq_zero (by simpa using hql)
    subst hq0
    refine ⟨v, w, [], ?_, rfl, e2, by simpa using hown, ⟨rfl, rfl, rfl, Nat.le_refl _, fun _ _ _ => rfl⟩⟩
    rcases hown.2 with ⟨rfl, _⟩ | ⟨g, cap', cur, rfl, _, hg, hnc, _, _, _⟩
    · cases ao <;> simp [Builtin.append_, run_underlying ht, sizeOf, typeInfo, hi, Builtin.lenOf, Builtin.firstCells, loadCells, loadCellsFrom]
    · cases ao <;> simp [Builtin.append_, run_underlying ht, sizeOf, typeInfo, hi, Builtin.lenOf, Builtin.firstCells, loadCells, loadCellsFrom, storeCells, hnc]
  · obtain ⟨v', w', h1, h2, h3, _⟩ := run_append_own (P := Tryd.prog) w base t ty 37 i0 (.agg #[.string ⟨#[]⟩, .int .u8 0, .slice none 0 0]) 3 48 ht hi hz0 hz1 hz2 rfl (by decide) v ps.length (ptsV ps) hown ⟨b, off, none⟩ ts.length cap (ptsV qs) hvl
      (fun j u hj => by rw [show (⟨b, off, none⟩ : Addr).add j = ⟨b, off + j, none⟩ by simp [Addr.add]]; exact (hB.cell (p := ⟨b, off + j, none⟩) (lt_of_cell (hc j u hj))).trans (hc j u hj)) (fun u hu => by
        obtain ⟨p, hp, hm⟩ := List.mem_flatMap.1 hu
        obtain ⟨a, n, ea⟩ := (e2 p hp).form
        simp only [ptV, ea, List.mem_cons, List.not_mem_nil, or_false] at hm
        rcases hm with rfl | rfl | rfl <;> rfl) (by unfold maxLen; omega) (by omega) hbase
    exact ⟨v', w', qs, h1, e1, e2, by rw [happ]; exact h2, h3⟩
theorem wpList_more {ops : Array Oper} {rest : List Oper} {o : Oper} {a : Act} {w : World} {Q : Exit → Act → World → Prop} (hgd : o.guard = none) (s x : Operand)
    (ho : o.op = .call { callee := .builtin .append, args := #[s, x], argTypes := #[22, 22] }) (W : World) (base : Nat) (v u : Value) (ps : List (Pt × Value)) (ts : List Pt) (hs : a.eval s = v) (hx : a.eval x = u)
    (hown : w.ownsRow base 37 3 v ps.length (ptsV ps)) (hu : PtsAt W u ts) (hB : Below W.heap.size W w) (hn : ps.length + ts.length ≤ 1000000) (hbase : base ≤ w.heap.size)
    (h : ∀ v' w' qs, qs.map (·.1) = ts → (∀ p ∈ qs, SpecsAt W p.2 p.1.specs) → w'.ownsRow base 37 3 v' (ps.length + ts.length) (ptsV (ps ++ qs)) → w.grownBy w' v.ownBlock → wpList Tryd.prog ops Q rest (a.put o.dst v') w') : wpList Tryd.prog ops Q (o :: rest) a w :=
  wpList_plain hgd fun _ hK => by
    obtain ⟨v', w', qs, hr, h1, h2, h3, h4⟩ := run_more W w 22 Tryd.underlying22 o.type base v u ps ts hown hu hB hn hbase
    unfold Oper.wp execOp
    simp only [ho, resolve, invoke, builtin, Sem.run_bind, Sem.run_pure, Result.andThen_ok, List.map_toArray, List.map_cons, List.map_nil, hs, hx, hr]
    exact hK _ _ (h v' w' qs h1 h2 h3 h4)
set_option maxRecDepth 20000 in
set_option maxHeartbeats 4000000 in
theorem joins_walk {R : World → Prop} (P : Prg R) (a b : ByteArray) (w : World) (hR : R w) : Calls Tryd.prog 4 #[.string a, .string b] w fun e w' => e = .returned (.bool true) ∧ Below w.heap.size w w' := by
  have B := Below.refl w.heap.size w
  by_cases hbig : 100 < a.size
  · go_enter Tryd.func4, Tryd.ntmps4
    go_wp2_with (go_at_call 6; refine (awake_any P _ hR).mono ?_; rintro e w1 ⟨rfl, bb⟩; replace B := bb; clear bb)
    go_ret
    exact ⟨rfl, B⟩
  · by_cases hbig2 : 100 < b.size
    · go_enter Tryd.func4, Tryd.ntmps4
      go_wp2_with (go_at_call 6; refine (awake_any P _ hR).mono ?_; rintro e w1 ⟨rfl, bb⟩; replace B := bb; clear bb)
      all_goals go_ret
      all_goals exact ⟨rfl, B⟩
    · have a1 := str_add a b (by unfold maxLen; omega)
      obtain ⟨S1, hS1⟩ : ∃ S1, a ++ b = S1 := ⟨_, rfl⟩
      have hS1l : S1.data.toList = a.data.toList ++ b.data.toList := by rw [← hS1, app_list]
      have hS1s : S1.size ≤ 1000 := by rw [← hS1, ByteArray.size_append]; omega
      rw [hS1] at a1
      have T0 : Hid True := trivial
      have T1 : Hid True := trivial
      have T2 : Hid True := trivial
      obtain ⟨ka, hka⟩ : ∃ k, badT a.data.toList = k := ⟨_, rfl⟩
      obtain ⟨kb, hkb⟩ : ∃ k, badT b.data.toList = k := ⟨_, rfl⟩
      obtain ⟨kz, hkz⟩ : ∃ k, badT S1.data.toList = k := ⟨_, rfl⟩
      obtain ⟨ez, hez⟩ : ∃ e : Int, (if (isT S1.data.toList).isSome then (0 : Int) else 2) = e := ⟨_, rfl⟩
      have Hka := hide hka
      have Hkb := hide hkb
      have Hkz := hide hkz
      have Hez := hide hez
      cases ha : isT a.data.toList with
      | none =>
        obtain ⟨eb, heb⟩ : ∃ e : Int, (if (isT b.data.toList).isSome then (0 : Int) else 2) = e := ⟨_, rfl⟩
        have Ha := hide ha
        have Heb := hide heb
        clear ha heb hka hkb hkz hez hS1l
        go_enter Tryd.func4, Tryd.ntmps4
        go_wp2_with (first
          | (go_at_call 6; refine (awake_any P _ hR).mono ?_; rintro e w1 ⟨rfl, bb⟩; replace B := bb; have hR1 := P.next _ _ hR bb; clear bb)
          | (go_at_call 10; have z := T0; refine (pno_is P a ka _ hR1 (by omega) Ha.out Hka.out).mono ?_; rintro e w2 ⟨rfl, bb⟩; replace B := B.trans (bb.mono B.size); have hR2 := P.next _ _ hR1 bb; clear bb T0 z)
          | (go_at_call 10; have z := T1; refine (pfar_is P b kb eb _ hR2 (by omega) Hkb.out Heb.out).mono ?_; rintro e w3 ⟨⟨x1, x2, x3, rfl⟩, bb⟩; replace B := B.trans (bb.mono B.size); have hR3 := P.next _ _ hR2 bb; clear bb T1 z)
          | (go_at_call 10; have z := T2; refine (pfar_is P S1 kz ez _ hR3 (by omega) Hkz.out Hez.out).mono ?_; rintro e w4 ⟨⟨x1, x2, x3, rfl⟩, bb⟩; replace B := B.trans (bb.mono B.size); clear bb T2 z))
        all_goals go_ret
        all_goals exact ⟨rfl, B⟩
      | some xs =>
        cases hb : isT b.data.toList with
        | none =>
          have Ha := hide ha
          have Hb := hide hb
          clear ha hb hka hkb hkz hez hS1l
          go_enter Tryd.func4, Tryd.ntmps4
          go_wp2_with (first
            | (go_at_call 6; refine (awake_any P _ hR).mono ?_; rintro e w1 ⟨rfl, bb⟩; replace B := bb; have hR1 := P.next _ _ hR bb; clear bb)
            | (go_at_call 10; have z := T0; refine (pyes_is P a xs _ hR1 (by omega) Ha.out).mono ?_; rintro e w2 ⟨vx, rfl, hvx, bb⟩; replace B := B.trans (bb.mono B.size); have hR2 := P.next _ _ hR1 bb; clear bb T0 z)
            | (go_at_call 10; have z := T1; refine (pno_is P b kb _ hR2 (by omega) Hb.out Hkb.out).mono ?_; rintro e w3 ⟨rfl, bb⟩; replace B := B.trans (bb.mono B.size); have hR3 := P.next _ _ hR2 bb; clear bb T1 z)
            | (go_at_call 10; have z := T2; refine (pfar_is P S1 kz ez _ hR3 (by omega) Hkz.out Hez.out).mono ?_; rintro e w4 ⟨⟨x1, x2, x3, rfl⟩, bb⟩; replace B := B.trans (bb.mono B.size); clear bb T2 z))
          all_goals go_ret
          all_goals exact ⟨rfl, B⟩
        | some ys =>
          obtain ⟨zs, hz, hnm, hon⟩ := is_joins ha hb
          rw [← hS1l] at hz
          obtain ⟨smx, lx, _, _⟩ := small_is ha (by rw [← size_list]; omega)
          obtain ⟨smy, ly, _, _⟩ := small_is hb (by rw [← size_list]; omega)
          obtain ⟨smz, lz, _, _⟩ := small_is hz (by rw [← size_list]; omega)
          rw [← size_list] at lx ly lz
          have smb := small_app smx smy (by omega)
          have Ha := hide ha
          have Hb := hide hb
          have Hz := hide hz
          have Hnm := hide hnm
          have Hsx := hide smx
          have Hsz := hide smz
          have Hsb := hide smb
          obtain ⟨ob, hob⟩ : ∃ ob, onceT zs = ob := ⟨_, rfl⟩
          have hnn : (namesT zs).length ≤ 1000000 := by
            have := names_lenT zs (fun x hx => (smz.2 x hx).1) zs.length
            rw [List.take_length] at this
            omega
          have Hnn := hide hnn
          have A0 : Hid True := trivial
          have A1 : Hid True := trivial
          have O0 : Hid True := trivial
          have O9 : Hid True := trivial
          clear hnn
          have hob2 : onceT (xs ++ ys) = ob := by rw [← hon]; exact hob
          have Hoz := hide hob
          have Hob := hide hob2
          clear ha hb hz hnm smx smy smz smb hob hob2 hon hka hkb hkz hez hS1l
          go_enter Tryd.func4, Tryd.ntmps4
          go_wp2_with (first
            | (go_at_call 6; refine (awake_any P _ hR).mono ?_; rintro e w1 ⟨rfl, bb⟩; replace B := bb; have hR1 := P.next _ _ hR bb; clear bb)
            | (go_at_call 10; have z := T0; refine (pyes_is P a xs _ hR1 (by omega) Ha.out).mono ?_; rintro e w2 ⟨vx, rfl, hvx, bb⟩; replace B := B.trans (bb.mono B.size); have hR2 := P.next _ _ hR1 bb; clear bb T0 z)
            | (go_at_call 10; have z := T1; refine (pyes_is P b ys _ hR2 (by omega) Hb.out).mono ?_; rintro e w3 ⟨vy, rfl, hvy, bb⟩; replace B := B.trans (bb.mono B.size); have hR3 := P.next _ _ hR2 bb; replace hvx := hvx.later bb; clear bb T1 z)
            | (go_at_call 10; have z := T2; refine (pyes_is P S1 zs _ hR3 (by omega) Hz.out).mono ?_; rintro e w4 ⟨vz, rfl, hvz, bb⟩; replace B := B.trans (bb.mono B.size); have hR4 := P.next _ _ hR3 bb; replace hvx := hvx.later bb; replace hvy := hvy.later bb; clear bb T2 z)
            | (at_builtin; have z := A0; refine wpList_more rfl _ _ rfl w4 w4.heap.size _ _ [] xs rfl rfl (World.ownsRow_lit w4 #[] 0 (Nat.le_refl _) (by decide) rfl) hvx ((Below.refl _ _).alloc (Nat.le_refl _) _) (by simp; omega) (by simp) ?_; intro v5 w5 qx ex hx5 own5 grow5; have B5 := ((Below.refl w4.heap.size w4).alloc (Nat.le_refl _) (.cells #[] 37)).grown grow5 (by simp) (fun q hq => by have := Option.some.inj (show some w4.heap.size = some q from hq); omega); have lqx := len_fst ex; have own5' : w5.ownsRow w4.heap.size 37 3 v5 qx.length (ptsV qx) := own_nil ex own5; clear A0 z own5 grow5)
            | (at_builtin; have z := A1; refine wpList_more rfl _ _ rfl w4 w4.heap.size v5 _ qx ys rfl rfl own5' hvy B5 (by omega) B5.size ?_; intro v6 w6 qy ey hy6 own6 grow6; have B6 := B5.grown grow6 B5.size (fun q hq => (own5'.lt q hq).1); have hboth : PtsAt w6 v6 (xs ++ ys) := both_at ex ey hx5 hy6 B6 own6; replace hvz := hvz.later B6; replace B := B.trans (B6.mono B.size); replace hR4 := P.next _ _ hR4 B6; clear A1 z own6 grow6 own5' B5 B6 hx5 hy6 ex ey lqx)
            | (go_at_call 13; refine (P.names _ zs _ hR4 hvz Hsz.out).mono ?_; rintro e w8 ⟨u2, rfl, hu2, bb⟩; replace B := B.trans (bb.mono B.size); replace hR4 := P.next _ _ hR4 bb; replace hvz := hvz.later bb; replace hboth := hboth.later bb; clear bb)
            | (go_at_call 14; refine (names_any _ (xs ++ ys) _ hboth (by rw [List.length_append]; omega) (fun x hx => (Hsb.out.2 x hx).1)).mono ?_; rintro e w9 ⟨u3, rfl, hu3, bb⟩; rw [← Hnm.out] at hu3; replace B := B.trans (bb.mono B.size); replace hR4 := P.next _ _ hR4 bb; replace hvz := hvz.later bb; replace hboth := hboth.later bb; replace hu2 := hu2.later bb; clear bb)
            | (go_at_call 12; refine (texts_same zs _ _ _ Hnn.out hu2 hu3).mono ?_; rintro e w10 ⟨rfl, bb⟩; replace B := B.trans (bb.mono B.size); replace hR4 := P.next _ _ hR4 bb; replace hvz := hvz.later bb; replace hboth := hboth.later bb; clear bb)
            | (go_at_call 15; have z := O0; refine (ponce_is P _ zs ob _ hR4 hvz Hsz.out Hoz.out).mono ?_; rintro e w11 ⟨rfl, bb⟩; replace B := B.trans (bb.mono B.size); replace hR4 := P.next _ _ hR4 bb; replace hboth := hboth.later bb; clear bb O0 z)
            | (go_at_call 15; have z := O9; refine (ponce_is P _ (xs ++ ys) ob _ hR4 hboth Hsb.out Hob.out).mono ?_; rintro e w12 ⟨rfl, bb⟩; replace B := B.trans (bb.mono B.size); clear bb O9 z))
          all_goals go_ret
          all_goals exact ⟨rfl, B⟩
end Go.Proofs.YtjbnofljoijnmaaDoor

/-
  Arguments that are parts of templates, opened.
-/
namespace Go.Proofs.YtjbnofljoijnmaaDoor
open Go Go.RowKit Go.Deep

theorem spot_none {w : World} {a : Addr} {v : Value} (h : w.cell? a = some v) : a = ⟨a.block, a.off, none⟩ := by
  cases a with
  | mk b o s =>
    cases s with
    | none => rfl
    | some s =>
      unfold World.cell? at h
      split at h
      · simp at h
      · cases h
theorem add_none (b o j : Nat) : (⟨b, o, none⟩ : Addr).add j = ⟨b, o + j, none⟩ := by
  unfold Addr.add
  split
  · rename_i h; rw [h]; rfl
  · rfl
theorem cellsO47 : Tryd.prog.cellsOf 39 = 3 := by kernel_rfl
theorem cellsO45 : Tryd.prog.cellsOf 37 = 3 := by kernel_rfl
theorem cellsO9 : Tryd.prog.cellsOf 9 = 1 := by kernel_rfl
theorem cellsO3 : Tryd.prog.cellsOf 3 = 1 := by kernel_rfl
theorem cellsO4 : Tryd.prog.cellsOf 4 = 1 := by kernel_rfl
theorem cellsO5 : Tryd.prog.cellsOf 5 = 1 := by kernel_rfl
theorem cellsO43 : Tryd.prog.cellsOf 35 = 1 := by kernel_rfl
section
variable {H : Type} {enc : TypeId × Value → H} {w : World} {base : Nat} {sp : Nat → Bool} {held : Bool}
theorem first_spot {a : Addr} {cs : List Value} (h : w.cells? base (a.add (0 * 3)) 3 = some cs) : a = ⟨a.block, a.off, none⟩ := by
  obtain ⟨_, hlen, hc⟩ := World.cells?_some h
  have e0 := hc 0 (by omega)
  have e : (a.add (0 * 3)).add 0 = a := by simp [Addr.add]
  rw [e] at e0
  match cs, hlen with
  | v0 :: _, _ => exact spot_none e0
theorem three_cells {b o i : Nat} {cs : List Value} (h : w.cells? base ((⟨b, o, none⟩ : Addr).add (i * 3)) 3 = some cs) : ∃ v0 v1 v2, cs = [v0, v1, v2] ∧ w.cell? ⟨b, o + i * 3, none⟩ = some v0 ∧ w.cell? ⟨b, o + i * 3 + 1, none⟩ = some v1 ∧ w.cell? ⟨b, o + i * 3 + 2, none⟩ = some v2 := by
  obtain ⟨_, hlen, hc⟩ := World.cells?_some h
  match cs, hlen with
  | [v0, v1, v2], _ =>
    have e0 := hc 0 (by omega)
    have e1 := hc 1 (by omega)
    have e2 := hc 2 (by omega)
    rw [add_none, add_none] at e0 e1 e2
    exact ⟨v0, v1, v2, rfl, e0, e1, e2⟩
set_option maxRecDepth 20000 in
theorem open_specs {fuel : Nat} {v : Value} {x : DataW H × List MemPlace} (h : DataW.trod enc Tryd.prog w base sp held fuel 35 [v] = some x) : ∃ xs : List Sp, SpecsAt w v xs ∧ xs.length ≤ maxLen ∧ ∀ y ∈ xs, y.name.length ≤ maxLen := by
  rcases open_slice Tryd.underlying35 h with ⟨hcs, _⟩ | ⟨a, len, cap, m, n, D, Pl, hcs, _, hl, hm, hmm, _, hel⟩
  · have : v = .slice none 0 0 := by simpa using hcs
    subst this
    exact ⟨[], .inl ⟨rfl, none, 0, rfl⟩, by simp, fun y hy => by cases hy⟩
  · have hv : v = .slice (some a) len cap := by simpa using hcs
    subst hv
    have hlm : len ≤ m := by rw [hmm]; split <;> omega
    by_cases hp : ¬ 0 < len
    · have : len = 0 := by omega
      subst this
      exact ⟨[], .inl ⟨rfl, some a, cap, rfl⟩, by simp, fun y hy => by cases hy⟩
    have hp : 0 < len := by omega
    have ha : a = ⟨a.block, a.off, none⟩ := by
      obtain ⟨cs', h1, _⟩ := hel 0 (by omega)
      rw [cellsO47] at h1
      exact first_spot h1
    have each : ∀ i, ∃ y : Sp, i < len → w.cell? ⟨a.block, a.off + i * 3, none⟩ = some (.string ⟨y.name.toArray⟩) ∧ w.cell? ⟨a.block, a.off + i * 3 + 1, none⟩ = some (.int .i64 y.max) ∧ w.cell? ⟨a.block, a.off + i * 3 + 2, none⟩ = some (.bool y.star) ∧ y.name.length ≤ maxLen := by
      intro i
      by_cases hi : i < len
      · obtain ⟨cs', h1, h2⟩ := hel i (by omega)
        rw [cellsO47] at h1
        rw [ha] at h1
        obtain ⟨v0, v1, v2, rfl, c0, c1, c2⟩ := three_cells h1
        obtain ⟨y0, y1, y2, k, _, _, t0, t1, t2⟩ := trod_struct3 Tryd.underlying39 h2
        simp only [cellsO9, cellsO3, cellsO4, List.drop_zero, List.drop_succ_cons, List.take_succ_cons, List.take_zero] at t0 t1 t2
        obtain ⟨s0, e0, _, hs0⟩ := DataW.trod_string Tryd.underlying9 t0
        obtain ⟨k1, e1, _, _⟩ := DataW.trod_int Tryd.underlying3 t1
        obtain ⟨b2, e2, _⟩ := DataW.trod_bool Tryd.underlying4 t2
        simp only [List.cons.injEq, and_true] at e0 e1 e2
        subst e0 e1 e2
        exact ⟨⟨s0.data.toList, k1, b2⟩, fun _ => ⟨c0, c1, c2, by rw [← size_list]; exact hs0⟩⟩
      · exact ⟨⟨[], 0, false⟩, fun h => absurd h hi⟩
    obtain ⟨f, hf⟩ := Classical.axiomOfChoice each
    refine ⟨(List.range len).map f, ?_, by simp; omega, ?_⟩
    · refine .inr ⟨by simpa using hp, a.block, a.off, cap, by rw [List.length_map, List.length_range, ← ha], fun k hk => ?_⟩
      have hk' : k < len := by simpa using hk
      have e : ((List.range len).map f)[k] = f k := by simp
      rw [e]
      exact ⟨(hf k hk').1, (hf k hk').2.1, (hf k hk').2.2.1⟩
    · intro y hy
      obtain ⟨k, hk, rfl⟩ := List.mem_map.1 hy
      exact (hf k (List.mem_range.1 hk)).2.2.2
set_option maxRecDepth 20000 in
theorem open_parts {fuel : Nat} {v : Value} {x : DataW H × List MemPlace} (h : DataW.trod enc Tryd.prog w base sp held fuel 22 [v] = some x) : ∃ ts : List Pt, PtsAt w v ts ∧ WideT ts := by
  rcases open_slice Tryd.underlying22 h with ⟨hcs, _⟩ | ⟨a, len, cap, m, n, D, Pl, hcs, _, hl, hm, hmm, _, hel⟩
  · have : v = .slice none 0 0 := by simpa using hcs
    subst this
    exact ⟨[], .inl ⟨rfl, none, 0, rfl⟩, by simp, (fun x hx => by cases hx), fun x hx => by cases hx⟩
  · have hv : v = .slice (some a) len cap := by simpa using hcs
    subst hv
    have hlm : len ≤ m := by rw [hmm]; split <;> omega
    by_cases hp : ¬ 0 < len
    · have : len = 0 := by omega
      subst this
      exact ⟨[], .inl ⟨rfl, some a, cap, rfl⟩, by simp, (fun x hx => by cases hx), fun x hx => by cases hx⟩
    have hp : 0 < len := by omega
    have ha : a = ⟨a.block, a.off, none⟩ := by
      obtain ⟨cs', h1, _⟩ := hel 0 (by omega)
      rw [cellsO45] at h1
      exact first_spot h1
    have each : ∀ i, ∃ y : Pt, i < len → w.cell? ⟨a.block, a.off + i * 3, none⟩ = some (.string ⟨y.lit.toArray⟩) ∧ w.cell? ⟨a.block, a.off + i * 3 + 1, none⟩ = some (.int .u8 y.op.toNat) ∧ (∃ sv, w.cell? ⟨a.block, a.off + i * 3 + 2, none⟩ = some sv ∧ SpecsAt w sv y.specs) ∧ y.lit.length ≤ maxLen ∧ y.specs.length ≤ maxLen ∧ ∀ z ∈ y.specs, z.name.length ≤ maxLen := by
      intro i
      by_cases hi : i < len
      · obtain ⟨cs', h1, h2⟩ := hel i (by omega)
        rw [cellsO45] at h1
        rw [ha] at h1
        obtain ⟨v0, v1, v2, rfl, c0, c1, c2⟩ := three_cells h1
        obtain ⟨y0, y1, y2, k, _, _, t0, t1, t2⟩ := trod_struct3 Tryd.underlying37 h2
        simp only [cellsO9, cellsO5, cellsO43, List.drop_zero, List.drop_succ_cons, List.take_succ_cons, List.take_zero] at t0 t1 t2
        obtain ⟨s0, e0, _, hs0⟩ := DataW.trod_string Tryd.underlying9 t0
        obtain ⟨k1, e1, _, hk1⟩ := DataW.trod_int Tryd.underlying5 t1
        simp only [List.cons.injEq, and_true] at e0 e1
        subst e0 e1
        obtain ⟨xs, hxs, hx1, hx2⟩ := open_specs t2
        have hb := bounds_u8 hk1
        have eo : ((k1.toNat.toUInt8).toNat : Int) = k1 := by
          have : k1.toNat.toUInt8.toNat = k1.toNat := by simp; omega
          rw [this]; omega
        exact ⟨⟨s0.data.toList, k1.toNat.toUInt8, xs⟩, fun _ => ⟨c0, by rw [c1, eo], ⟨v2, c2, hxs⟩, by rw [← size_list]; exact hs0, hx1, hx2⟩⟩
      · exact ⟨⟨[], 0, []⟩, fun h => absurd h hi⟩
    obtain ⟨f, hf⟩ := Classical.axiomOfChoice each
    have hbig : maxLen ≤ 9223372036854775807 := Nat.le_refl _
    refine ⟨(List.range len).map f, ?_, by simp; omega, ?_, ?_⟩
    · refine .inr ⟨by simpa using hp, a.block, a.off, cap, by rw [List.length_map, List.length_range, ← ha], fun k hk => ?_⟩
      have hk' : k < len := by simpa using hk
      have e : ((List.range len).map f)[k] = f k := by simp
      rw [e]
      exact ⟨(hf k hk').1, (hf k hk').2.1, (hf k hk').2.2.1⟩
    · intro y hy
      obtain ⟨k, hk, rfl⟩ := List.mem_map.1 hy
      exact Nat.le_trans (hf k (List.mem_range.1 hk)).2.2.2.2.1 hbig
    · intro y hy
      obtain ⟨k, hk, rfl⟩ := List.mem_map.1 hy
      exact ⟨Nat.le_trans (hf k (List.mem_range.1 hk)).2.2.2.1 hbig, fun z hz => Nat.le_trans ((hf k (List.mem_range.1 hk)).2.2.2.2.2 z hz) hbig⟩
end
end Go.Proofs.YtjbnofljoijnmaaDoor

/-
  The laws, as their final proofs call them.
-/
namespace Go.Proofs.YtjbnofljoijnmaaDoor
open Go.RowKit

theorem byte_of {c : Int} (h0 : 0 ≤ c) (h1 : c ≤ 255) : ((c.toNat.toUInt8).toNat : Int) = c := by
  have : c.toNat.toUInt8.toNat = c.toNat := by simp; omega
  rw [this]; omega
end Go.Proofs.YtjbnofljoijnmaaDoor
