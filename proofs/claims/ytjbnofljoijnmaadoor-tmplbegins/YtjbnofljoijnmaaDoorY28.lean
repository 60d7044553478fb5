/-
  Joined by program out of the texts H12 H13.
-/
import Derived.Test.YtjbnofljoijnmaaDoorY13
import Derived.Test.YtjbnofljoijnmaaDoorY14
import Derived.Test.YtjbnofljoijnmaaDoorY12
import Derived.Test.YtjbnofljoijnmaaDoorY19
import Derived.Maps.OwnSet
import Derived.Maps.AppendAt
import Derived.Deep.AppendLies
import Derived.Test.YtjbnofljoijnmaaDoorY25
import Derived.Test.YtjbnofljoijnmaaDoorY27
/-
  WALKS: the program's Names and Once of layer 7.
-/
namespace Go.Proofs.YtjbnofljoijnmaaDoor
open Go.RowKit Go.Maps

theorem law9 : Keyed Tryd.prog 9 := string_keyed Tryd.underlying9
theorem zero69 (w : World) : (zeroValue 59).run Tryd.prog w = .ok (.agg #[]) w := by kernel_rfl
/-- the names that were seen, as a set -/
def seenD (ns : List (List UInt8)) : DataW Unit := setOf (.agg []) (ns.map Lit.string)
theorem seen_snoc (ns : List (List UInt8)) (n : List UInt8) : seenD (ns ++ [n]) = (seenD ns).put (.string n) (.agg []) := by
  unfold seenD
  rw [List.map_append, List.map_singleton, setOf_snoc]
theorem any_string (x : List UInt8) : ∀ l : List (List UInt8), l.any ((fun y : Lit => y.sameKey (.string x)) ∘ Lit.string) = l.contains x
  | [] => rfl
  | a :: r => by
    rw [List.any_cons, List.contains_cons, any_string x r]
    congr 1
    show (a == x) = (x == a)
    rw [Bool.eq_iff_iff]
    simp only [beq_iff_eq]
    exact eq_comm
theorem has_seen (ns : List (List UInt8)) (n : List UInt8) : Maps.has (seenD ns) (.string n) = ns.contains n := by
  unfold seenD
  rw [has_setOf _ _ _ (fun y hy => by obtain ⟨_, _, rfl⟩ := List.mem_map.1 hy; trivial), List.any_map]
  exact any_string n _
/-- the names, and the set of them, in memory -/
structure Nx (w W : World) (v : Value) (ns : List (List UInt8)) : Prop where
  bel : Below w.heap.size w W
  map : W.ownsMap Tryd.prog 9 unitElem w.heap.size ns.length (seenD ns)
  row : W.ownsRow (w.heap.size + 1) 9 1 v ns.length (strsV ns)
  le : w.heap.size + 1 ≤ W.heap.size
section
variable {w W W' : World} {v v' : Value} {ns : List (List UInt8)}
theorem map_later {P : Program} {k : TypeId} {R : Value → Option (DataW Unit × List MemPlace)} {b n : Nat} {D : DataW Unit} (h : W.ownsMap P k R b n D) (bb : Below W.heap.size W W') : W'.ownsMap P k R b n D := by
  have hl := h.lt
  unfold World.ownsMap at *
  rw [bb.block b hl]
  exact h
theorem Nx.next (h : Nx w W v ns) (bb : Below W.heap.size W W') : Nx w W' v ns := ⟨h.bel.trans (bb.mono h.bel.size), map_later h.map bb, own_later h.row bb, Nat.le_trans h.le bb.size⟩
theorem own_grown {base k : Nat} {n z : Nat} {xs : List Value} {t : TypeId} (h : W.ownsRow base t z v n xs) (hg : W.grownBy W' (some k)) (hk : k < base) : W'.ownsRow base t z v n xs := by
  refine ⟨h.1, ?_⟩
  rcases h.2 with ⟨rfl, h0⟩ | ⟨g, cap, cur, rfl, h1, hb, hn, hm, hs, ht⟩
  · exact .inl ⟨rfl, h0⟩
  · exact .inr ⟨g, cap, cur, rfl, h1, (hg.block g (lt_of_block hb) (fun e => by have := Option.some.inj e; omega)).trans hb, hn, hm, hs, ht⟩
theorem Nx.row1 {W1 W2 : World} (h : Nx w W v ns) (hg : W.grownBy W1 (some w.heap.size)) (bb : Below W1.heap.size W1 W2) (o : Obj) : (W2.alloc o).ownsRow (w.heap.size + 1) 9 1 v ns.length (strsV ns) :=
  (own_later (own_grown h.row hg (by omega)) bb).alloc o
theorem Nx.snoc {W1 W2 W3 : World} {o : Obj} (h : Nx w W v ns) (nm : List UInt8) (hm : W1.ownsMap Tryd.prog 9 unitElem w.heap.size (ns.length + 1) ((seenD ns).put (.string nm) (.agg []))) (hg : W.grownBy W1 (some w.heap.size)) (bb : Below W1.heap.size W1 W2) (hg2 : (W2.alloc o).grownBy W3 v.ownBlock)
    (ho : W3.ownsRow (w.heap.size + 1) 9 1 v' (ns.length + 1) (strsV ns ++ [.string ⟨nm.toArray⟩])) : Nx w W3 v' (ns ++ [nm]) := by
  have hr := h.row1 hg bb o
  have hl : (ns ++ [nm]).length = ns.length + 1 := by simp
  have hle := h.le
  have b1 : Below w.heap.size w W1 := h.bel.grown hg (by omega) (fun j hj => by cases hj; exact Nat.le_refl _)
  have hs1 := hg.size
  have b2 : Below w.heap.size w W2 := b1.trans (bb.mono b1.size)
  have hs2 := bb.size
  have b3 : Below w.heap.size w (W2.alloc o) := b2.alloc b2.size o
  have b4 : Below w.heap.size w W3 := b3.grown hg2 b3.size (fun j hj => by have := (hr.lt j hj).1; omega)
  have hs3 := hg2.size
  refine ⟨b4, ?_, ?_, ?_⟩
  · rw [hl, seen_snoc]
    exact ((map_later hm bb).alloc o).kept hg2 (fun e => by have := (hr.lt _ e.symm).1; omega)
  · rw [hl, strs_snoc]
    exact ho
  · simp at hs3
    omega
theorem Nx.alloc (h : Nx w W v ns) (o : Obj) : Nx w (W.alloc o) v ns := h.next ((Below.refl _ _).alloc (Nat.le_refl _) _)
end
set_option maxRecDepth 20000 in
set_option maxHeartbeats 2000000 in
theorem pnames_any (v : Value) (ts : List Pt) (w : World) (h : PtsAt w v ts) (hsm : SmallT ts) :
    Calls Tryd.prog 13 #[v] w fun e w' => ∃ u, e = .returned u ∧ StrsAt w' u (namesT ts) ∧ Below w.heap.size w w' := by
  obtain ⟨hn, hsz⟩ := hsm
  have hs : ∀ x ∈ ts, x.specs.length ≤ 1000 := fun x hx => (hsz x hx).1
  obtain ⟨i0, hi, hz0, hz1, hz2⟩ := info_parts info9
  obtain ⟨ao, cp, rfl⟩ := h.form
  have H := hide h
  have Hs := hide hs
  have Hsz := hide hsz
  clear h hs hsz
  have hmm := @run_makeMap Tryd.prog
  have N0 : Nx w (w.alloc (.map #[] 0)) (.slice none 0 0) [] := ⟨(Below.refl _ _).alloc (Nat.le_refl _) _, World.ownsMap_made _ _ _ _, World.ownsRow_nil _ _ _ _, by simp⟩
  have HN0 := hide N0
  clear N0
  go_enter Tryd.func13, Tryd.ntmps13
  go_wp2
  go_loopw [3, 14] (fun o i wr => ∃ (k : Nat) (ns : List (List UInt8)) (vo : Option Addr) (vc : Nat), k ≤ ts.length ∧ i = .int .i64 k ∧ namesT (ts.take k) = ns ∧ o = .slice vo ns.length vc ∧ Nx w wr (.slice vo ns.length vc) ns) (fun _ i _ => ts.length - (intOf i).toNat)
  case atStart => exact ⟨0, [], none, 0, Nat.zero_le _, rfl, rfl, rfl, HN0.out⟩
  case round =>
    clear HN0
    obtain ⟨k, ns, vo, vc, hk, rfl, hns, rfl, N⟩ := hrel
    have hB := N.bel
    by_cases hlt : k < ts.length
    · obtain ⟨b, off, cap, a, n, e, hb, h1, h2, h3, h4⟩ := H.out.at k hlt
      cases e
      replace h1 := (hB.cell (p := ⟨b, off + k * 3, none⟩) hb).trans h1
      replace h2 := (hB.cell (p := ⟨b, off + k * 3 + 1, none⟩) hb).trans h2
      replace h3 := (hB.cell (p := ⟨b, off + k * 3 + 2, none⟩) hb).trans h3
      have hK0 := namesK_zero ts k hlt
      rw [hns] at hK0
      obtain ⟨m, em⟩ : ∃ m, ts[k].specs.length = m := ⟨_, rfl⟩
      obtain ⟨x, hx⟩ : ∃ x : ByteArray, (⟨ts[k].lit.toArray⟩ : ByteArray) = x := ⟨_, rfl⟩
      obtain ⟨o, ho⟩ : ∃ o, ts[k].op.toNat = o := ⟨_, rfl⟩
      have hm := Hs.out _ (List.getElem_mem hlt)
      rw [em] at h3 hm h4
      rw [hx] at h1
      rw [ho] at h2
      have HK0 := hide hK0
      have Hem := hide em
      have H4 := hide h4
      have hyk := fun y hy => (Hsz.out _ (List.getElem_mem hlt)).2.2 y hy
      have Hyk := hide hyk
      clear hyk
      have HN := hide (N.alloc (.cells #[.string x, .int .u8 (o : Int), .slice a m n] 37))
      clear hK0 em h4 hns N hx ho hB
      go_wp2
      go_loopw [3, 21] (fun o j wr => ∃ (q : Nat) (ms : List (List UInt8)) (vo : Option Addr) (vc : Nat), q ≤ m ∧ j = .int .i64 q ∧ namesK ts k q hlt = ms ∧ o = .slice vo ms.length vc ∧ Nx w wr (.slice vo ms.length vc) ms) (fun _ j _ => m - (intOf j).toNat)
      case atStart => exact ⟨0, ns, vo, vc, Nat.zero_le _, rfl, HK0.out, rfl, HN.out⟩
      case round =>
        clear HN HK0 h1 h2 h3 hb
        obtain ⟨q, ms, vo, vc, hq, rfl, hms, rfl, N⟩ := hrel
        have hB := N.bel
        by_cases hqm : q < m
        · have hqs : q < ts[k].specs.length := by rw [Hem.out]; exact hqm
          have g4 := H4.out.later hB
          rw [← Hem.out] at g4
          obtain ⟨sb, so, sc, es, hsb, s1, s2, s3⟩ := g4.at q hqs
          rw [Hem.out] at es
          cases es
          have hnx := namesK_next ts k q hlt hqs
          have hln := names_lenK ts Hs.out k q hlt
          have hyl := Hyk.out _ (List.getElem_mem hqs)
          rw [hms] at hnx hln
          obtain ⟨y, hy2⟩ : ∃ y, ts[k].specs[q] = y := ⟨_, rfl⟩
          rw [hy2] at s1 s2 s3 hnx hyl
          obtain ⟨nm, hnm⟩ : ∃ nm, y.name = nm := ⟨_, rfl⟩
          rw [hnm] at s1 hnx hyl
          obtain ⟨mx, hmx⟩ : ∃ mx, y.max = mx := ⟨_, rfl⟩
          obtain ⟨st, hst⟩ : ∃ st, y.star = st := ⟨_, rfl⟩
          rw [hmx] at s2
          rw [hst] at s3
          obtain ⟨X, hX⟩ : ∃ X : ByteArray, (⟨nm.toArray⟩ : ByteArray) = X := ⟨_, rfl⟩
          have hXl : X.data.toList = nm := by rw [← hX]
          have hXs : X.size ≤ 2000000 := by rw [size_list, hXl]; omega
          rw [hX] at s1
          have hkey : keyOf Tryd.prog 9 (.string X) = some (.string nm) := by rw [← hXl]; exact WideMaps.keyOf_string_mk Tryd.underlying9 (by unfold maxLen; omega)
          obtain ⟨cb, hcb⟩ : ∃ cb, ms.contains nm = cb := ⟨_, rfl⟩
          have hhas : Maps.has (seenD ms) (.string nm) = cb := (has_seen ms nm).trans hcb
          have N1 := N.alloc (.cells #[.string X, .int .i64 mx, .bool st] 39)
          have N2 := N1.alloc (.cells #[] 59)
          have Y : Bx ((wr.alloc (.cells #[.string X, .int .i64 mx, .bool st] 39)).alloc (.cells #[] 59)) wr.heap.size #[.string X, .int .i64 mx, .bool st] 39 := (Bx.made _ _ _).later _
          have hle := N.le
          have hml : ms.length ≤ 2000000 := by omega
          have hsn := seen_snoc ms nm
          have Hnx := hide hnx
          have HX := hide hX
          have Hsn := hide hsn
          have HY := hide Y
          cases cb with
          | false =>
            have hadd : addName ms nm = ms ++ [nm] := by unfold addName; rw [if_neg]; rw [hcb]; decide
            have Hadd := hide hadd
            clear hadd hcb hnx hX hXl hsn Y hms hnm hmx hst hy2 g4 hyl hln
            go_wp2_with (first
              | (at_lookup; refine wpList_lookup_own_unit _ rfl _ _ 58 rfl 9 59 law9 Tryd.underlying58 (zero69 _) w.heap.size ms.length (seenD ms) rfl N1.map _ _ rfl hkey ?_)
              | (at_mapUpdate; refine wpList_mapUpdate_own _ rfl _ _ _ 58 rfl 9 59 law9 Tryd.underlying58 (unitElem (H := Unit)) w.heap.size ms.length (seenD ms) rfl N2.map (by unfold maxLen; omega) _ _ _ rfl rfl hkey _ [] unitElem_mk ?_; intro w1 hown1 hgrow1; have Y1 : Bx w1 wr.heap.size #[.string X, .int .i64 mx, .bool st] 39 := (hgrow1.block _ HY.out.lt (fun e => by have := Option.some.inj e; omega)).trans HY.out; obtain ⟨y0, y1, y2⟩ := cells3 Y1)
              | (go_at_call 23; refine (clone_any X _ hXs).mono ?_; rintro e w2 ⟨rfl, b2⟩)
              | (at_builtin; refine wpList_append_lies _ rfl _ _ 32 rfl (w.heap.size + 1) 9 i0 (.string ⟨#[]⟩) 1 16 Tryd.underlying32 hi hz0 hz1 hz2 rfl (by decide) (.slice vo ms.length vc) ms.length (strsV ms) rfl (N2.row1 hgrow1 b2 (.cells #[.string X] 9)) ⟨w2.heap.size, 0, none⟩ 1 1 [.string X] rfl rfl ?c1 ?c2 (by decide) ?c3 ?c4 ?c5 _ rfl ?_))
            case c1 =>
              intro j u hj
              match j, hj with
              | 0, hj => simp at hj; subst hj; simp [Addr.add]
            case c2 => intro u hu; simp at hu; subst hu; rfl
            case c3 => unfold maxLen; omega
            case c4 => omega
            case c5 => have h8 := hgrow1.size; have h9 := b2.size; simp at h8 ⊢; omega
            intro g cap2 w4 hown hgrow hat hlt4
            have N4 := N2.snoc nm hown1 hgrow1 b2 hgrow (by rw [HX.out]; exact hown)
            have HN4 := hide N4
            have hns4 : (ms ++ [nm]).length = ms.length + 1 := by simp
            clear hown hgrow hat hlt4 N4 hown1 hgrow1 b2 Y1 y0 y1 y2 N1 N2
            go_wp2
            go_roundw
            case rel => exact ⟨q + 1, ms ++ [nm], some ⟨g, 0, none⟩, cap2, by omega, by go_num, by rw [Hnx.out, Hadd.out], by rw [hns4], by rw [hns4]; exact HN4.out⟩
            case measure => simp [intOf]; omega
          | true =>
            have hadd : addName ms nm = ms := by unfold addName; rw [if_pos]; exact hcb
            have Hadd := hide hadd
            clear hadd hcb hnx hX hXl hsn Y hms hnm hmx hst hy2 g4 hyl hln
            go_wp2_with (at_lookup; refine wpList_lookup_own_unit _ rfl _ _ 58 rfl 9 59 law9 Tryd.underlying58 (zero69 _) w.heap.size ms.length (seenD ms) rfl N1.map _ _ rfl hkey ?_)
            go_roundw
            case rel => exact ⟨q + 1, ms, vo, vc, by omega, by go_num, by rw [Hnx.out, Hadd.out], rfl, N2⟩
            case measure => simp [intOf]; omega
        · have hqe : q = m := by omega
          subst hqe
          have hall := namesK_all ts k hlt
          rw [Hem.out, hms] at hall
          have Hall := hide hall
          have HN := hide N
          clear hall N hms hB
          go_wp2
          go_roundw
          case rel => exact ⟨k + 1, ms, vo, vc, by omega, by go_num, Hall.out.symm, rfl, HN.out⟩
          case measure => simp [intOf]; omega
    · have hke : k = ts.length := by omega
      have hns2 : namesT ts = ns := by rw [← hns, hke, List.take_length]
      have Hns := hide hns2
      have HN := hide N
      clear hns hns2 N hB
      go_wp2
      all_goals go_ret
      all_goals exact ⟨_, rfl, by rw [Hns.out]; exact StrsAt.of_owns HN.out.row, HN.out.bel⟩
theorem pnames_is (v : Value) (ts : List Pt) (ns : List (List UInt8)) (w : World) (h : PtsAt w v ts) (hsm : SmallT ts) (hn : namesT ts = ns) :
    Calls Tryd.prog 13 #[v] w fun e w' => ∃ a c, e = .returned (.slice a ns.length c) ∧ Below w.heap.size w w' := by
  subst hn
  refine (pnames_any v ts w h hsm).mono ?_
  rintro e w' ⟨u, rfl, hu, hB⟩
  rcases hu with ⟨h0, ao, cap, rfl⟩ | ⟨_, b, off, cap, rfl, _⟩
  · exact ⟨ao, cap, by rw [h0]; rfl, hB⟩
  · exact ⟨_, cap, rfl, hB⟩
set_option maxRecDepth 20000 in
set_option maxHeartbeats 1000000 in
theorem ponce_any (v : Value) (ts : List Pt) (w : World) (h : PtsAt w v ts) (hsm : SmallT ts) :
    Calls Tryd.prog 15 #[v] w fun e w' => e = .returned (.bool (onceT ts)) ∧ Below w.heap.size w w' := by
  have Hsm := hide hsm
  obtain ⟨hn, hsz⟩ := hsm
  have hs : ∀ x ∈ ts, x.specs.length ≤ 1000 := fun x hx => (hsz x hx).1
  obtain ⟨ao, cp, rfl⟩ := h.form
  have H := hide h
  have Hs := hide hs
  obtain ⟨r, hr⟩ : ∃ r, onceT ts = r := ⟨_, rfl⟩
  rw [hr]
  unfold onceT at hr
  have Hr := hide hr
  clear h hs hsz hr
  go_enter Tryd.func15, Tryd.ntmps15
  go_wp2
  go_loopw [3, 8] (fun n i wr => ∃ k : Nat, k ≤ ts.length ∧ i = .int .i64 k ∧ n = .int .i64 (manyK ts k) ∧ Below w.heap.size w wr) (fun _ i _ => ts.length - (intOf i).toNat)
  case atStart => exact ⟨0, by omega, rfl, rfl, Below.refl _ _⟩
  case round =>
    obtain ⟨k, hk, rfl, rfl, hB⟩ := hrel
    have hmk : manyK ts k ≤ 1000 * k := many_le ts Hs.out k
    by_cases hlt : k < ts.length
    · obtain ⟨b, off, cap, a, n, e, hb, h1, h2, h3, h4⟩ := (H.out.later hB).at k hlt
      cases e
      have hm := many_snoc ts k hlt
      have hsk := Hs.out _ (List.getElem_mem hlt)
      obtain ⟨m, em⟩ : ∃ m, ts[k].specs.length = m := ⟨_, rfl⟩
      obtain ⟨x, hx⟩ : ∃ x : ByteArray, (⟨ts[k].lit.toArray⟩ : ByteArray) = x := ⟨_, rfl⟩
      obtain ⟨o, ho⟩ : ∃ o, ts[k].op.toNat = o := ⟨_, rfl⟩
      rw [em] at h3 hm hsk
      rw [hx] at h1
      rw [ho] at h2
      have Hm := hide hm
      have hB2 := hB.alloc hB.size (.cells #[.string x, .int .u8 (o : Int), .slice a m n] 37)
      clear hm h4 em hx ho
      go_wp2
      go_roundw
      case rel => exact ⟨k + 1, by omega, by go_num, by rw [Hm.out]; go_num, hB2⟩
      case measure => simp [intOf]; omega
    · have hke : k = ts.length := by omega
      have e : manyK ts k = manyT ts := by unfold manyK; rw [hke, List.take_length]
      obtain ⟨mt, hmt⟩ : ∃ mt, manyT ts = mt := ⟨_, rfl⟩
      rw [hmt] at e
      rw [e]
      obtain ⟨ns, hns⟩ : ∃ ns, namesT ts = ns := ⟨_, rfl⟩
      have hr := Hr.out
      rw [hns, hmt] at hr
      have Hr2 := hide hr
      have Hns := hide hns
      have HP := hide (H.out.later hB)
      clear hr hns hmt e hmk Hr
      go_wp2_with (go_at_call 13; refine (pnames_is _ ts ns _ HP.out Hsm.out Hns.out).mono ?_; rintro e w1 ⟨a, c, rfl, bb⟩)
      all_goals go_ret
      all_goals exact ⟨ret_bool (by rw [← Hr2.out, Bool.eq_iff_iff]; simp; omega), hB.trans (bb.mono hB.size)⟩
end Go.Proofs.YtjbnofljoijnmaaDoor

/-
  The program's six functions, as the laws use them.
-/
namespace Go.Proofs.YtjbnofljoijnmaaDoor
open Go.RowKit

theorem prg : Prg Rans where
  next := fun _ _ h b => h.next b
  oper := fun c w _ => (poper_any c w).mono fun e w' ⟨h1, h2⟩ => ⟨h1, by rw [h2]; exact Below.refl _ _⟩
  may := fun v ts w R h hs => pmayT_any v ts w R h hs
  put := fun v ts w R h hs hl => pputT_any v ts w R h hs hl
  parse := fun s w R hs => parse_any s w R hs
  names := fun v ts w _ h hs => pnames_any v ts w h hs
  once := fun v ts w _ h hs => ponce_any v ts w h hs
end Go.Proofs.YtjbnofljoijnmaaDoor
