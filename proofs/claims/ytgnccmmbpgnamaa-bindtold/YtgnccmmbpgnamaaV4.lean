/-
  WALKS: the reference's Texts (layer 8).
-/
import Derived.Test.YtgnccmmbpgnamaaV2
import Derived.Deep.AppendLies
import Derived.Deep.RegionHeld3
namespace Go.Proofs.Ytgnccmmbpgnamaa
open Go.RowKit

theorem own_later {W w1 : World} {base : Nat} {v : Value} {n : Nat} {xs : List Value} {t : TypeId} {z : Nat} (h : W.ownsRow base t z v n xs) (bb : Below W.heap.size W w1) : w1.ownsRow base t z v n xs := by
  refine ⟨h.1, ?_⟩
  rcases h.2 with ⟨rfl, h0⟩ | ⟨g, cap, cur, rfl, h1, hg, hn, hm, hs, ht⟩
  · exact .inl ⟨rfl, h0⟩
  · exact .inr ⟨g, cap, cur, rfl, h1, (bb.block g (lt_of_block hg)).trans hg, hn, hm, hs, ht⟩
theorem cells4 {W : World} {b : Nat} {t : TypeId} {x y z u : Value} (h : Bx W b #[x, y, z, u] t) : W.cell? ⟨b, 0, none⟩ = some x ∧ W.cell? ⟨b, 1, none⟩ = some y ∧ W.cell? ⟨b, 2, none⟩ = some z ∧ W.cell? ⟨b, 3, none⟩ = some u := ⟨h.cell 0 x rfl, h.cell 1 y rfl, h.cell 2 z rfl, h.cell 3 u rfl⟩
/-- a value's box, and texts that are gathered -/
structure Gx (w W : World) (k : Int) (S : ByteArray) (sl sp : Value) (v : Value) (ns : List (List UInt8)) : Prop where
  bel : Below w.heap.size w W
  box : Bx W w.heap.size #[.int .i64 k, .string S, sl, sp] 28
  row : W.ownsRow (w.heap.size + 1) 9 1 v ns.length (strsV ns)
section
variable {w W W' : World} {k : Int} {S : ByteArray} {sl sp v v' : Value} {ns ms : List (List UInt8)}
theorem Gx.next (h : Gx w W k S sl sp v ns) (bb : Below W.heap.size W W') : Gx w W' k S sl sp v ns := ⟨h.bel.trans (bb.mono h.bel.size), h.box.next bb, own_later h.row bb⟩
theorem Gx.alloc (h : Gx w W k S sl sp v ns) (o : Obj) : Gx w (W.alloc o) k S sl sp v ns := h.next ((Below.refl _ _).alloc (Nat.le_refl _) _)
theorem Gx.drew (h : Gx w W k S sl sp v ns) : Gx w W.drew k S sl sp v ns := ⟨h.bel.drew, h.box, h.row⟩
theorem Gx.grown {n : Nat} (h : Gx w W k S sl sp v ns) (hg : W.grownBy W' v.ownBlock) (ho : W'.ownsRow (w.heap.size + 1) 9 1 v' n (strsV ns ++ strsV ms)) (hn : ns.length + ms.length = n) : Gx w W' k S sl sp v' (ns ++ ms) := by
  have hl := h.box.lt
  refine ⟨h.bel.grown hg (by omega) (fun j hj => by have := (h.row.lt j hj).1; omega), (hg.block _ hl (fun e => by have := (h.row.lt _ e.symm).1; omega)).trans h.box, ?_⟩
  rw [List.length_append, hn]
  have e : strsV (ns ++ ms) = strsV ns ++ strsV ms := by simp [strsV]
  rw [e]
  exact ho
end
theorem Gx.pair {w W : World} {k : Int} {S : ByteArray} {sl sp v : Value} {ns : List (List UInt8)} (h : Gx w W k S sl sp v ns) {b o : Nat} {X Y : ByteArray} (hb : b < w.heap.size) (g1 : w.cell? ⟨b, o, none⟩ = some (.string X)) (g2 : w.cell? ⟨b, o + 1, none⟩ = some (.string Y)) :
    W.cell? ⟨w.heap.size, 3, none⟩ = some sp ∧ W.cell? ⟨b, o, none⟩ = some (.string X) ∧ W.cell? ⟨b, o + 1, none⟩ = some (.string Y) :=
  ⟨h.box.cell 3 _ rfl, (h.bel.cell (p := ⟨b, o, none⟩) hb).trans g1, (h.bel.cell (p := ⟨b, o + 1, none⟩) hb).trans g2⟩
/-- texts told -/
def TextsPost (w : World) (ts : List (List UInt8)) (e : Ending) (w' : World) : Prop := ∃ a c, e = .returned (.slice a ts.length c) ∧ StrsAt w' (.slice a ts.length c) ts ∧ Below w.heap.size w w'
theorem Gx.told {w W : World} {k : Int} {S : ByteArray} {sl sp : Value} {a : Option Addr} {c n : Nat} {ns ts : List (List UInt8)} (h : Gx w W k S sl sp (.slice a n c) ns) (hn : ns.length = n) (e : ts = ns) : TextsPost w ts (.returned (.slice a n c)) W := by
  subst e
  subst hn
  exact ⟨a, c, rfl, StrsAt.of_owns h.row, h.bel⟩
theorem texts_other {v : Vl} (h1 : v.kind ≠ 1) (h2 : v.kind ≠ 2) (h3 : v.kind ≠ 3) : textsV v = [] := by unfold textsV; rw [if_neg h1, if_neg h2, if_neg h3]
theorem flat_next (p : List (List UInt8 × List UInt8)) (k : Nat) (h : k < p.length) : flatP (p.take (k + 1)) = flatP (p.take k) ++ [p[k].1, p[k].2] := by
  unfold flatP
  rw [List.take_succ_eq_append_getElem h, List.flatMap_append]
  simp
set_option maxRecDepth 20000 in
set_option maxHeartbeats 2000000 in
theorem rtexts_any (x : Value) (v : Vl) (w : World) (H : VlAt w x v) (hl : v.l.length ≤ 1000) (hp : v.p.length ≤ 1000) : Calls Try.prog 36 #[x] w fun e w' => TextsPost w (textsV v) e w' := by
  obtain ⟨i0, hi, hz0, hz1, hz2⟩ := info_parts info9
  obtain ⟨sl, sp, rfl, h1, h2⟩ := H
  obtain ⟨la, lc, rfl⟩ := h1.form
  obtain ⟨pa, pc, rfl⟩ := h2.form
  obtain ⟨S, hS⟩ : ∃ S : ByteArray, (⟨v.s.toArray⟩ : ByteArray) = S := ⟨_, rfl⟩
  rw [hS]
  obtain ⟨k, hk⟩ : ∃ k, v.kind = k := ⟨_, rfl⟩
  rw [hk]
  have H1 := hide h1
  have H2 := hide h2
  have HS := hide hS
  obtain ⟨ts, hts⟩ : ∃ ts, textsV v = ts := ⟨_, rfl⟩
  rw [hts]
  have G0 : Gx w (w.alloc (.cells #[.int .i64 k, .string S, .slice la v.l.length lc, .slice pa v.p.length pc] 28)) k S (.slice la v.l.length lc) (.slice pa v.p.length pc) (.slice none 0 0) [] :=
    ⟨(Below.refl _ _).alloc (Nat.le_refl _) _, Bx.made _ _ _, World.ownsRow_nil _ _ _ _⟩
  have HG0 := hide G0
  have Hts := hide hts
  have Hk := hide hk
  clear h1 h2 hS G0 hts hk
  by_cases hk1 : k = 1
  · have ht : ts = [] ++ [v.s] := by rw [← Hts.out]; unfold textsV; rw [if_pos (Hk.out.trans hk1)]; rfl
    have Ht := hide ht
    subst hk1
    have e : strsV [v.s] = [.string S] := by unfold strsV; rw [List.map_singleton, HS.out]
    have He := hide e
    clear ht e Hts Hk H1 H2 HS
    by_cases hl0 : 0 < v.l.length
    all_goals by_cases hp0 : 0 < v.p.length
    all_goals
      go_enter Try.func36, Try.ntmps36
      go_wp2_with (at_builtin; refine wpList_append_lies _ rfl _ _ 25 rfl (w.heap.size + 1) 9 i0 (.string ⟨#[]⟩) 1 16 Try.underlying25 hi hz0 hz1 hz2 rfl (by decide) (.slice none 0 0) 0 [] rfl (HG0.out.alloc (.cells #[.string S] 9)).row ⟨w.heap.size + 1, 0, none⟩ 1 1 [.string S] rfl rfl ?c1 ?c2 (by decide) ?c3 ?c4 ?c5 _ rfl ?_)
      case c1 =>
        intro j u hj
        match j, hj with
        | 0, hj => simp at hj; subst hj; simp [Addr.add]
      case c2 => intro u hu; simp at hu; subst hu; rfl
      case c3 => unfold maxLen; omega
      case c4 => omega
      case c5 => simp
      intro g cap w4 hown hgrow hat hlt
      have G4 := (HG0.out.alloc (.cells #[.string S] 9)).grown (ms := [v.s]) hgrow (by rw [He.out]; exact hown) rfl
      have HG4 := hide G4
      obtain ⟨x0, x1, x2, x3⟩ := cells4 G4.box
      clear hown hgrow hat hlt G4
      go_wp2
      refine wp_loop_rounds 1 ?_
      rw [rounds_succ]
      go_wp2
      refine wp_loop_rounds 1 ?_
      rw [rounds_succ]
      go_wp2
      go_ret
      exact HG4.out.told rfl Ht.out
  · have hk1f : (k == 1) = false := by simp [hk1]
    by_cases hk2 : k = 2
    · have ht : ts = v.l := by rw [← Hts.out]; unfold textsV; rw [if_neg (by rw [Hk.out]; exact hk1), if_pos (Hk.out.trans hk2)]
      have Ht := hide ht
      subst hk2
      clear ht Hts Hk H2 HS
      go_enter Try.func36, Try.ntmps36
      go_wp2
      go_loopw [3, 4] (fun o i wr => ∃ (q : Nat) (ns : List (List UInt8)) (vo : Option Addr) (vc : Nat), q ≤ v.l.length ∧ i = .int .i64 q ∧ v.l.take q = ns ∧ ns.length = q ∧ o = .slice vo ns.length vc ∧ Gx w wr 2 S (.slice la v.l.length lc) (.slice pa v.p.length pc) (.slice vo ns.length vc) ns) (fun _ i _ => v.l.length - (intOf i).toNat)
      case atStart => exact ⟨0, [], none, 0, Nat.zero_le _, rfl, rfl, rfl, rfl, HG0.out⟩
      case round =>
        clear HG0
        obtain ⟨q, ns, vo, vc, hq, rfl, hns, hnl, rfl, G⟩ := hrel
        obtain ⟨x0, x1, x2, x3⟩ := cells4 G.box
        by_cases hlt : q < v.l.length
        · obtain ⟨b, off, cap, e, hb, g1⟩ := (H1.out.later G.bel).at q hlt
          cases e
          have hnx : v.l.take (q + 1) = ns ++ [v.l[q]] := by rw [List.take_succ_eq_append_getElem hlt, hns]
          obtain ⟨y, hy⟩ : ∃ y, v.l[q] = y := ⟨_, rfl⟩
          rw [hy] at g1 hnx
          obtain ⟨X, hX⟩ : ∃ X : ByteArray, (⟨y.toArray⟩ : ByteArray) = X := ⟨_, rfl⟩
          rw [hX] at g1
          have e : strsV [y] = [.string X] := by unfold strsV; rw [List.map_singleton, hX]
          have He := hide e
          have Hnx := hide hnx
          have HG := hide G
          have hnb : ns.length ≤ 2000 := by omega
          have Hnl := hide hnl
          clear e hnx hy hX hns G hnl
          go_wp2_with (at_builtin; refine wpList_append_lies _ rfl _ _ 25 rfl (w.heap.size + 1) 9 i0 (.string ⟨#[]⟩) 1 16 Try.underlying25 hi hz0 hz1 hz2 rfl (by decide) (.slice vo ns.length vc) ns.length (strsV ns) rfl (HG.out.alloc (.cells #[.string X] 9)).row ⟨wr.heap.size, 0, none⟩ 1 1 [.string X] rfl rfl ?c1 ?c2 (by decide) ?c3 ?c4 ?c5 _ rfl ?_)
          case c1 =>
            intro j u hj
            match j, hj with
            | 0, hj => simp at hj; subst hj; simp [Addr.add]
          case c2 => intro u hu; simp at hu; subst hu; rfl
          case c3 => unfold maxLen; omega
          case c4 => omega
          case c5 => have := HG.out.box.lt; simp; omega
          intro g cap w4 hown hgrow hat hlt4
          have G4 := (HG.out.alloc (.cells #[.string X] 9)).grown (ms := [y]) hgrow (by rw [He.out]; exact hown) rfl
          have HG4 := hide G4
          have hn4 : (ns ++ [y]).length = ns.length + 1 := by simp
          clear hown hgrow hat hlt4 G4
          go_wp2
          go_roundw
          case rel => exact ⟨q + 1, ns ++ [y], some ⟨g, 0, none⟩, cap, by omega, by go_num, Hnx.out, by have := Hnl.out; omega, by rw [hn4], by rw [hn4]; exact HG4.out⟩
          case measure => simp [intOf]; omega
        · have hqe : q = v.l.length := by omega
          have hte : ts = ns := by rw [Ht.out, ← hns, hqe, List.take_length]
          have Hte := hide hte
          have HG := hide G
          clear hte hns G hnl hqe
          by_cases hp0 : 0 < v.p.length
          all_goals
            go_wp2
            refine wp_loop_rounds 1 ?_
            rw [rounds_succ]
            go_wp2
            go_ret
            exact HG.out.told rfl Hte.out
    · have hk2f : (k == 2) = false := by simp [hk2]
      obtain ⟨x0, x1, x2, x3⟩ := cells4 HG0.out.box
      by_cases hk3 : k = 3
      · have ht : ts = flatP v.p := by rw [← Hts.out]; unfold textsV; rw [if_neg (by rw [Hk.out]; exact hk1), if_neg (by rw [Hk.out]; exact hk2), if_pos (Hk.out.trans hk3)]
        have Ht := hide ht
        subst hk3
        clear ht Hts Hk H1 HS
        by_cases hl0 : 0 < v.l.length
        · go_enter Try.func36, Try.ntmps36
          go_wp2
          refine wp_loop_rounds 1 ?_
          rw [rounds_succ]
          go_wp2
          go_loopw [3, 5] (fun o i wr => ∃ (q : Nat) (ns : List (List UInt8)) (vo : Option Addr) (vc : Nat), q ≤ v.p.length ∧ i = .int .i64 q ∧ flatP (v.p.take q) = ns ∧ ns.length = 2 * q ∧ o = .slice vo ns.length vc ∧ Gx w wr 3 S (.slice la v.l.length lc) (.slice pa v.p.length pc) (.slice vo ns.length vc) ns) (fun _ i _ => v.p.length - (intOf i).toNat)
          case atStart => exact ⟨0, [], none, 0, Nat.zero_le _, rfl, rfl, rfl, rfl, HG0.out⟩
          case round =>
            clear x0 x1 x2 x3
            obtain ⟨q, ns, vo, vc, hq, rfl, hns, hnl, rfl, G⟩ := hrel
            obtain ⟨x0, x1, x2, x3⟩ := cells4 G.box
            by_cases hlt : q < v.p.length
            · obtain ⟨b, off, cap, e, hb, g1, g2⟩ := H2.out.at q hlt
              cases e
              have hnx := flat_next v.p q hlt
              rw [hns] at hnx
              obtain ⟨y, hy⟩ : ∃ y, v.p[q] = y := ⟨_, rfl⟩
              rw [hy] at g1 g2 hnx
              obtain ⟨X, hX⟩ : ∃ X : ByteArray, (⟨y.1.toArray⟩ : ByteArray) = X := ⟨_, rfl⟩
              obtain ⟨Y, hY⟩ : ∃ Y : ByteArray, (⟨y.2.toArray⟩ : ByteArray) = Y := ⟨_, rfl⟩
              rw [hX] at g1
              rw [hY] at g2
              have e : strsV [y.1, y.2] = [.string X, .string Y] := by unfold strsV; rw [List.map_cons, List.map_singleton, hX, hY]
              have He := hide e
              have Hnx := hide hnx
              have HG := hide G
              have hqi : (0 : Int) ≤ (q : Int) := by omega
              have hql : (q : Int) < (v.p.length : Int) := by omega
              have hsz := G.box.lt
              have hnb : ns.length ≤ 2000 := by omega
              have Hnl := hide hnl
              have q1 := (HG.out.pair hb g1 g2).2.1
              have q2 := (HG.out.pair hb g1 g2).2.2
              have Hg1 := hide g1
              have Hg2 := hide g2
              clear e hnx hy hX hY hns G hnl g1 g2
              go_wp2
              go_region_held3 (fun W => W.cell? ⟨w.heap.size, 3, none⟩ = some (.slice (some ⟨b, off, none⟩) v.p.length pc) ∧ W.cell? ⟨b, off + q * 2, none⟩ = some (.string X) ∧ W.cell? ⟨b, off + q * 2 + 1, none⟩ = some (.string Y)) (first | exact HG.out.pair hb Hg1.out Hg2.out | exact HG.out.drew.pair hb Hg1.out Hg2.out | exact (HG.out.drew.alloc _).pair hb Hg1.out Hg2.out | exact G4.pair hb Hg1.out Hg2.out | trivial) ((refine step_append_lies _ (by rfl) _ _ 25 (by rfl) (w.heap.size + 1) 9 i0 (.string ⟨#[]⟩) 1 16 Try.underlying25 hi hz0 hz1 hz2 rfl (by decide) (.slice vo ns.length vc) ns.length (strsV ns) (by rfl) (HG.out.drew.alloc (.cells #[.string X, .string Y] 9)).row ⟨wr.heap.size, 0, none⟩ 2 2 [.string X, .string Y] (by rfl) rfl (World.news_of_block (heap_alloc_new _ _)) (by intro u hu; simp at hu; rcases hu with rfl | rfl <;> rfl) (by decide) (by unfold maxLen; omega) (by omega) (by simp; omega) _ rfl ?_; intro g cap w4 hown hgrow hat hlt4; have G4 := (HG.out.drew.alloc (.cells #[.string X, .string Y] 9)).grown (ms := [y.1, y.2]) hgrow (by rw [He.out]; exact hown) rfl; clear hown hgrow hat hlt4))
              have HG4 := hide G4
              have hn4 : (ns ++ [y.1, y.2]).length = ns.length + 2 := by simp
              clear G4
              go_wp2
              go_roundw
              case rel => exact ⟨q + 1, ns ++ [y.1, y.2], some ⟨g, 0, none⟩, cap, by omega, by go_num, Hnx.out, by have := Hnl.out; omega, by rw [hn4], by rw [hn4]; exact HG4.out⟩
              case measure => simp [intOf]; omega
            · have hqe : q = v.p.length := by omega
              have hte : ts = ns := by rw [Ht.out, ← hns, hqe, List.take_length]
              have Hte := hide hte
              have HG := hide G
              clear hte hns G hnl hqe
              go_wp2
              go_ret
              exact HG.out.told rfl Hte.out
        · go_enter Try.func36, Try.ntmps36
          go_wp2
          refine wp_loop_rounds 1 ?_
          rw [rounds_succ]
          go_wp2
          go_loopw [3, 5] (fun o i wr => ∃ (q : Nat) (ns : List (List UInt8)) (vo : Option Addr) (vc : Nat), q ≤ v.p.length ∧ i = .int .i64 q ∧ flatP (v.p.take q) = ns ∧ ns.length = 2 * q ∧ o = .slice vo ns.length vc ∧ Gx w wr 3 S (.slice la v.l.length lc) (.slice pa v.p.length pc) (.slice vo ns.length vc) ns) (fun _ i _ => v.p.length - (intOf i).toNat)
          case atStart => exact ⟨0, [], none, 0, Nat.zero_le _, rfl, rfl, rfl, rfl, HG0.out⟩
          case round =>
            clear x0 x1 x2 x3
            obtain ⟨q, ns, vo, vc, hq, rfl, hns, hnl, rfl, G⟩ := hrel
            obtain ⟨x0, x1, x2, x3⟩ := cells4 G.box
            by_cases hlt : q < v.p.length
            · obtain ⟨b, off, cap, e, hb, g1, g2⟩ := H2.out.at q hlt
              cases e
              have hnx := flat_next v.p q hlt
              rw [hns] at hnx
              obtain ⟨y, hy⟩ : ∃ y, v.p[q] = y := ⟨_, rfl⟩
              rw [hy] at g1 g2 hnx
              obtain ⟨X, hX⟩ : ∃ X : ByteArray, (⟨y.1.toArray⟩ : ByteArray) = X := ⟨_, rfl⟩
              obtain ⟨Y, hY⟩ : ∃ Y : ByteArray, (⟨y.2.toArray⟩ : ByteArray) = Y := ⟨_, rfl⟩
              rw [hX] at g1
              rw [hY] at g2
              have e : strsV [y.1, y.2] = [.string X, .string Y] := by unfold strsV; rw [List.map_cons, List.map_singleton, hX, hY]
              have He := hide e
              have Hnx := hide hnx
              have HG := hide G
              have hqi : (0 : Int) ≤ (q : Int) := by omega
              have hql : (q : Int) < (v.p.length : Int) := by omega
              have hsz := G.box.lt
              have hnb : ns.length ≤ 2000 := by omega
              have Hnl := hide hnl
              have q1 := (HG.out.pair hb g1 g2).2.1
              have q2 := (HG.out.pair hb g1 g2).2.2
              have Hg1 := hide g1
              have Hg2 := hide g2
              clear e hnx hy hX hY hns G hnl g1 g2
              go_wp2
              go_region_held3 (fun W => W.cell? ⟨w.heap.size, 3, none⟩ = some (.slice (some ⟨b, off, none⟩) v.p.length pc) ∧ W.cell? ⟨b, off + q * 2, none⟩ = some (.string X) ∧ W.cell? ⟨b, off + q * 2 + 1, none⟩ = some (.string Y)) (first | exact HG.out.pair hb Hg1.out Hg2.out | exact HG.out.drew.pair hb Hg1.out Hg2.out | exact (HG.out.drew.alloc _).pair hb Hg1.out Hg2.out | exact G4.pair hb Hg1.out Hg2.out | trivial) ((refine step_append_lies _ (by rfl) _ _ 25 (by rfl) (w.heap.size + 1) 9 i0 (.string ⟨#[]⟩) 1 16 Try.underlying25 hi hz0 hz1 hz2 rfl (by decide) (.slice vo ns.length vc) ns.length (strsV ns) (by rfl) (HG.out.drew.alloc (.cells #[.string X, .string Y] 9)).row ⟨wr.heap.size, 0, none⟩ 2 2 [.string X, .string Y] (by rfl) rfl (World.news_of_block (heap_alloc_new _ _)) (by intro u hu; simp at hu; rcases hu with rfl | rfl <;> rfl) (by decide) (by unfold maxLen; omega) (by omega) (by simp; omega) _ rfl ?_; intro g cap w4 hown hgrow hat hlt4; have G4 := (HG.out.drew.alloc (.cells #[.string X, .string Y] 9)).grown (ms := [y.1, y.2]) hgrow (by rw [He.out]; exact hown) rfl; clear hown hgrow hat hlt4))
              have HG4 := hide G4
              have hn4 : (ns ++ [y.1, y.2]).length = ns.length + 2 := by simp
              clear G4
              go_wp2
              go_roundw
              case rel => exact ⟨q + 1, ns ++ [y.1, y.2], some ⟨g, 0, none⟩, cap, by omega, by go_num, Hnx.out, by have := Hnl.out; omega, by rw [hn4], by rw [hn4]; exact HG4.out⟩
              case measure => simp [intOf]; omega
            · have hqe : q = v.p.length := by omega
              have hte : ts = ns := by rw [Ht.out, ← hns, hqe, List.take_length]
              have Hte := hide hte
              have HG := hide G
              clear hte hns G hnl hqe
              go_wp2
              go_ret
              exact HG.out.told rfl Hte.out
      · have hk3f : (k == 3) = false := by simp [hk3]
        have ht : ts = [] := by rw [← Hts.out]; exact texts_other (by rw [Hk.out]; exact hk1) (by rw [Hk.out]; exact hk2) (by rw [Hk.out]; exact hk3)
        have Ht := hide ht
        clear ht Hts Hk H1 H2 HS
        by_cases hl0 : 0 < v.l.length
        all_goals by_cases hp0 : 0 < v.p.length
        all_goals
          go_enter Try.func36, Try.ntmps36
          go_wp2
          refine wp_loop_rounds 1 ?_
          rw [rounds_succ]
          go_wp2
          refine wp_loop_rounds 1 ?_
          rw [rounds_succ]
          go_wp2
          go_ret
          exact HG0.out.told rfl Ht.out
end Go.Proofs.Ytgnccmmbpgnamaa
