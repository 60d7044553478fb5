/-
  TEXTS JOINED: V4, V5, V7, V8, V9, V10.
-/
import Derived.Deep.AppendLies
import Derived.Deep.RegionHeld3
import Derived.WalkLawsBesides
import Derived.Test.YtpfcfadbilaleaaQ11
/-
  WALKS: the reference's Texts (layer 8).
-/
namespace Go.Proofs.Ytpfcfadbilaleaa
open Go.RowKit

theorem own_later {W w1 : World} {base : Nat} {v : Value} {n : Nat} {xs : List Value} {t : TypeId} {z : Nat} (h : W.ownsRow base t z v n xs) (bb : Below W.heap.size W w1) : w1.ownsRow base t z v n xs := by
  refine ⟨h.1, ?_⟩
  rcases h.2 with ⟨rfl, h0⟩ | ⟨g, cap, cur, rfl, h1, hg, hn, hm, hs, ht⟩
  · exact .inl ⟨rfl, h0⟩
  · exact .inr ⟨g, cap, cur, rfl, h1, (bb.block g (lt_of_block hg)).trans hg, hn, hm, hs, ht⟩
theorem cells4 {W : World} {b : Nat} {t : TypeId} {x y z u : Value} (h : Bx W b #[x, y, z, u] t) : W.cell? ⟨b, 0, none⟩ = some x ∧ W.cell? ⟨b, 1, none⟩ = some y ∧ W.cell? ⟨b, 2, none⟩ = some z ∧ W.cell? ⟨b, 3, none⟩ = some u := ⟨h.cell 0 x rfl, h.cell 1 y rfl, h.cell 2 z rfl, h.cell 3 u rfl⟩
/-- a value's box, and texts that are gathered -/
structure Gx (w W : World) (k : Int) (S : ByteArray) (sl sp : Value) (v : Value) (ns : List (List UInt8)) : Prop where
  bel : Below w.heap.size w W
  box : Bx W w.heap.size #[.int .i64 k, .string S, sl, sp] 27
  row : W.ownsRow (w.heap.size + 1) 9 1 v ns.length (strsV ns)
section
variable {w W W' : World} {k : Int} {S : ByteArray} {sl sp v v' : Value} {ns ms : List (List UInt8)}
theorem Gx.next (h : Gx w W k S sl sp v ns) (bb : Below W.heap.size W W') : Gx w W' k S sl sp v ns := ⟨h.bel.trans (bb.mono h.bel.size), h.box.next bb, own_later h.row bb⟩
theorem Gx.alloc (h : Gx w W k S sl sp v ns) (o : Obj) : Gx w (W.alloc o) k S sl sp v ns := h.next ((Below.refl _ _).alloc (Nat.le_refl _) _)
theorem Gx.drew (h : Gx w W k S sl sp v ns) : Gx w W.drew k S sl sp v ns := ⟨h.bel.drew, h.box, h.row⟩
theorem Gx.grown {n : Nat} (h : Gx w W k S sl sp v ns) (hg : W.grownBy W' v.ownBlock) (ho : W'.ownsRow (w.heap.size + 1) 9 1 v' n (strsV ns ++ strsV ms)) (hn : ns.length + ms.length = n) : Gx w W' k S sl sp v' (ns ++ ms) := by
  have hl := h.box.lt
  refine ⟨h.bel.grown hg (by omega) (fun j hj => by have := (h.row.lt j hj).1; omega), (hg.block _ hl (fun e => by have := (h.row.lt _ e.symm).1; omega)).trans h.box, ?_⟩
  rw [List.length_append, hn]
  have e : strsV (ns ++ ms) = strsV ns ++ strsV ms := by simp [strsV]
  rw [e]
  exact ho
end
theorem Gx.pair {w W : World} {k : Int} {S : ByteArray} {sl sp v : Value} {ns : List (List UInt8)} (h : Gx w W k S sl sp v ns) {b o : Nat} {X Y : ByteArray} (hb : b < w.heap.size) (g1 : w.cell? ⟨b, o, none⟩ = some (.string X)) (g2 : w.cell? ⟨b, o + 1, none⟩ = some (.string Y)) :
    W.cell? ⟨w.heap.size, 3, none⟩ = some sp ∧ W.cell? ⟨b, o, none⟩ = some (.string X) ∧ W.cell? ⟨b, o + 1, none⟩ = some (.string Y) :=
  ⟨h.box.cell 3 _ rfl, (h.bel.cell (p := ⟨b, o, none⟩) hb).trans g1, (h.bel.cell (p := ⟨b, o + 1, none⟩) hb).trans g2⟩
/-- texts told -/
def TextsPost (w : World) (ts : List (List UInt8)) (e : Ending) (w' : World) : Prop := ∃ a c, e = .returned (.slice a ts.length c) ∧ StrsAt w' (.slice a ts.length c) ts ∧ Below w.heap.size w w'
theorem Gx.told {w W : World} {k : Int} {S : ByteArray} {sl sp : Value} {a : Option Addr} {c n : Nat} {ns ts : List (List UInt8)} (h : Gx w W k S sl sp (.slice a n c) ns) (hn : ns.length = n) (e : ts = ns) : TextsPost w ts (.returned (.slice a n c)) W := by
  subst e
  subst hn
  exact ⟨a, c, rfl, StrsAt.of_owns h.row, h.bel⟩
theorem texts_other {v : Vl} (h1 : v.kind ≠ 1) (h2 : v.kind ≠ 2) (h3 : v.kind ≠ 3) : textsV v = [] := by unfold textsV; rw [if_neg h1, if_neg h2, if_neg h3]
theorem flat_next (p : List (List UInt8 × List UInt8)) (k : Nat) (h : k < p.length) : flatP (p.take (k + 1)) = flatP (p.take k) ++ [p[k].1, p[k].2] := by
  unfold flatP
  rw [List.take_succ_eq_append_getElem h, List.flatMap_append]
  simp
set_option maxRecDepth 20000 in
set_option maxHeartbeats 2000000 in
theorem rtexts_any (x : Value) (v : Vl) (w : World) (H : VlAt w x v) (hl : v.l.length ≤ 1000) (hp : v.p.length ≤ 1000) : Calls Try.prog 33 #[x] w fun e w' => TextsPost w (textsV v) e w' := by
  obtain ⟨i0, hi, hz0, hz1, hz2⟩ := info_parts info9
  obtain ⟨sl, sp, rfl, h1, h2⟩ := H
  obtain ⟨la, lc, rfl⟩ := h1.form
  obtain ⟨pa, pc, rfl⟩ := h2.form
  obtain ⟨S, hS⟩ : ∃ S : ByteArray, (⟨v.s.toArray⟩ : ByteArray) = S := ⟨_, rfl⟩
  rw [hS]
  obtain ⟨k, hk⟩ : ∃ k, v.kind = k := ⟨_, rfl⟩
  rw [hk]
  have H1 := hide h1
  have H2 := hide h2
  have HS := hide hS
  obtain ⟨ts, hts⟩ : ∃ ts, textsV v = ts := ⟨_, rfl⟩
  rw [hts]
  have G0 : Gx w (w.alloc (.cells #[.int .i64 k, .string S, .slice la v.l.length lc, .slice pa v.p.length pc] 27)) k S (.slice la v.l.length lc) (.slice pa v.p.length pc) (.slice none 0 0) [] :=
    ⟨(Below.refl _ _).alloc (Nat.le_refl _) _, Bx.made _ _ _, World.ownsRow_nil _ _ _ _⟩
  have HG0 := hide G0
  have Hts := hide hts
  have Hk := hide hk
  clear h1 h2 hS G0 hts hk
  by_cases hk1 : k = 1
  · have ht : ts = [] ++ [v.s] := by rw [← Hts.out]; unfold textsV; rw [if_pos (Hk.out.trans hk1)]; rfl
    have Ht := hide ht
    subst hk1
    have e : strsV [v.s] = [.string S] := by unfold strsV; rw [List.map_singleton, HS.out]
    have He := hide e
    clear ht e Hts Hk H1 H2 HS
    by_cases hl0 : 0 < v.l.length
    all_goals by_cases hp0 : 0 < v.p.length
    all_goals
      go_enter Try.func33, Try.ntmps33
      go_wp2_with (at_builtin; refine wpList_append_lies _ rfl _ _ 24 rfl (w.heap.size + 1) 9 i0 (.string ⟨#[]⟩) 1 16 Try.underlying24 hi hz0 hz1 hz2 rfl (by decide) (.slice none 0 0) 0 [] rfl (HG0.out.alloc (.cells #[.string S] 9)).row ⟨w.heap.size + 1, 0, none⟩ 1 1 [.string S] rfl rfl ?c1 ?c2 (by decide) ?c3 ?c4 ?c5 _ rfl ?_)
      case c1 =>
        intro j u hj
        match j, hj with
        | 0, hj => simp at hj; subst hj; simp [Addr.add]
      case c2 => intro u hu; simp at hu; subst hu; rfl
      case c3 => unfold maxLen; omega
      case c4 => omega
      case c5 => simp
      intro g cap w4 hown hgrow hat hlt
      have G4 := (HG0.out.alloc (.cells #[.string S] 9)).grown (ms := [v.s]) hgrow (by rw [He.out]; exact hown) rfl
      have HG4 := hide G4
      obtain ⟨x0, x1, x2, x3⟩ := cells4 G4.box
      clear hown hgrow hat hlt G4
      go_wp2
      refine wp_loop_rounds 1 ?_
      rw [rounds_succ]
      go_wp2
      refine wp_loop_rounds 1 ?_
      rw [rounds_succ]
      go_wp2
      go_ret
      exact HG4.out.told rfl Ht.out
  · have hk1f : (k == 1) = false := by simp [hk1]
    by_cases hk2 : k = 2
    · have ht : ts = v.l := by rw [← Hts.out]; unfold textsV; rw [if_neg (by rw [Hk.out]; exact hk1), if_pos (Hk.out.trans hk2)]
      have Ht := hide ht
      subst hk2
      clear ht Hts Hk H2 HS
      go_enter Try.func33, Try.ntmps33
      go_wp2
      go_loopw [3, 4] (fun o i wr => ∃ (q : Nat) (ns : List (List UInt8)) (vo : Option Addr) (vc : Nat), q ≤ v.l.length ∧ i = .int .i64 q ∧ v.l.take q = ns ∧ ns.length = q ∧ o = .slice vo ns.length vc ∧ Gx w wr 2 S (.slice la v.l.length lc) (.slice pa v.p.length pc) (.slice vo ns.length vc) ns) (fun _ i _ => v.l.length - (intOf i).toNat)
      case atStart => exact ⟨0, [], none, 0, Nat.zero_le _, rfl, rfl, rfl, rfl, HG0.out⟩
      case round =>
        clear HG0
        obtain ⟨q, ns, vo, vc, hq, rfl, hns, hnl, rfl, G⟩ := hrel
        obtain ⟨x0, x1, x2, x3⟩ := cells4 G.box
        by_cases hlt : q < v.l.length
        · obtain ⟨b, off, cap, e, hb, g1⟩ := (H1.out.later G.bel).at q hlt
          cases e
          have hnx : v.l.take (q + 1) = ns ++ [v.l[q]] := by rw [List.take_succ_eq_append_getElem hlt, hns]
          obtain ⟨y, hy⟩ : ∃ y, v.l[q] = y := ⟨_, rfl⟩
          rw [hy] at g1 hnx
          obtain ⟨X, hX⟩ : ∃ X : ByteArray, (⟨y.toArray⟩ : ByteArray) = X := ⟨_, rfl⟩
          rw [hX] at g1
          have e : strsV [y] = [.string X] := by unfold strsV; rw [List.map_singleton, hX]
          have He := hide e
          have Hnx := hide hnx
          have HG := hide G
          have hnb : ns.length ≤ 2000 := by omega
          have Hnl := hide hnl
          clear e hnx hy hX hns G hnl
          go_wp2_with (at_builtin; refine wpList_append_lies _ rfl _ _ 24 rfl (w.heap.size + 1) 9 i0 (.string ⟨#[]⟩) 1 16 Try.underlying24 hi hz0 hz1 hz2 rfl (by decide) (.slice vo ns.length vc) ns.length (strsV ns) rfl (HG.out.alloc (.cells #[.string X] 9)).row ⟨wr.heap.size, 0, none⟩ 1 1 [.string X] rfl rfl ?c1 ?c2 (by decide) ?c3 ?c4 ?c5 _ rfl ?_)
          case c1 =>
            intro j u hj
            match j, hj with
            | 0, hj => simp at hj; subst hj; simp [Addr.add]
          case c2 => intro u hu; simp at hu; subst hu; rfl
          case c3 => unfold maxLen; omega
          case c4 => omega
          case c5 => have := HG.out.box.lt; simp; omega
          intro g cap w4 hown hgrow hat hlt4
          have G4 := (HG.out.alloc (.cells #[.string X] 9)).grown (ms := [y]) hgrow (by rw [He.out]; exact hown) rfl
          have HG4 := hide G4
          have hn4 : (ns ++ [y]).length = ns.length + 1 := by simp
          clear hown hgrow hat hlt4 G4
          go_wp2
          go_roundw
          case rel => exact ⟨q + 1, ns ++ [y], some ⟨g, 0, none⟩, cap, by omega, by go_num, Hnx.out, by have := Hnl.out; omega, by rw [hn4], by rw [hn4]; exact HG4.out⟩
          case measure => simp [intOf]; omega
        · have hqe : q = v.l.length := by omega
          have hte : ts = ns := by rw [Ht.out, ← hns, hqe, List.take_length]
          have Hte := hide hte
          have HG := hide G
          clear hte hns G hnl hqe
          by_cases hp0 : 0 < v.p.length
          all_goals
            go_wp2
            refine wp_loop_rounds 1 ?_
            rw [rounds_succ]
            go_wp2
            go_ret
            exact HG.out.told rfl Hte.out
    · have hk2f : (k == 2) = false := by simp [hk2]
      obtain ⟨x0, x1, x2, x3⟩ := cells4 HG0.out.box
      by_cases hk3 : k = 3
      · have ht : ts = flatP v.p := by rw [← Hts.out]; unfold textsV; rw [if_neg (by rw [Hk.out]; exact hk1), if_neg (by rw [Hk.out]; exact hk2), if_pos (Hk.out.trans hk3)]
        have Ht := hide ht
        subst hk3
        clear ht Hts Hk H1 HS
        by_cases hl0 : 0 < v.l.length
        · go_enter Try.func33, Try.ntmps33
          go_wp2
          refine wp_loop_rounds 1 ?_
          rw [rounds_succ]
          go_wp2
          go_loopw [3, 5] (fun o i wr => ∃ (q : Nat) (ns : List (List UInt8)) (vo : Option Addr) (vc : Nat), q ≤ v.p.length ∧ i = .int .i64 q ∧ flatP (v.p.take q) = ns ∧ ns.length = 2 * q ∧ o = .slice vo ns.length vc ∧ Gx w wr 3 S (.slice la v.l.length lc) (.slice pa v.p.length pc) (.slice vo ns.length vc) ns) (fun _ i _ => v.p.length - (intOf i).toNat)
          case atStart => exact ⟨0, [], none, 0, Nat.zero_le _, rfl, rfl, rfl, rfl, HG0.out⟩
          case round =>
            clear x0 x1 x2 x3
            obtain ⟨q, ns, vo, vc, hq, rfl, hns, hnl, rfl, G⟩ := hrel
            obtain ⟨x0, x1, x2, x3⟩ := cells4 G.box
            by_cases hlt : q < v.p.length
            · obtain ⟨b, off, cap, e, hb, g1, g2⟩ := H2.out.at q hlt
              cases e
              have hnx := flat_next v.p q hlt
              rw [hns] at hnx
              obtain ⟨y, hy⟩ : ∃ y, v.p[q] = y := ⟨_, rfl⟩
              rw [hy] at g1 g2 hnx
              obtain ⟨X, hX⟩ : ∃ X : ByteArray, (⟨y.1.toArray⟩ : ByteArray) = X := ⟨_, rfl⟩
              obtain ⟨Y, hY⟩ : ∃ Y : ByteArray, (⟨y.2.toArray⟩ : ByteArray) = Y := ⟨_, rfl⟩
              rw [hX] at g1
              rw [hY] at g2
              have e : strsV [y.1, y.2] = [.string X, .string Y] := by unfold strsV; rw [List.map_cons, List.map_singleton, hX, hY]
              have He := hide e
              have Hnx := hide hnx
              have HG := hide G
              have hqi : (0 : Int) ≤ (q : Int) := by omega
              have hql : (q : Int) < (v.p.length : Int) := by omega
              have hsz := G.box.lt
              have hnb : ns.length ≤ 2000 := by omega
              have Hnl := hide hnl
              have q1 := (HG.out.pair hb g1 g2).2.1
              have q2 := (HG.out.pair hb g1 g2).2.2
              have Hg1 := hide g1
              have Hg2 := hide g2
              clear e hnx hy hX hY hns G hnl g1 g2
              go_wp2
              go_region_held3 (fun W => W.cell? ⟨w.heap.size, 3, none⟩ = some (.slice (some ⟨b, off, none⟩) v.p.length pc) ∧ W.cell? ⟨b, off + q * 2, none⟩ = some (.string X) ∧ W.cell? ⟨b, off + q * 2 + 1, none⟩ = some (.string Y)) (first | exact HG.out.pair hb Hg1.out Hg2.out | exact HG.out.drew.pair hb Hg1.out Hg2.out | exact (HG.out.drew.alloc _).pair hb Hg1.out Hg2.out | exact G4.pair hb Hg1.out Hg2.out | trivial) ((refine step_append_lies _ (by rfl) _ _ 24 (by rfl) (w.heap.size + 1) 9 i0 (.string ⟨#[]⟩) 1 16 Try.underlying24 hi hz0 hz1 hz2 rfl (by decide) (.slice vo ns.length vc) ns.length (strsV ns) (by rfl) (HG.out.drew.alloc (.cells #[.string X, .string Y] 9)).row ⟨wr.heap.size, 0, none⟩ 2 2 [.string X, .string Y] (by rfl) rfl (World.news_of_block (heap_alloc_new _ _)) (by intro u hu; simp at hu; rcases hu with rfl | rfl <;> rfl) (by decide) (by unfold maxLen; omega) (by omega) (by simp; omega) _ rfl ?_; intro g cap w4 hown hgrow hat hlt4; have G4 := (HG.out.drew.alloc (.cells #[.string X, .string Y] 9)).grown (ms := [y.1, y.2]) hgrow (by rw [He.out]; exact hown) rfl; clear hown hgrow hat hlt4))
              have HG4 := hide G4
              have hn4 : (ns ++ [y.1, y.2]).length = ns.length + 2 := by simp
              clear G4
              go_wp2
              go_roundw
              case rel => exact ⟨q + 1, ns ++ [y.1, y.2], some ⟨g, 0, none⟩, cap, by omega, by go_num, Hnx.out, by have := Hnl.out; omega, by rw [hn4], by rw [hn4]; exact HG4.out⟩
              case measure => simp [intOf]; omega
            · have hqe : q = v.p.length := by omega
              have hte : ts = ns := by rw [Ht.out, ← hns, hqe, List.take_length]
              have Hte := hide hte
              have HG := hide G
              clear hte hns G hnl hqe
              go_wp2
              go_ret
              exact HG.out.told rfl Hte.out
        · go_enter Try.func33, Try.ntmps33
          go_wp2
          refine wp_loop_rounds 1 ?_
          rw [rounds_succ]
          go_wp2
          go_loopw [3, 5] (fun o i wr => ∃ (q : Nat) (ns : List (List UInt8)) (vo : Option Addr) (vc : Nat), q ≤ v.p.length ∧ i = .int .i64 q ∧ flatP (v.p.take q) = ns ∧ ns.length = 2 * q ∧ o = .slice vo ns.length vc ∧ Gx w wr 3 S (.slice la v.l.length lc) (.slice pa v.p.length pc) (.slice vo ns.length vc) ns) (fun _ i _ => v.p.length - (intOf i).toNat)
          case atStart => exact ⟨0, [], none, 0, Nat.zero_le _, rfl, rfl, rfl, rfl, HG0.out⟩
          case round =>
            clear x0 x1 x2 x3
            obtain ⟨q, ns, vo, vc, hq, rfl, hns, hnl, rfl, G⟩ := hrel
            obtain ⟨x0, x1, x2, x3⟩ := cells4 G.box
            by_cases hlt : q < v.p.length
            · obtain ⟨b, off, cap, e, hb, g1, g2⟩ := H2.out.at q hlt
              cases e
              have hnx := flat_next v.p q hlt
              rw [hns] at hnx
              obtain ⟨y, hy⟩ : ∃ y, v.p[q] = y := ⟨_, rfl⟩
              rw [hy] at g1 g2 hnx
              obtain ⟨X, hX⟩ : ∃ X : ByteArray, (⟨y.1.toArray⟩ : ByteArray) = X := ⟨_, rfl⟩
              obtain ⟨Y, hY⟩ : ∃ Y : ByteArray, (⟨y.2.toArray⟩ : ByteArray) = Y := ⟨_, rfl⟩
              rw [hX] at g1
              rw [hY] at g2
              have e : strsV [y.1, y.2] = [.string X, .string Y] := by unfold strsV; rw [List.map_cons, List.map_singleton, hX, hY]
              have He := hide e
              have Hnx := hide hnx
              have HG := hide G
              have hqi : (0 : Int) ≤ (q : Int) := by omega
              have hql : (q : Int) < (v.p.length : Int) := by omega
              have hsz := G.box.lt
              have hnb : ns.length ≤ 2000 := by omega
              have Hnl := hide hnl
              have q1 := (HG.out.pair hb g1 g2).2.1
              have q2 := (HG.out.pair hb g1 g2).2.2
              have Hg1 := hide g1
              have Hg2 := hide g2
              clear e hnx hy hX hY hns G hnl g1 g2
              go_wp2
              go_region_held3 (fun W => W.cell? ⟨w.heap.size, 3, none⟩ = some (.slice (some ⟨b, off, none⟩) v.p.length pc) ∧ W.cell? ⟨b, off + q * 2, none⟩ = some (.string X) ∧ W.cell? ⟨b, off + q * 2 + 1, none⟩ = some (.string Y)) (first | exact HG.out.pair hb Hg1.out Hg2.out | exact HG.out.drew.pair hb Hg1.out Hg2.out | exact (HG.out.drew.alloc _).pair hb Hg1.out Hg2.out | exact G4.pair hb Hg1.out Hg2.out | trivial) ((refine step_append_lies _ (by rfl) _ _ 24 (by rfl) (w.heap.size + 1) 9 i0 (.string ⟨#[]⟩) 1 16 Try.underlying24 hi hz0 hz1 hz2 rfl (by decide) (.slice vo ns.length vc) ns.length (strsV ns) (by rfl) (HG.out.drew.alloc (.cells #[.string X, .string Y] 9)).row ⟨wr.heap.size, 0, none⟩ 2 2 [.string X, .string Y] (by rfl) rfl (World.news_of_block (heap_alloc_new _ _)) (by intro u hu; simp at hu; rcases hu with rfl | rfl <;> rfl) (by decide) (by unfold maxLen; omega) (by omega) (by simp; omega) _ rfl ?_; intro g cap w4 hown hgrow hat hlt4; have G4 := (HG.out.drew.alloc (.cells #[.string X, .string Y] 9)).grown (ms := [y.1, y.2]) hgrow (by rw [He.out]; exact hown) rfl; clear hown hgrow hat hlt4))
              have HG4 := hide G4
              have hn4 : (ns ++ [y.1, y.2]).length = ns.length + 2 := by simp
              clear G4
              go_wp2
              go_roundw
              case rel => exact ⟨q + 1, ns ++ [y.1, y.2], some ⟨g, 0, none⟩, cap, by omega, by go_num, Hnx.out, by have := Hnl.out; omega, by rw [hn4], by rw [hn4]; exact HG4.out⟩
              case measure => simp [intOf]; omega
            · have hqe : q = v.p.length := by omega
              have hte : ts = ns := by rw [Ht.out, ← hns, hqe, List.take_length]
              have Hte := hide hte
              have HG := hide G
              clear hte hns G hnl hqe
              go_wp2
              go_ret
              exact HG.out.told rfl Hte.out
      · have hk3f : (k == 3) = false := by simp [hk3]
        have ht : ts = [] := by rw [← Hts.out]; exact texts_other (by rw [Hk.out]; exact hk1) (by rw [Hk.out]; exact hk2) (by rw [Hk.out]; exact hk3)
        have Ht := hide ht
        clear ht Hts Hk H1 H2 HS
        by_cases hl0 : 0 < v.l.length
        all_goals by_cases hp0 : 0 < v.p.length
        all_goals
          go_enter Try.func33, Try.ntmps33
          go_wp2
          refine wp_loop_rounds 1 ?_
          rw [rounds_succ]
          go_wp2
          refine wp_loop_rounds 1 ?_
          rw [rounds_succ]
          go_wp2
          go_ret
          exact HG0.out.told rfl Ht.out
end Go.Proofs.Ytpfcfadbilaleaa
/-
  WALKS: the reference's Of (layer 8).
-/
namespace Go.Proofs.Ytpfcfadbilaleaa
open Go.RowKit

/-- the slice lies in no elder block -/
def Newly (n : Nat) (v : Value) : Prop := ∀ b off k c, v = .slice (some ⟨b, off, none⟩) k c → n ≤ b
theorem Newly.none (n k c : Nat) : Newly n (.slice none k c) := fun _ _ _ _ e => by cases e
theorem Newly.of_owns {n : Nat} {w : World} {base z m : Nat} {t : TypeId} {v : Value} {xs : List Value} (h : w.ownsRow base t z v m xs) (hb : n ≤ base) : Newly n v := by
  intro b off k c e
  subst e
  rcases h.2 with ⟨e, _⟩ | ⟨g, cap, cur, e, h1, _⟩
  · cases e
  · cases e; omega
/-- the result's cell, and the value that is made, in memory -/
structure Ox (w W : World) (y0 y1 y2 y3 : Value) : Prop where
  bel : Below w.heap.size w W
  res : Bx W w.heap.size #[.int .i64 0, .string ⟨#[]⟩, .slice none 0 0, .slice none 0 0] 27
  val : Bx W (w.heap.size + 1) #[y0, y1, y2, y3] 27
section
variable {w W W' : World} {y0 y1 y2 y3 : Value}
theorem Ox.next (h : Ox w W y0 y1 y2 y3) (bb : Below W.heap.size W W') : Ox w W' y0 y1 y2 y3 := ⟨h.bel.trans (bb.mono h.bel.size), h.res.next bb, h.val.next bb⟩
theorem Ox.drew (h : Ox w W y0 y1 y2 y3) : Ox w W.drew y0 y1 y2 y3 := ⟨h.bel.drew, h.res, h.val⟩
theorem Ox.alloc (h : Ox w W y0 y1 y2 y3) (o : Obj) : Ox w (W.alloc o) y0 y1 y2 y3 := h.next ((Below.refl _ _).alloc (Nat.le_refl _) _)
theorem Ox.grown {base n z : Nat} {t : TypeId} {v : Value} {xs : List Value} (h : Ox w W y0 y1 y2 y3) (ho : W.ownsRow base t z v n xs) (hb : w.heap.size + 1 < base) (hg : W.grownBy W' v.ownBlock) : Ox w W' y0 y1 y2 y3 := by
  have hl := h.val.lt
  have hr : ∀ i, i < base → some i ≠ v.ownBlock := fun i hi e => by have := (ho.lt i e.symm).1; omega
  exact ⟨h.bel.grown hg (by omega) (fun j hj => by have := (ho.lt j hj).1; omega), (hg.block _ (by omega) (hr _ (by omega))).trans h.res, (hg.block _ hl (hr _ hb)).trans h.val⟩
theorem Ox.put2 (h : Ox w W y0 y1 y2 y3) (u : Value) : Ox w (W.setCell ⟨w.heap.size + 1, 2, none⟩ u) y0 y1 u y3 := ⟨h.bel.setCell (p := ⟨_, 2, none⟩) (by simp) _, h.res.other (by omega) 2 u, h.val.put 2 u⟩
theorem Ox.put3 (h : Ox w W y0 y1 y2 y3) (u : Value) : Ox w (W.setCell ⟨w.heap.size + 1, 3, none⟩ u) y0 y1 y2 u := ⟨h.bel.setCell (p := ⟨_, 3, none⟩) (by simp) _, h.res.other (by omega) 3 u, h.val.put 3 u⟩
end
def twoV (q : List UInt8 × List UInt8) : List Value := [.string ⟨q.1.toArray⟩, .string ⟨q.2.toArray⟩]
def pairsV (ps : List (List UInt8 × List UInt8)) : List Value := ps.flatMap twoV
theorem two_at : ∀ (ps : List (List UInt8 × List UInt8)) (k j : Nat) (h : k < ps.length), j < 2 → (pairsV ps)[k * 2 + j]? = (twoV ps[k])[j]? := by
  intro ps
  induction ps with
  | nil => intro k j h; simp at h
  | cons x xs ih =>
    intro k j h hj
    show (twoV x ++ pairsV xs)[k * 2 + j]? = _
    have hx : (twoV x).length = 2 := rfl
    cases k with
    | zero => rw [Nat.zero_mul, Nat.zero_add, List.getElem?_append_left (by rw [hx]; exact hj)]; rfl
    | succ k =>
      rw [List.getElem?_append_right (by rw [hx]; omega), hx, show (k + 1) * 2 + j - 2 = k * 2 + j by omega]
      exact ih k j (by simpa using h) hj
theorem PairsAt.of_owns {w : World} {base : Nat} {v : Value} {ps : List (List UInt8 × List UInt8)} (h : w.ownsRow base 77 2 v ps.length (pairsV ps)) : PairsAt w v ps := by
  have h' := h
  rcases h.2 with ⟨rfl, h0⟩ | ⟨g, cap, cur, rfl, _, hg, hn, hm, hs, ht⟩
  · exact .inl ⟨List.eq_nil_of_length_eq_zero h0, _, _, rfl⟩
  · by_cases hp : 0 < ps.length
    · refine .inr ⟨hp, g, 0, cap, rfl, fun k hk => ?_⟩
      rw [Nat.zero_add]
      have e0 := h'.cellAt (k * 2 + 0) (by omega)
      have e1 := h'.cellAt (k * 2 + 1) (by omega)
      rw [two_at ps k _ hk (by omega)] at e0 e1
      exact ⟨e0, e1⟩
    · have : ps = [] := List.eq_nil_of_length_eq_zero (by omega)
      subst this
      exact .inl ⟨rfl, _, _, rfl⟩
end Go.Proofs.Ytpfcfadbilaleaa
/-
  The reference's Of and Texts, as Canon calls them (layer 8).
-/
namespace Go.Proofs.Ytpfcfadbilaleaa
open Go.RowKit

theorem rtexts_is (x : Value) (v : Vl) (ts : List (List UInt8)) (w : World) (H : VlAt w x v) (hl : v.l.length ≤ 1000) (hp : v.p.length ≤ 1000) (h : textsV v = ts) : Calls Try.prog 33 #[x] w fun e w' => ∃ a c, e = .returned (.slice a ts.length c) ∧ StrsAt w' (.slice a ts.length c) ts ∧ Below w.heap.size w w' := by
  subst h; exact rtexts_any x v w H hl hp
theorem texts_len (v : Vl) (hl : v.l.length ≤ 1000) (hp : v.p.length ≤ 1000) : (textsV v).length ≤ 2000 := by
  unfold textsV
  split
  · simp
  · split
    · omega
    · split
      · rw [flat_len]; omega
      · simp
end Go.Proofs.Ytpfcfadbilaleaa
/-
  WALKS: the reference's Canon (layer 8).
-/
namespace Go.Proofs.Ytpfcfadbilaleaa
open Go.RowKit

/-- an argument's cells, and the result's -/
structure Kx (w W : World) (k : Int) (S : ByteArray) (sl sp : Value) : Prop where
  bel : Below w.heap.size w W
  box : Bx W w.heap.size #[.int .i64 k, .string S, sl, sp] 27
  res : Bx W (w.heap.size + 1) #[.int .i64 0, .string ⟨#[]⟩, .slice none 0 0, .slice none 0 0] 27
section
variable {w W W' : World} {k : Int} {S : ByteArray} {sl sp : Value}
theorem Kx.next (h : Kx w W k S sl sp) (bb : Below W.heap.size W W') : Kx w W' k S sl sp := ⟨h.bel.trans (bb.mono h.bel.size), h.box.next bb, h.res.next bb⟩
theorem Kx.drew (h : Kx w W k S sl sp) : Kx w W.drew k S sl sp := ⟨h.bel.drew, h.box, h.res⟩
theorem Kx.alloc (h : Kx w W k S sl sp) (o : Obj) : Kx w (W.alloc o) k S sl sp := h.next ((Below.refl _ _).alloc (Nat.le_refl _) _)
theorem Kx.all (h : Kx w W k S sl sp) : W.cell? ⟨w.heap.size, 0, none⟩ = some (.int .i64 k) ∧ W.cell? ⟨w.heap.size, 1, none⟩ = some (.string S) ∧ W.cell? ⟨w.heap.size, 2, none⟩ = some sl ∧ W.cell? ⟨w.heap.size, 3, none⟩ = some sp := cells4 h.box
theorem Kx.put4 (h : Kx w W k S sl sp) {b : Nat} (hb : w.heap.size + 1 < b) (a0 a1 a2 a3 : Value) : Kx w ((((W.setCell ⟨b, 0, none⟩ a0).setCell ⟨b, 1, none⟩ a1).setCell ⟨b, 2, none⟩ a2).setCell ⟨b, 3, none⟩ a3) k S sl sp :=
  ⟨(((h.bel.setCell (p := ⟨b, 0, none⟩) (by simp; omega) _).setCell (p := ⟨b, 1, none⟩) (by simp; omega) _).setCell (p := ⟨b, 2, none⟩) (by simp; omega) _).setCell (p := ⟨b, 3, none⟩) (by simp; omega) _,
    (((h.box.other (by omega) _ _).other (by omega) _ _).other (by omega) _ _).other (by omega) _ _, (((h.res.other (by omega) _ _).other (by omega) _ _).other (by omega) _ _).other (by omega) _ _⟩
end
theorem cell_other {W : World} {b g j o : Nat} {u : Value} (h : b ≠ g) : (W.setCell ⟨b, j, none⟩ u).cell? ⟨g, o, none⟩ = W.cell? ⟨g, o, none⟩ := by
  unfold World.cell?
  rw [heap_setCell_other _ _ _ _ (Ne.symm h)]
theorem StrsAt.put {W : World} {v : Value} {ps : List (List UInt8)} {n b : Nat} (h : StrsAt W v ps) (hn : Newly n v) (hb : b < n) (j : Nat) (u : Value) : StrsAt (W.setCell ⟨b, j, none⟩ u) v ps := by
  rcases h with h | ⟨hp, g, off, cap, rfl, hc⟩
  · exact .inl h
  · have := hn g off _ _ rfl
    exact .inr ⟨hp, g, off, cap, rfl, fun k hk => by rw [cell_other (by omega)]; exact hc k hk⟩
theorem PairsAt.put {W : World} {v : Value} {ps : List (List UInt8 × List UInt8)} {n b : Nat} (h : PairsAt W v ps) (hn : Newly n v) (hb : b < n) (j : Nat) (u : Value) : PairsAt (W.setCell ⟨b, j, none⟩ u) v ps := by
  rcases h with h | ⟨hp, g, off, cap, rfl, hc⟩
  · exact .inl h
  · have := hn g off _ _ rfl
    exact .inr ⟨hp, g, off, cap, rfl, fun k hk => by rw [cell_other (by omega), cell_other (by omega)]; exact hc k hk⟩
theorem b_drew (W : World) : Below W.heap.size W W.drew := (Below.refl _ _).drew
theorem b_alloc (W : World) (o : Obj) : Below W.heap.size W (W.alloc o) := (Below.refl _ _).alloc (Nat.le_refl _) _
end Go.Proofs.Ytpfcfadbilaleaa
/-
  WALKS: the reference's Same (layer 8).
-/
namespace Go.Proofs.Ytpfcfadbilaleaa
open Go.RowKit

/-- two arguments' cells -/
structure Jx (w W : World) (x y : Array Value) : Prop where
  bel : Below w.heap.size w W
  fst : Bx W w.heap.size x 27
  snd : Bx W (w.heap.size + 1) y 27
section
variable {w W W' : World} {x y : Array Value}
theorem Jx.next (h : Jx w W x y) (bb : Below W.heap.size W W') : Jx w W' x y := ⟨h.bel.trans (bb.mono h.bel.size), h.fst.next bb, h.snd.next bb⟩
theorem Jx.drew (h : Jx w W x y) : Jx w W.drew x y := ⟨h.bel.drew, h.fst, h.snd⟩
theorem Jx.alloc (h : Jx w W x y) (o : Obj) : Jx w (W.alloc o) x y := h.next ((Below.refl _ _).alloc (Nat.le_refl _) _)
theorem Jx.made (w : World) (x y : Array Value) : Jx w ((w.alloc (.cells x 27)).alloc (.cells y 27)) x y := by
  refine ⟨((Below.refl _ _).alloc (Nat.le_refl _) _).alloc (by simp) _, (Bx.made _ _ _).later _, ?_⟩
  have := Bx.made (w.alloc (.cells x 27)) y 27
  simpa using this
theorem Jx.all {x0 x1 x2 x3 y0 y1 y2 y3 : Value} (h : Jx w W #[x0, x1, x2, x3] #[y0, y1, y2, y3]) : W.cell? ⟨w.heap.size, 0, none⟩ = some x0 ∧ W.cell? ⟨w.heap.size, 1, none⟩ = some x1 ∧ W.cell? ⟨w.heap.size, 2, none⟩ = some x2 ∧ W.cell? ⟨w.heap.size, 3, none⟩ = some x3 ∧ W.cell? ⟨w.heap.size + 1, 0, none⟩ = some y0 ∧ W.cell? ⟨w.heap.size + 1, 1, none⟩ = some y1 ∧ W.cell? ⟨w.heap.size + 1, 2, none⟩ = some y2 ∧ W.cell? ⟨w.heap.size + 1, 3, none⟩ = some y3 := by
  obtain ⟨a0, a1, a2, a3⟩ := cells4 h.fst
  obtain ⟨b0, b1, b2, b3⟩ := cells4 h.snd
  exact ⟨a0, a1, a2, a3, b0, b1, b2, b3⟩
end
end Go.Proofs.Ytpfcfadbilaleaa
/-
  WALKS: the reference's Compare (layer 8).
-/
namespace Go.Proofs.Ytpfcfadbilaleaa
open Go.RowKit

/-- two arguments' cells, and their canonical values' -/
structure Ux (w W : World) (x y : Array Value) (p q : Nat) (ca cb : Vl) (c d : Array Value) : Prop where
  two : Jx w W x y
  hp : w.heap.size ≤ p
  fst : Bx W p c 27
  snd : Bx W q d 27
  va : VlAt W (.agg c) ca
  vb : VlAt W (.agg d) cb
section
variable {w W W' : World} {x y c d : Array Value} {p q : Nat} {ca cb : Vl}
theorem Ux.next (h : Ux w W x y p q ca cb c d) (bb : Below W.heap.size W W') : Ux w W' x y p q ca cb c d := ⟨h.two.next bb, h.hp, h.fst.next bb, h.snd.next bb, h.va.later bb, h.vb.later bb⟩
theorem Ux.drew (h : Ux w W x y p q ca cb c d) : Ux w W.drew x y p q ca cb c d := ⟨h.two.drew, h.hp, h.fst, h.snd, h.va.later (b_drew _), h.vb.later (b_drew _)⟩
theorem Ux.all {x0 x1 x2 x3 y0 y1 y2 y3 : Value} (h : Ux w W x y p q ca cb #[x0, x1, x2, x3] #[y0, y1, y2, y3]) : W.cell? ⟨p, 0, none⟩ = some x0 ∧ W.cell? ⟨p, 1, none⟩ = some x1 ∧ W.cell? ⟨p, 2, none⟩ = some x2 ∧ W.cell? ⟨p, 3, none⟩ = some x3 ∧ W.cell? ⟨q, 0, none⟩ = some y0 ∧ W.cell? ⟨q, 1, none⟩ = some y1 ∧ W.cell? ⟨q, 2, none⟩ = some y2 ∧ W.cell? ⟨q, 3, none⟩ = some y3 := by
  obtain ⟨a0, a1, a2, a3⟩ := cells4 h.fst
  obtain ⟨b0, b1, b2, b3⟩ := cells4 h.snd
  exact ⟨a0, a1, a2, a3, b0, b1, b2, b3⟩
end
theorem VlAt.mk {W : World} {c : Vl} {la pa : Option Addr} {lc pc : Nat} (R1 : StrsAt W (.slice la c.l.length lc) c.l) (R2 : PairsAt W (.slice pa c.p.length pc) c.p) : VlAt W (.agg #[.int .i64 c.kind, .string ⟨c.s.toArray⟩, .slice la c.l.length lc, .slice pa c.p.length pc]) c := ⟨_, _, rfl, R1, R2⟩
end Go.Proofs.Ytpfcfadbilaleaa
