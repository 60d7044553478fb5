/-
  TEXTS JOINED: V4, V5, V7, V8, V9, V10.
-/
import Derived.Deep.AppendLies
import Derived.Deep.RegionHeld3
import Derived.WalkLawsBesides
import Derived.Test.YtpfcfadbilaleaaQ11
/-
  WALKS: the reference's Texts (layer 8).
-/
namespace Go.Proofs.Ytpfcfadbilaleaa
open Go.RowKit

theorem own_later {W w1 : World} {base : Nat} {v : Value} {n : Nat} {xs : List Value} {t : TypeId} {z : Nat} (h : W.ownsRow base t z v n xs) (bb : Below W.heap.size W w1) : w1.ownsRow base t z v n xs := by
  refine ⟨h.1, ?_⟩
  rcases h.2 with ⟨rfl, h0⟩ | ⟨g, cap, cur, rfl, h1, hg, hn, hm, hs, ht⟩
  · exact .inl ⟨rfl, h0⟩
  · exact .inr ⟨g, cap, cur, rfl, h1, (bb.block g (lt_of_block hg)).trans hg, hn, hm, hs, ht⟩
theorem cells4 {W : World} {b : Nat} {t : TypeId} {x y z u : Value} (h : Bx W b #[x, y, z, u] t) : W.cell? ⟨b, 0, none⟩ = some x ∧ W.cell? ⟨b, 1, none⟩ = some y ∧ W.cell? ⟨b, 2, none⟩ = some z ∧ W.cell? ⟨b, 3, none⟩ = some u := ⟨h.cell 0 x rfl, h.cell 1 y rfl, h.cell 2 z rfl, h.cell 3 u rfl⟩
/-- a value's box, and texts that are gathered -/
structure Gx (w W : World) (k : Int) (S : ByteArray) (sl sp : Value) (v : Value) (ns : List (List UInt8)) : Prop where
  bel : Below w.heap.size w W
  box : Bx W w.heap.size #[.int .i64 k, .string S, sl, sp] 27
  row : W.ownsRow (w.heap.size + 1) 9 1 v ns.length (strsV ns)
section
variable {w W W' : World} {k : Int} {S : ByteArray} {sl sp v v' : Value} {ns ms : List (List UInt8)}
theorem Gx.next (h : Gx w W k S sl sp v ns) (bb : Below W.heap.size W W') : Gx w W' k S sl sp v ns := ⟨h.bel.trans (bb.mono h.bel.size), h.box.next bb, own_later h.row bb⟩
theorem Gx.alloc (h : Gx w W k S sl sp v ns) (o : Obj) : Gx w (W.alloc o) k S sl sp v ns := h.next ((Below.refl _ _).alloc (Nat.le_refl _) _)
theorem Gx.drew (h : Gx w W k S sl sp v ns) : Gx w W.drew k S sl sp v ns := ⟨h.bel.drew, h.box, h.row⟩
theorem Gx.grown {n : Nat} (h : Gx w W k S sl sp v ns) (hg : W.grownBy W' v.ownBlock) (ho : W'.ownsRow (w.heap.size + 1) 9 1 v' n (strsV ns ++ strsV ms)) (hn : ns.length + ms.length = n) : Gx w W' k S sl sp v' (ns ++ ms) := by
  have hl := h.box.lt
  refine ⟨h.bel.grown hg (by omega) (fun j hj => by have := (h.row.lt j hj).1; omega), (hg.block _ hl (fun e => by have := (h.row.lt _ e.symm).1; omega)).trans h.box, ?_⟩
  rw [List.length_append, hn]
  have e : strsV (ns ++ ms) = strsV ns ++ strsV ms := by simp [strsV]
  rw [e]
  exact ho
end
theorem Gx.pair {w W : World} {k : Int} {S : ByteArray} {sl sp v : Value} {ns : List (List UInt8)} (h : Gx w W k S sl sp v ns) {b o : Nat} {X Y : ByteArray} (hb : b < w.heap.size) (g1 : w.cell? ⟨b, o, none⟩ = some (.string X)) (g2 : w.cell? ⟨b, o + 1, none⟩ = some (.string Y)) :
    W.cell? ⟨w.heap.size, 3, none⟩ = some sp ∧ W.cell? ⟨b, o, none⟩ = some (.string X) ∧ W.cell? ⟨b, o + 1, none⟩ = some (.string Y) :=
  ⟨h.box.cell 3 _ rfl, (h.bel.cell (p := ⟨b, o, none⟩) hb).trans g1, (h.bel.cell (p := ⟨b, o + 1, none⟩) hb).trans g2⟩
/-- texts told -/
def TextsPost (w : World) (ts : List (List UInt8)) (e : Ending) (w' : World) : Prop := ∃ a c, e = .returned (.slice a ts.length c) ∧ StrsAt w' (.slice a ts.length c) ts ∧ Below w.heap.size w w'
theorem Gx.told {w W : World} {k : Int} {S : ByteArray} {sl sp : Value} {a : Option Addr} {c n : Nat} {ns ts : List (List UInt8)} (h : Gx w W k S sl sp (.slice a n c) ns) (hn : ns.length = n) (e : ts = ns) : TextsPost w ts (.returned (.slice a n c)) W := by
  subst e
  subst hn
  exact ⟨a, c, rfl, StrsAt.of_owns h.row, h.bel⟩
theorem texts_other {v : Vl} (h1 : v.kind ≠ 1) (h2 : v.kind ≠ 2) (h3 : v.kind ≠ 3) : textsV v = [] := by unfold textsV; rw [if_neg h1, if_neg h2, if_neg h3]
theorem flat_next (p : List (List UInt8 × List UInt8)) (k : Nat) (h : k < p.length) : flatP (p.take (k + 1)) = flatP (p.take k) ++ [p[k].1, p[k].2] := by
  unfold flatP
  rw [List.take_succ_eq_append_getElem h, List.flatMap_append]
  simp
set_option maxRecDepth 20000 in
set_option maxHeartbeats 2000000 in
theorem rtexts_any (x : Value) (v : Vl) (w : World) (H : VlAt w x v) (hl : v.l.length ≤ 1000) (hp : v.p.length ≤ 1000) : Calls Try.prog 33 #[x] w fun e w' => TextsPost w (textsV v) e w' := by
  obtain ⟨i0, hi, hz0, hz1, hz2⟩ := info_parts info9
  obtain ⟨sl, sp, rfl, h1, h2⟩ := H
  obtain ⟨la, lc, rfl⟩ := h1.form
  obtain ⟨pa, pc, rfl⟩ := h2.form
  obtain ⟨S, hS⟩ : ∃ S : ByteArray, (⟨v.s.toArray⟩ : ByteArray) = S := ⟨_, rfl⟩
  rw [hS]
  obtain ⟨k, hk⟩ : ∃ k, v.kind = k := ⟨_, rfl⟩
  rw [hk]
  have H1 := hide h1
  have H2 := hide h2
  have HS := hide hS
  obtain ⟨ts, hts⟩ : ∃ ts, textsV v = ts := ⟨_, rfl⟩
  rw [hts]
  have G0 : Gx w (w.alloc (.cells #[.int .i64 k, .string S, .slice la v.l.length lc, .slice pa v.p.length pc] 27)) k S (.slice la v.l.length lc) (.slice pa v.p.length pc) (.slice none 0 0) [] :=
    ⟨(Below.refl _ _).alloc (Nat.le_refl _) _, Bx.made _ _ _, World.ownsRow_nil _ _ _ _⟩
  have HG0 := hide G0
  have Hts := hide hts
  have Hk := hide hk
  clear h1 h2 hS G0 hts hk
  by_cases hk1 : k = 1
  · have ht : ts = [] ++ [v.s] := by rw [← Hts.out]; unfold textsV; rw [if_pos (Hk.out.trans hk1)]; rfl
    have Ht := hide ht
    subst hk1
    have e : strsV [v.s] = [.string S] := by unfold strsV; rw [List.map_singleton, HS.out]
    have He := hide e
    clear ht e Hts Hk H1 H2 HS
    by_cases hl0 : 0 < v.l.length
    all_goals by_cases hp0 : 0 < v.p.length
    all_goals
      go_enter Try.func33, Try.ntmps33
      go_wp2_with (at_builtin; refine wpList_append_lies _ rfl _ _ 24 rfl (w.heap.size + 1) 9 i0 (.string ⟨#[]⟩) 1 16 Try.underlying24 hi hz0 hz1 hz2 rfl (by decide) (.slice none 0 0) 0 [] rfl (HG0.out.alloc (.cells #[.string S] 9)).row ⟨w.heap.size + 1, 0, none⟩ 1 1 [.string S] rfl rfl ?c1 ?c2 (by decide) ?c3 ?c4 ?c5 _ rfl ?_)
      case c1 =>
        intro j u hj
        match j, hj with
        | 0, hj => simp at hj; subst hj; simp [Addr.add]
      case c2 => intro u hu; simp at hu; subst hu; rfl
      case c3 => unfold maxLen; omega
      case c4 => omega
      case c5 => simp
      intro g cap w4 hown hgrow hat hlt
      have G4 := (HG0.out.alloc (.cells #[.string S] 9)).grown (ms := [v.s]) hgrow (by rw [He.out]; exact hown) rfl
      have HG4 := hide G4
      obtain ⟨x0, x1, x2, x3⟩ := cells4 G4.box
      clear hown hgrow hat hlt G4
      go_wp2
      refine wp_loop_rounds 1 ?_
      rw [rounds_succ]
      go_wp2
      refine wp_loop_rounds 1 ?_
      rw [rounds_succ]
      go_wp2
      go_ret
      exact HG4.out.told rfl Ht.out
  · have hk1f : (k == 1) = false := by simp [hk1]
    by_cases hk2 : k = 2
    · have ht : ts = v.l := by rw [← Hts.out]; unfold textsV; rw [if_neg (by rw [Hk.out]; exact hk1), if_pos (Hk.out.trans hk2)]
      have Ht := hide ht
      subst hk2
      clear ht Hts Hk H2 HS
      go_enter Try.func33, Try.ntmps33
      go_wp2
      go_loopw [3, 4] (fun o i wr => ∃ (q : Nat) (ns : List (List UInt8)) (vo : Option Addr) (vc : Nat), q ≤ v.l.length ∧ i = .int .i64 q ∧ v.l.take q = ns ∧ ns.length = q ∧ o = .slice vo ns.length vc ∧ Gx w wr 2 S (.slice la v.l.length lc) (.slice pa v.p.length pc) (.slice vo ns.length vc) ns) (fun _ i _ => v.l.length - (intOf i).toNat)
      case atStart => exact ⟨0, [], none, 0, Nat.zero_le _, rfl, rfl, rfl, rfl, HG0.out⟩
      case round =>
        clear HG0
        obtain ⟨q, ns, vo, vc, hq, rfl, hns, hnl, rfl, G⟩ := hrel
        obtain ⟨x0, x1, x2, x3⟩ := cells4 G.box
        by_cases hlt : q < v.l.length
        · obtain ⟨b, off, cap, e, hb, g1⟩ := (H1.out.later G.bel).at q hlt
          cases e
          have hnx : v.l.take (q + 1) = ns ++ [v.l[q]] := by rw [List.take_succ_eq_append_getElem hlt, hns]
          obtain ⟨y, hy⟩ : ∃ y, v.l[q] = y := ⟨_, rfl⟩
          rw [hy] at g1 hnx
          obtain ⟨X, hX⟩ : ∃ X : ByteArray, (⟨y.toArray⟩ : ByteArray) = X := ⟨_, rfl⟩
          rw [hX] at g1
          have e : strsV [y] = [.string X] := by unfold strsV; rw [List.map_singleton, hX]
          have He := hide e
          have Hnx := hide hnx
          have HG := hide G
          have hnb : ns.length ≤ 2000 := by omega
          have Hnl := hide hnl
          clear e hnx hy hX hns G hnl
          go_wp2_with (at_builtin; refine wpList_append_lies _ rfl _ _ 24 rfl (w.heap.size + 1) 9 i0 (.string ⟨#[]⟩) 1 16 Try.underlying24 hi hz0 hz1 hz2 rfl (by decide) (.slice vo ns.length vc) ns.length (strsV ns) rfl (HG.out.alloc (.cells #[.string X] 9)).row ⟨wr.heap.size, 0, none⟩ 1 1 [.string X] rfl rfl ?c1 ?c2 (by decide) ?c3 ?c4 ?c5 _ rfl ?_)
          case c1 =>
            intro j u hj
            match j, hj with
            | 0, hj => simp at hj; subst hj; simp [Addr.add]
          case c2 => intro u hu; simp at hu; subst hu; rfl
          case c3 => unfold maxLen; omega
          case c4 => omega
          case c5 => have := HG.out.box.lt; simp; omega
          intro g cap w4 hown hgrow hat hlt4
          have G4 := (HG.out.alloc (.cells #[.string X] 9)).grown (ms := [y]) hgrow (by rw [He.out]; exact hown) rfl
          have HG4 := hide G4
          have hn4 : (ns ++ [y]).length = ns.length + 1 := by simp
          clear hown hgrow hat hlt4 G4
          go_wp2
          go_roundw
          case rel => exact ⟨q + 1, ns ++ [y], some ⟨g, 0, none⟩, cap, by omega, by go_num, Hnx.out, by have := Hnl.out; omega, by rw [hn4], by rw [hn4]; exact HG4.out⟩
          case measure => simp [intOf]; omega
        · have hqe : q = v.l.length := by omega
          have hte : ts = ns := by rw [Ht.out, ← hns, hqe, List.take_length]
          have Hte := hide hte
          have HG := hide G
          clear hte hns G hnl hqe
          by_cases hp0 : 0 < v.p.length
          all_goals
            go_wp2
            refine wp_loop_rounds 1 ?_
            rw [rounds_succ]
            go_wp2
            go_ret
            exact HG.out.told rfl Hte.out
    · have hk2f : (k == 2) = false := by simp [hk2]
      obtain ⟨x0, x1, x2, x3⟩ := cells4 HG0.out.box
      by_cases hk3 : k = 3
      · have ht : ts = flatP v.p := by rw [← Hts.out]; unfold textsV; rw [if_neg (by rw [Hk.out]; exact hk1), if_neg (by rw [Hk.out]; exact hk2), if_pos (Hk.out.trans hk3)]
        have Ht := hide ht
        subst hk3
        clear ht Hts Hk H1 HS
        by_cases hl0 : 0 < v.l.length
        · go_enter Try.func33, Try.ntmps33
          go_wp2
          refine wp_loop_rounds 1 ?_
          rw [rounds_succ]
          go_wp2
          go_loopw [3, 5] (fun o i wr => ∃ (q : Nat) (ns : List (List UInt8)) (vo : Option Addr) (vc : Nat), q ≤ v.p.length ∧ i = .int .i64 q ∧ flatP (v.p.take q) = ns ∧ ns.length = 2 * q ∧ o = .slice vo ns.length vc ∧ Gx w wr 3 S (.slice la v.l.length lc) (.slice pa v.p.length pc) (.slice vo ns.length vc) ns) (fun _ i _ => v.p.length - (intOf i).toNat)
          case atStart => exact ⟨0, [], none, 0, Nat.zero_le _, rfl, rfl, rfl, rfl, HG0.out⟩
          case round =>
            clear x0 x1 x2 x3
            obtain ⟨q, ns, vo, vc, hq, rfl, hns, hnl, rfl, G⟩ := hrel
            obtain ⟨x0, x1, x2, x3⟩ := cells4 G.box
            by_cases hlt : q < v.p.length
            · obtain ⟨b, off, cap, e, hb, g1, g2⟩ := H2.out.at q hlt
              cases e
              have hnx := flat_next v.p q hlt
              rw [hns] at hnx
              obtain ⟨y, hy⟩ : ∃ y, v.p[q] = y := ⟨_, rfl⟩
              rw [hy] at g1 g2 hnx
              obtain ⟨X, hX⟩ : ∃ X : ByteArray, (⟨y.1.toArray⟩ : ByteArray) = X := ⟨_, rfl⟩
              obtain ⟨Y, hY⟩ : ∃ Y : ByteArray, (⟨y.2.toArray⟩ : ByteArray) = Y := ⟨_, rfl⟩
              rw [hX] at g1
              rw [hY] at g2
              have e : strsV [y.1, y.2] = [.string X, .string Y] := by unfold strsV; rw [List.map_cons, List.map_singleton, hX, hY]
              have He := hide e
              have Hnx := hide hnx
              have HG := hide G
              have hqi : (0 : Int) ≤ (q : Int) := by omega
              have hql : (q : Int) < (v.p.length : Int) := by omega
              have hsz := G.box.lt
              have hnb : ns.length ≤ 2000 := by omega
              have Hnl := hide hnl
              have q1 := (HG.out.pair hb g1 g2).2.1
              have q2 := (HG.out.pair hb g1 g2).2.2
              have Hg1 := hide g1
              have Hg2 := hide g2
              clear e hnx hy hX hY hns G hnl g1 g2
              go_wp2
              go_region_held3 (fun W => W.cell? ⟨w.heap.size, 3, none⟩ = some (.slice (some ⟨b, off, none⟩) v.p.length pc) ∧ W.cell? ⟨b, off + q * 2, none⟩ = some (.string X) ∧ W.cell? ⟨b, off + q * 2 + 1, none⟩ = some (.string Y)) (first | exact HG.out.pair hb Hg1.out Hg2.out | exact HG.out.drew.pair hb Hg1.out Hg2.out | exact (HG.out.drew.alloc _).pair hb Hg1.out Hg2.out | exact G4.pair hb Hg1.out Hg2.out | trivial) ((refine step_append_lies _ (by rfl) _ _ 24 (by rfl) (w.heap.size + 1) 9 i0 (.string ⟨#[]⟩) 1 16 Try.underlying24 hi hz0 hz1 hz2 rfl (by decide) (.slice vo ns.length vc) ns.length (strsV ns) (by rfl) (HG.out.drew.alloc (.cells #[.string X, .string Y] 9)).row ⟨wr.heap.size, 0, none⟩ 2 2 [.string X, .string Y] (by rfl) rfl (World.news_of_block (heap_alloc_new _ _)) (by intro u hu; simp at hu; rcases hu with rfl | rfl <;> rfl) (by decide) (by unfold maxLen; omega) (by omega) (by simp; omega) _ rfl ?_; intro g cap w4 hown hgrow hat hlt4; have G4 := (HG.out.drew.alloc (.cells #[.string X, .string Y] 9)).grown (ms := [y.1, y.2]) hgrow (by rw [He.out]; exact hown) rfl; clear hown hgrow hat hlt4))
              have HG4 := hide G4
              have hn4 : (ns ++ [y.1, y.2]).length = ns.length + 2 := by simp
              clear G4
              go_wp2
              go_roundw
              case rel => exact ⟨q + 1, ns ++ [y.1, y.2], some ⟨g, 0, none⟩, cap, by omega, by go_num, Hnx.out, by have := Hnl.out; omega, by rw [hn4], by rw [hn4]; exact HG4.out⟩
              case measure => simp [intOf]; omega
            · have hqe : q = v.p.length := by omega
              have hte : ts = ns := by rw [Ht.out, ← hns, hqe, List.take_length]
              have Hte := hide hte
              have HG := hide G
              clear hte hns G hnl hqe
              go_wp2
              go_ret
              exact HG.out.told rfl Hte.out
        · go_enter Try.func33, Try.ntmps33
          go_wp2
          refine wp_loop_rounds 1 ?_
          rw [rounds_succ]
          go_wp2
          go_loopw [3, 5] (fun o i wr => ∃ (q : Nat) (ns : List (List UInt8)) (vo : Option Addr) (vc : Nat), q ≤ v.p.length ∧ i = .int .i64 q ∧ flatP (v.p.take q) = ns ∧ ns.length = 2 * q ∧ o = .slice vo ns.length vc ∧ Gx w wr 3 S (.slice la v.l.length lc) (.slice pa v.p.length pc) (.slice vo ns.length vc) ns) (fun _ i _ => v.p.length - (intOf i).toNat)
          case atStart => exact ⟨0, [], none, 0, Nat.zero_le _, rfl, rfl, rfl, rfl, HG0.out⟩
          case round =>
            clear x0 x1 x2 x3
            obtain ⟨q, ns, vo, vc, hq, rfl, hns, hnl, rfl, G⟩ := hrel
            obtain ⟨x0, x1, x2, x3⟩ := cells4 G.box
            by_cases hlt : q < v.p.length
            · obtain ⟨b, off, cap, e, hb, g1, g2⟩ := H2.out.at q hlt
              cases e
              have hnx := flat_next v.p q hlt
              rw [hns] at hnx
              obtain ⟨y, hy⟩ : ∃ y, v.p[q] = y := ⟨_, rfl⟩
              rw [hy] at g1 g2 hnx
              obtain ⟨X, hX⟩ : ∃ X : ByteArray, (⟨y.1.toArray⟩ : ByteArray) = X := ⟨_, rfl⟩
              obtain ⟨Y, hY⟩ : ∃ Y : ByteArray, (⟨y.2.toArray⟩ : ByteArray) = Y := ⟨_, rfl⟩
              rw [hX] at g1
              rw [hY] at g2
              have e : strsV [y.1, y.2] = [.string X, .string Y] := by unfold strsV; rw [List.map_cons, List.map_singleton, hX, hY]
              have He := hide e
              have Hnx := hide hnx
              have HG := hide G
              have hqi : (0 : Int) ≤ (q : Int) := by omega
              have hql : (q : Int) < (v.p.length : Int) := by omega
              have hsz := G.box.lt
              have hnb : ns.length ≤ 2000 := by omega
              have Hnl := hide hnl
              have q1 := (HG.out.pair hb g1 g2).2.1
              have q2 := (HG.out.pair hb g1 g2).2.2
              have Hg1 := hide g1
              have Hg2 := hide g2
              clear e hnx hy hX hY hns G hnl g1 g2
              go_wp2
              go_region_held3 (fun W => W.cell? ⟨w.heap.size, 3, none⟩ = some (.slice (some ⟨b, off, none⟩) v.p.length pc) ∧ W.cell? ⟨b, off + q * 2, none⟩ = some (.string X) ∧ W.cell? ⟨b, off + q * 2 + 1, none⟩ = some (.string Y)) (first | exact HG.out.pair hb Hg1.out Hg2.out | exact HG.out.drew.pair hb Hg1.out Hg2.out | exact (HG.out.drew.alloc _).pair hb Hg1.out Hg2.out | exact G4.pair hb Hg1.out Hg2.out | trivial) ((refine step_append_lies _ (by rfl) _ _ 24 (by rfl) (w.heap.size + 1) 9 i0 (.string ⟨#[]⟩) 1 16 Try.underlying24 hi hz0 hz1 hz2 rfl (by decide) (.slice vo ns.length vc) ns.length (strsV ns) (by rfl) (HG.out.drew.alloc (.cells #[.string X, .string Y] 9)).row ⟨wr.heap.size, 0, none⟩ 2 2 [.string X, .string Y] (by rfl) rfl (World.news_of_block (heap_alloc_new _ _)) (by intro u hu; simp at hu; rcases hu with rfl | rfl <;> rfl) (by decide) (by unfold maxLen; omega) (by omega) (by simp; omega) _ rfl ?_; intro g cap w4 hown hgrow hat hlt4; have G4 := (HG.out.drew.alloc (.cells #[.string X, .string Y] 9)).grown (ms := [y.1, y.2]) hgrow (by rw [He.out]; exact hown) rfl; clear hown hgrow hat hlt4))
              have HG4 := hide G4
              have hn4 : (ns ++ [y.1, y.2]).length = ns.length + 2 := by simp
              clear G4
              go_wp2
              go_roundw
              case rel => exact ⟨q + 1, ns ++ [y.1, y.2], some ⟨g, 0, none⟩, cap, by omega, by go_num, Hnx.out, by have := Hnl.out; omega, by rw [hn4], by rw [hn4]; exact HG4.out⟩
              case measure => simp [intOf]; omega
            · have hqe : q = v.p.length := by omega
              have hte : ts = ns := by rw [Ht.out, ← hns, hqe, List.take_length]
              have Hte := hide hte
              have HG := hide G
              clear hte hns G hnl hqe
              go_wp2
              go_ret
              exact HG.out.told rfl Hte.out
      · have hk3f : (k == 3) = false := by simp [hk3]
        have ht : ts = [] := by rw [← Hts.out]; exact texts_other (by rw [Hk.out]; exact hk1) (by rw [Hk.out]; exact hk2) (by rw [Hk.out]; exact hk3)
        have Ht := hide ht
        clear ht Hts Hk H1 H2 HS
        by_cases hl0 : 0 < v.l.length
        all_goals by_cases hp0 : 0 < v.p.length
        all_goals
          go_enter Try.func33, Try.ntmps33
          go_wp2
          refine wp_loop_rounds 1 ?_
          rw [rounds_succ]
          go_wp2
          refine wp_loop_rounds 1 ?_
          rw [rounds_succ]
          go_wp2
          go_ret
          exact HG0.out.told rfl Ht.out
end Go.Proofs.Ytpfcfadbilaleaa
/-
  WALKS: the reference's Of (layer 8).
-/
namespace Go.Proofs.Ytpfcfadbilaleaa
open Go.RowKit

/-- the slice lies in no elder block -/
def Newly (n : Nat) (v : Value) : Prop := ∀ b off k c, v = .slice (some ⟨b, off, none⟩) k c → n ≤ b
theorem Newly.none (n k c : Nat) : Newly n (.slice none k c) := fun _ _ _ _ e => by cases e
theorem Newly.of_owns {n : Nat} {w : World} {base z m : Nat} {t : TypeId} {v : Value} {xs : List Value} (h : w.ownsRow base t z v m xs) (hb : n ≤ base) : Newly n v := by
  intro b off k c e
  subst e
  rcases h.2 with ⟨e, _⟩ | ⟨g, cap, cur, e, h1, _⟩
  · cases e
  · cases e; omega
def VlNew (n : Nat) (x : Value) : Prop := ∃ k s sl sp, x = .agg #[k, s, sl, sp] ∧ Newly n sl ∧ Newly n sp
/-- a value told, or none -/
def OfPost (w : World) (o : Option Vl) (e : Ending) (w' : World) : Prop :=
  Below w.heap.size w w' ∧ match o with
  | some c => ∃ x, e = .returned (.tuple #[x, .bool true]) ∧ VlAt w' x c ∧ VlNew w.heap.size x
  | none => e = .returned (.tuple #[.agg #[.int .i64 0, .string ⟨#[]⟩, .slice none 0 0, .slice none 0 0], .bool false])
theorem of_none {w w' : World} {o : Option Vl} (h : o = none) (hB : Below w.heap.size w w') : OfPost w o (.returned (.tuple #[.agg #[.int .i64 0, .string ⟨#[]⟩, .slice none 0 0, .slice none 0 0], .bool false])) w' := by
  subst h; exact ⟨hB, rfl⟩
theorem of_yes {w w' : World} {o : Option Vl} {c : Vl} {x : Value} (h : o = some c) (hB : Below w.heap.size w w') (hx : VlAt w' x c) (hn : VlNew w.heap.size x) : OfPost w o (.returned (.tuple #[x, .bool true])) w' := by
  subst h; exact ⟨hB, x, rfl, hx, hn⟩
theorem own_put {W : World} {base : Nat} {v : Value} {n : Nat} {xs : List Value} {t : TypeId} {z b j : Nat} {u : Value} (h : W.ownsRow base t z v n xs) (hb : b < base) : (W.setCell ⟨b, j, none⟩ u).ownsRow base t z v n xs := by
  refine ⟨h.1, ?_⟩
  rcases h.2 with ⟨rfl, h0⟩ | ⟨g, cap, cur, rfl, h1, hg, hn, hm, hs, ht⟩
  · exact .inl ⟨rfl, h0⟩
  · have hne : g ≠ b := by omega
    exact .inr ⟨g, cap, cur, rfl, h1, by rw [heap_setCell_other _ _ _ _ hne]; exact hg, hn, hm, hs, ht⟩
/-- the result's cell, and the value that is made, in memory -/
structure Ox (w W : World) (y0 y1 y2 y3 : Value) : Prop where
  bel : Below w.heap.size w W
  res : Bx W w.heap.size #[.int .i64 0, .string ⟨#[]⟩, .slice none 0 0, .slice none 0 0] 27
  val : Bx W (w.heap.size + 1) #[y0, y1, y2, y3] 27
section
variable {w W W' : World} {y0 y1 y2 y3 : Value}
theorem Ox.next (h : Ox w W y0 y1 y2 y3) (bb : Below W.heap.size W W') : Ox w W' y0 y1 y2 y3 := ⟨h.bel.trans (bb.mono h.bel.size), h.res.next bb, h.val.next bb⟩
theorem Ox.drew (h : Ox w W y0 y1 y2 y3) : Ox w W.drew y0 y1 y2 y3 := ⟨h.bel.drew, h.res, h.val⟩
theorem Ox.alloc (h : Ox w W y0 y1 y2 y3) (o : Obj) : Ox w (W.alloc o) y0 y1 y2 y3 := h.next ((Below.refl _ _).alloc (Nat.le_refl _) _)
theorem Ox.grown {base n z : Nat} {t : TypeId} {v : Value} {xs : List Value} (h : Ox w W y0 y1 y2 y3) (ho : W.ownsRow base t z v n xs) (hb : w.heap.size + 1 < base) (hg : W.grownBy W' v.ownBlock) : Ox w W' y0 y1 y2 y3 := by
  have hl := h.val.lt
  have hr : ∀ i, i < base → some i ≠ v.ownBlock := fun i hi e => by have := (ho.lt i e.symm).1; omega
  exact ⟨h.bel.grown hg (by omega) (fun j hj => by have := (ho.lt j hj).1; omega), (hg.block _ (by omega) (hr _ (by omega))).trans h.res, (hg.block _ hl (hr _ hb)).trans h.val⟩
theorem Ox.put2 (h : Ox w W y0 y1 y2 y3) (u : Value) : Ox w (W.setCell ⟨w.heap.size + 1, 2, none⟩ u) y0 y1 u y3 := ⟨h.bel.setCell (p := ⟨_, 2, none⟩) (by simp) _, h.res.other (by omega) 2 u, h.val.put 2 u⟩
theorem Ox.put3 (h : Ox w W y0 y1 y2 y3) (u : Value) : Ox w (W.setCell ⟨w.heap.size + 1, 3, none⟩ u) y0 y1 y2 u := ⟨h.bel.setCell (p := ⟨_, 3, none⟩) (by simp) _, h.res.other (by omega) 3 u, h.val.put 3 u⟩
/-- the value, copied into the result's cell -/
theorem Ox.copy (h : Ox w W y0 y1 y2 y3) : Below w.heap.size w ((((W.setCell ⟨w.heap.size, 0, none⟩ y0).setCell ⟨w.heap.size, 1, none⟩ y1).setCell ⟨w.heap.size, 2, none⟩ y2).setCell ⟨w.heap.size, 3, none⟩ y3) ∧ Bx ((((W.setCell ⟨w.heap.size, 0, none⟩ y0).setCell ⟨w.heap.size, 1, none⟩ y1).setCell ⟨w.heap.size, 2, none⟩ y2).setCell ⟨w.heap.size, 3, none⟩ y3) w.heap.size #[y0, y1, y2, y3] 27 :=
  ⟨(((h.bel.setCell (p := ⟨_, 0, none⟩) (Nat.le_refl _) _).setCell (p := ⟨_, 1, none⟩) (Nat.le_refl _) _).setCell (p := ⟨_, 2, none⟩) (Nat.le_refl _) _).setCell (p := ⟨_, 3, none⟩) (Nat.le_refl _) _, (((h.res.put 0 y0).put 1 y1).put 2 y2).put 3 y3⟩
end
theorem own_copy {w W : World} {base : Nat} {v y0 y1 y2 y3 : Value} {n : Nat} {xs : List Value} {t : TypeId} {z : Nat} (h : W.ownsRow base t z v n xs) (hb : w.heap.size < base) : ((((W.setCell ⟨w.heap.size, 0, none⟩ y0).setCell ⟨w.heap.size, 1, none⟩ y1).setCell ⟨w.heap.size, 2, none⟩ y2).setCell ⟨w.heap.size, 3, none⟩ y3).ownsRow base t z v n xs := own_put (own_put (own_put (own_put h hb) hb) hb) hb
theorem strs_news {w : World} {b off : Nat} {ps : List (List UInt8)} (hc : ∀ k, k < ps.length → w.cell? ⟨b, off + k, none⟩ = some (.string ⟨(ps.getD k []).toArray⟩)) : ∀ j u, (strsV ps)[j]? = some u → w.cell? ((⟨b, off, none⟩ : Addr).add j) = some u := by
  intro j u hj
  have hl : j < ps.length := by
    apply Classical.byContradiction
    intro h
    rw [List.getElem?_eq_none (by rw [strs_len]; omega)] at hj
    cases hj
  have e : (⟨b, off, none⟩ : Addr).add j = ⟨b, off + j, none⟩ := by unfold Addr.add; split <;> simp_all
  rw [e, hc j hl]
  unfold strsV at hj
  rw [List.getElem?_map, List.getElem?_eq_getElem hl] at hj
  simp only [Option.map_some, Option.some.injEq] at hj
  rw [← hj, List.getD_eq_getElem?_getD, List.getElem?_eq_getElem hl]
  rfl
theorem strs_one (ps : List (List UInt8)) : ∀ u ∈ strsV ps, u.oneCell' = true := by
  intro u hu
  obtain ⟨p, _, rfl⟩ := List.mem_map.1 hu
  rfl
theorem info39 : (Try.prog.info? 77).map (fun i => (i.zero, i.size, i.bytes)) = some (some (.agg #[.string ⟨#[]⟩, .string ⟨#[]⟩]), 2, 32) := by kernel_rfl
def twoV (q : List UInt8 × List UInt8) : List Value := [.string ⟨q.1.toArray⟩, .string ⟨q.2.toArray⟩]
def pairsV (ps : List (List UInt8 × List UInt8)) : List Value := ps.flatMap twoV
theorem pairsV_snoc (ps : List (List UInt8 × List UInt8)) (q : List UInt8 × List UInt8) : pairsV (ps ++ [q]) = pairsV ps ++ twoV q := by simp [pairsV]
theorem two_at : ∀ (ps : List (List UInt8 × List UInt8)) (k j : Nat) (h : k < ps.length), j < 2 → (pairsV ps)[k * 2 + j]? = (twoV ps[k])[j]? := by
  intro ps
  induction ps with
  | nil => intro k j h; simp at h
  | cons x xs ih =>
    intro k j h hj
    show (twoV x ++ pairsV xs)[k * 2 + j]? = _
    have hx : (twoV x).length = 2 := rfl
    cases k with
    | zero => rw [Nat.zero_mul, Nat.zero_add, List.getElem?_append_left (by rw [hx]; exact hj)]; rfl
    | succ k =>
      rw [List.getElem?_append_right (by rw [hx]; omega), hx, show (k + 1) * 2 + j - 2 = k * 2 + j by omega]
      exact ih k j (by simpa using h) hj
theorem PairsAt.of_owns {w : World} {base : Nat} {v : Value} {ps : List (List UInt8 × List UInt8)} (h : w.ownsRow base 77 2 v ps.length (pairsV ps)) : PairsAt w v ps := by
  have h' := h
  rcases h.2 with ⟨rfl, h0⟩ | ⟨g, cap, cur, rfl, _, hg, hn, hm, hs, ht⟩
  · exact .inl ⟨List.eq_nil_of_length_eq_zero h0, _, _, rfl⟩
  · by_cases hp : 0 < ps.length
    · refine .inr ⟨hp, g, 0, cap, rfl, fun k hk => ?_⟩
      rw [Nat.zero_add]
      have e0 := h'.cellAt (k * 2 + 0) (by omega)
      have e1 := h'.cellAt (k * 2 + 1) (by omega)
      rw [two_at ps k _ hk (by omega)] at e0 e1
      exact ⟨e0, e1⟩
    · have : ps = [] := List.eq_nil_of_length_eq_zero (by omega)
      subst this
      exact .inl ⟨rfl, _, _, rfl⟩
theorem pairs_next : ∀ (q : Nat) (l : List (List UInt8)) (x y : List UInt8), l[2 * q]? = some x → l[2 * q + 1]? = some y → pairsL (l.take (2 * q + 2)) = pairsL (l.take (2 * q)) ++ [(x, y)] := by
  intro q
  induction q with
  | zero =>
    intro l x y hx hy
    match l, hx, hy with
    | a :: b :: r, hx, hy =>
      simp at hx hy
      subst hx hy
      simp [pairsL]
  | succ q ih =>
    intro l x y hx hy
    match l, hx, hy with
    | a :: b :: r, hx, hy =>
      rw [show 2 * (q + 1) = 2 * q + 1 + 1 by omega] at hx hy ⊢
      rw [List.getElem?_cons_succ, List.getElem?_cons_succ] at hx
      rw [show 2 * q + 1 + 1 + 1 = (2 * q + 1) + 1 + 1 by omega, List.getElem?_cons_succ, List.getElem?_cons_succ] at hy
      have := ih r x y hx hy
      rw [show 2 * q + 1 + 1 + 2 = (2 * q + 2) + 1 + 1 by omega]
      simp only [List.take_succ_cons, pairsL, List.cons_append]
      rw [this]
set_option maxRecDepth 20000 in
set_option maxHeartbeats 4000000 in
theorem rof_any (k : Int) (u : Value) (l : List (List UInt8)) (w : World) (H : StrsAt w u l) (hl : l.length ≤ 2000) : Calls Try.prog 42 #[.int .i64 k, u] w fun e w' => OfPost w (ofV k l) e w' := by
  obtain ⟨i0, hi, hz0, hz1, hz2⟩ := info_parts info9
  obtain ⟨la, lc, rfl⟩ := H.form
  obtain ⟨o, ho⟩ : ∃ o, ofV k l = o := ⟨_, rfl⟩
  rw [ho]
  have Ho := hide ho
  have H1 := hide H
  clear ho H
  by_cases hA : k = 1 ∧ l.length = 1
  · obtain ⟨hk, hn⟩ := hA
    have h0 : 0 < l.length := by omega
    obtain ⟨b, off, cap, e, hb, g1⟩ := H1.out.at 0 h0
    have ho : o = some ⟨1, l.headD [], [], []⟩ := by rw [← Ho.out]; unfold ofV; rw [if_pos ⟨hk, hn⟩, hk]
    have hh : l[0] = l.headD [] := by
      cases l with
      | nil => simp at h0
      | cons a t => rfl
    rw [hh] at g1
    obtain ⟨y, hy⟩ : ∃ y, l.headD [] = y := ⟨_, rfl⟩
    rw [hy] at g1 ho
    obtain ⟨X, hX⟩ : ∃ X : ByteArray, (⟨y.toArray⟩ : ByteArray) = X := ⟨_, rfl⟩
    rw [hX] at g1
    rw [hn] at e
    cases e
    have HX := hide hX
    have Hoo := hide ho
    subst hk
    rw [hn]
    rw [Nat.add_zero] at g1
    have hne1 : w.heap.size ≠ b := by omega
    have hne2 : w.heap.size + 1 ≠ b := by omega
    clear hX ho hh hy Ho h0
    have Bf : ∀ cs1 cs2 : Array Value, Below w.heap.size w ((w.alloc (.cells cs1 27)).alloc (.cells cs2 27)) := fun _ _ => ((Below.refl _ _).alloc (Nat.le_refl _) _).alloc (by simp) _
    have g2 := fun cs1 cs2 => ((Bf cs1 cs2).cell (p := ⟨b, off, none⟩) hb).trans g1
    go_enter Try.func42, Try.ntmps42
    go_wp2
    have X1 : Bx ((w.alloc (.cells #[.int .i64 1, .string X, .slice none 0 0, .slice none 0 0] 27)).alloc (.cells #[.int .i64 1, .string X, .slice none 0 0, .slice none 0 0] 27)) w.heap.size #[.int .i64 1, .string X, .slice none 0 0, .slice none 0 0] 27 := (Bx.made _ _ _).later _
    refine bodyPost_ret (v := .tuple #[.agg #[.int .i64 1, .string X, .slice none 0 0, .slice none 0 0], .bool true]) (ret_cell_tmp Try.results42 _ _ rfl X1 Try.underlying27 rfl (by kernel_rfl)) rfl (of_yes Hoo.out (Bf _ _) ⟨.slice none 0 0, .slice none 0 0, by rw [HX.out], .inl ⟨rfl, _, _, rfl⟩, .inl ⟨rfl, _, _, rfl⟩⟩ ⟨_, _, _, _, rfl, Newly.none _ _ _, Newly.none _ _ _⟩)
  · by_cases hBc : k = 2 ∧ 0 < l.length
    · obtain ⟨hk, hn⟩ := hBc
      have ho : o = some ⟨2, [], l, []⟩ := by rw [← Ho.out]; unfold ofV; rw [if_neg hA, if_pos ⟨hk, hn⟩, hk]
      have hc : ∃ b off, la = some ⟨b, off, none⟩ ∧ ∀ k, k < l.length → w.cell? ⟨b, off + k, none⟩ = some (.string ⟨(l.getD k []).toArray⟩) := by
        rcases H1.out with ⟨h0, _⟩ | ⟨_, b, off, cap, e, hc⟩
        · rw [h0] at hn; simp at hn
        · cases e; exact ⟨b, off, rfl, hc⟩
      obtain ⟨b, off, rfl, hc⟩ := hc
      have hb : b < w.heap.size := lt_of_cell (hc 0 hn)
      have hnews := strs_news hc
      have Hoo := hide ho
      have Hnews := hide hnews
      subst hk
      clear ho hc hA Ho hnews
      have O0 : Ox w ((w.alloc (.cells #[.int .i64 0, .string ⟨#[]⟩, .slice none 0 0, .slice none 0 0] 27)).alloc (.cells #[.int .i64 2, .string ⟨#[]⟩, .slice none 0 0, .slice none 0 0] 27)) (.int .i64 2) (.string ⟨#[]⟩) (.slice none 0 0) (.slice none 0 0) := by
        refine ⟨((Below.refl _ _).alloc (Nat.le_refl _) _).alloc (by simp) _, (Bx.made _ _ _).later _, ?_⟩
        have := Bx.made (w.alloc (.cells #[.int .i64 0, .string ⟨#[]⟩, .slice none 0 0, .slice none 0 0] 27)) #[.int .i64 2, .string ⟨#[]⟩, .slice none 0 0, .slice none 0 0] 27
        simpa using this
      have O1 := O0.alloc (.cells #[] 9)
      have own0 : (((w.alloc (.cells #[.int .i64 0, .string ⟨#[]⟩, .slice none 0 0, .slice none 0 0] 27)).alloc (.cells #[.int .i64 2, .string ⟨#[]⟩, .slice none 0 0, .slice none 0 0] 27)).alloc (.cells #[] 9)).ownsRow (w.heap.size + 1 + 1) 9 1 (.slice (some ⟨w.heap.size + 1 + 1, 0, none⟩) 0 0) 0 [] := by
        refine ⟨rfl, .inr ⟨w.heap.size + 1 + 1, 0, #[], rfl, Nat.le_refl _, ?_, Nat.le_refl _, Nat.zero_le _, rfl, rfl⟩⟩
        have := Bx.made ((w.alloc (.cells #[.int .i64 0, .string ⟨#[]⟩, .slice none 0 0, .slice none 0 0] 27)).alloc (.cells #[.int .i64 2, .string ⟨#[]⟩, .slice none 0 0, .slice none 0 0] 27)) #[] 9
        unfold Bx at this
        simpa using this
      have Hown0 := hide own0
      have HO1 := hide O1
      clear O0 O1 own0
      go_enter Try.func42, Try.ntmps42
      go_wp2_with (at_builtin; refine wpList_append_lies _ rfl _ _ 24 rfl (w.heap.size + 1 + 1) 9 i0 (.string ⟨#[]⟩) 1 16 Try.underlying24 hi hz0 hz1 hz2 rfl (by decide) (.slice (some ⟨w.heap.size + 1 + 1, 0, none⟩) 0 0) 0 [] rfl Hown0.out ⟨b, off, none⟩ l.length lc (strsV l) rfl (by rw [strs_len, Nat.mul_one]) ?c1 (strs_one l) hn ?c3 ?c4 ?c5 _ rfl ?_)
      case c1 =>
        intro j u hj
        have h9 := Hnews.out j u hj
        have e : (⟨b, off, none⟩ : Addr).add j = ⟨b, off + j, none⟩ := by unfold Addr.add; split <;> simp_all
        rw [e] at h9 ⊢
        exact (HO1.out.bel.cell (p := ⟨b, off + j, none⟩) hb).trans h9
      case c3 => unfold maxLen; omega
      case c4 => omega
      case c5 => simp
      intro g cap w4 hown hgrow hat hlt
      have O4 := HO1.out.grown Hown0.out (by omega) hgrow
      obtain ⟨v0, v1, v2, v3⟩ := cells4 O4.val
      have f2 := O4.val.free 2
      obtain ⟨r0, r1, r2, r3⟩ := cells4 O4.res
      have e0 := O4.res.free 0
      have e1 := O4.res.free 1
      have e2 := O4.res.free 2
      have e3 := O4.res.free 3
      have Hown := hide hown
      have HO4 := hide O4
      clear hown hgrow hat hlt O4
      go_wp2
      have O5 := HO4.out.put2 (.slice (some ⟨g, 0, none⟩) l.length cap)
      have ho5 := own_copy (w := w) (y0 := .int .i64 2) (y1 := .string ⟨#[]⟩) (y2 := .slice (some ⟨g, 0, none⟩) l.length cap) (y3 := .slice none 0 0) (own_put (b := w.heap.size + 1) (j := 2) (u := .slice (some ⟨g, 0, none⟩) l.length cap) Hown.out (by omega)) (by omega)
      refine bodyPost_ret (v := .tuple #[.agg #[.int .i64 2, .string ⟨#[]⟩, .slice (some ⟨g, 0, none⟩) l.length cap, .slice none 0 0], .bool true]) (ret_cell_tmp Try.results42 _ _ rfl O5.copy.2 Try.underlying27 rfl (by kernel_rfl)) rfl (of_yes Hoo.out O5.copy.1 ⟨.slice (some ⟨g, 0, none⟩) l.length cap, .slice none 0 0, rfl, StrsAt.of_owns ho5, .inl ⟨rfl, _, _, rfl⟩⟩ ⟨_, _, _, _, rfl, Newly.of_owns ho5 (by omega), Newly.none _ _ _⟩)
    · by_cases hC : k ≠ 3 ∨ l.length = 0 ∨ l.length % 2 = 1
      · have ho : o = none := by rw [← Ho.out]; unfold ofV; rw [if_neg hA, if_neg hBc, if_pos hC]
        have Hoo := hide ho
        have Bf : ∀ cs1 cs2 : Array Value, Below w.heap.size w ((w.alloc (.cells cs1 27)).alloc (.cells cs2 27)) := fun _ _ => ((Below.refl _ _).alloc (Nat.le_refl _) _).alloc (by simp) _
        have X1 : ∀ cs2, Bx ((w.alloc (.cells #[.int .i64 0, .string ⟨#[]⟩, .slice none 0 0, .slice none 0 0] 27)).alloc (.cells cs2 27)) w.heap.size #[.int .i64 0, .string ⟨#[]⟩, .slice none 0 0, .slice none 0 0] 27 := fun _ => (Bx.made _ _ _).later _
        have HX1 := hide X1
        have fin : Hid (∀ cs2, OfPost w o (.returned (.tuple #[.agg #[.int .i64 0, .string ⟨#[]⟩, .slice none 0 0, .slice none 0 0], .bool false])) ((w.alloc (.cells #[.int .i64 0, .string ⟨#[]⟩, .slice none 0 0, .slice none 0 0] 27)).alloc (.cells cs2 27))) := fun _ => of_none Hoo.out (Bf _ _)
        have hmod : ((l.length : Int).tmod 2) = ((l.length % 2 : Nat) : Int) := by rw [Int.tmod_eq_emod_of_nonneg (by omega)]; omega
        obtain ⟨n, hn⟩ : ∃ n, l.length = n := ⟨_, rfl⟩
        rw [hn] at hA hBc hC hmod hl ⊢
        clear ho Ho Bf X1 H1 hn
        by_cases hk1 : k = 1
        · subst hk1
          have h1 : ((n : Int) == 1) = false := by simp; omega
          go_enter Try.func42, Try.ntmps42
          go_wp2
          exact bodyPost_ret (v := .tuple #[.agg #[.int .i64 0, .string ⟨#[]⟩, .slice none 0 0, .slice none 0 0], .bool false]) (ret_cell_tmp Try.results42 _ _ rfl (HX1.out _) Try.underlying27 rfl (by kernel_rfl)) rfl (fin.out _)
        · have hk1f : (k == 1) = false := by simp [hk1]
          by_cases hk2 : k = 2
          · subst hk2
            have h1 : n = 0 := by omega
            subst h1
            clear hA hBc hC hk1
            go_enter Try.func42, Try.ntmps42
            go_wp2
            exact bodyPost_ret (v := .tuple #[.agg #[.int .i64 0, .string ⟨#[]⟩, .slice none 0 0, .slice none 0 0], .bool false]) (ret_cell_tmp Try.results42 _ _ rfl (HX1.out _) Try.underlying27 rfl (by kernel_rfl)) rfl (fin.out _)
          · have hk2f : (k == 2) = false := by simp [hk2]
            by_cases hk3 : k = 3
            · subst hk3
              by_cases h0 : n = 0
              · subst h0
                clear hA hBc hC hk1 hk2
                go_enter Try.func42, Try.ntmps42
                go_wp2
                exact bodyPost_ret (v := .tuple #[.agg #[.int .i64 0, .string ⟨#[]⟩, .slice none 0 0, .slice none 0 0], .bool false]) (ret_cell_tmp Try.results42 _ _ rfl (HX1.out _) Try.underlying27 rfl (by kernel_rfl)) rfl (fin.out _)
              · have h0f : ((n : Int) == 0) = false := by simp; omega
                have h2 : n % 2 = 1 := by omega
                rw [h2] at hmod
                clear hA hBc hC hk1 hk2
                go_enter Try.func42, Try.ntmps42
                go_wp2
                exact bodyPost_ret (v := .tuple #[.agg #[.int .i64 0, .string ⟨#[]⟩, .slice none 0 0, .slice none 0 0], .bool false]) (ret_cell_tmp Try.results42 _ _ rfl (HX1.out _) Try.underlying27 rfl (by kernel_rfl)) rfl (fin.out _)
            · have hk3f : (k != 3) = true := by simp [hk3]
              clear hA hBc hC
              go_enter Try.func42, Try.ntmps42
              go_wp2
              exact bodyPost_ret (v := .tuple #[.agg #[.int .i64 0, .string ⟨#[]⟩, .slice none 0 0, .slice none 0 0], .bool false]) (ret_cell_tmp Try.results42 _ _ rfl (HX1.out _) Try.underlying27 rfl (by kernel_rfl)) rfl (fin.out _)
      · obtain ⟨j0, hj, hy0, hy1, hy2⟩ := info_parts info39
        have hk3 : k = 3 := Classical.byContradiction fun h => hC (.inl h)
        have hn0 : l.length ≠ 0 := fun h => hC (.inr (.inl h))
        have hn2 : l.length % 2 = 0 := by
          have : ¬ l.length % 2 = 1 := fun h => hC (.inr (.inr h))
          omega
        have ho : o = some ⟨3, [], [], pairsL l⟩ := by rw [← Ho.out]; unfold ofV; rw [if_neg hA, if_neg hBc, if_neg hC, hk3]
        have Hoo := hide ho
        subst hk3
        have h0f : ((l.length : Int) == 0) = false := by rw [beq_eq_false_iff_ne]; omega
        have hmod : ((l.length : Int).tmod 2) = 0 := by rw [Int.tmod_eq_emod_of_nonneg (by omega)]; omega
        clear hA hBc hC ho Ho hn0
        have O0 : Ox w ((w.alloc (.cells #[.int .i64 0, .string ⟨#[]⟩, .slice none 0 0, .slice none 0 0] 27)).alloc (.cells #[.int .i64 3, .string ⟨#[]⟩, .slice none 0 0, .slice none 0 0] 27)) (.int .i64 3) (.string ⟨#[]⟩) (.slice none 0 0) (.slice none 0 0) := by
          refine ⟨((Below.refl _ _).alloc (Nat.le_refl _) _).alloc (by simp) _, (Bx.made _ _ _).later _, ?_⟩
          have := Bx.made (w.alloc (.cells #[.int .i64 0, .string ⟨#[]⟩, .slice none 0 0, .slice none 0 0] 27)) #[.int .i64 3, .string ⟨#[]⟩, .slice none 0 0, .slice none 0 0] 27
          simpa using this
        have HO0 := hide O0
        clear O0
        go_enter Try.func42, Try.ntmps42
        go_wp2
        go_loopw [7] (fun i wr => ∃ (q : Nat) (ps : List (List UInt8 × List UInt8)) (va : Option Addr) (vc : Nat), 2 * q ≤ l.length ∧ i = .int .i64 ((2 * q : Nat) : Int) ∧ pairsL (l.take (2 * q)) = ps ∧ ps.length = q ∧ Ox w wr (.int .i64 3) (.string ⟨#[]⟩) (.slice none 0 0) (.slice va ps.length vc) ∧ wr.ownsRow (w.heap.size + 1 + 1) 77 2 (.slice va ps.length vc) ps.length (pairsV ps)) (fun i _ => l.length - (intOf i).toNat)
        case atStart => exact ⟨0, [], none, 0, Nat.zero_le _, rfl, rfl, rfl, HO0.out, World.ownsRow_nil _ _ _ _⟩
        case round =>
          clear HO0
          obtain ⟨q, ps, va, vc, hq, rfl, hps, hpl, O, R⟩ := hrel
          obtain ⟨x0, x1, x2, x3⟩ := cells4 O.val
          by_cases hlt : 2 * q < l.length
          · have hlt1 : 2 * q + 1 < l.length := by omega
            have hnx := pairs_next q l _ _ (List.getElem?_eq_getElem hlt) (List.getElem?_eq_getElem hlt1)
            rw [hps] at hnx
            obtain ⟨b, off, cap0, e, hb, g1⟩ := H1.out.at (2 * q) hlt
            cases e
            obtain ⟨b', off', cap', e', hb', g2⟩ := H1.out.at (2 * q + 1) hlt1
            cases e'
            replace g1 := (O.bel.cell (p := ⟨b, off + 2 * q, none⟩) hb).trans g1
            replace g2 := (O.bel.cell (p := ⟨b, off + (2 * q + 1), none⟩) hb).trans g2
            obtain ⟨y, hy⟩ : ∃ y : List UInt8 × List UInt8, (l[2 * q], l[2 * q + 1]) = y := ⟨_, rfl⟩
            have ey1 : l[2 * q] = y.1 := by rw [← hy]
            have ey2 : l[2 * q + 1] = y.2 := by rw [← hy]
            rw [ey1] at g1
            rw [ey2] at g2
            rw [hy] at hnx
            obtain ⟨X, hX⟩ : ∃ X : ByteArray, (⟨y.1.toArray⟩ : ByteArray) = X := ⟨_, rfl⟩
            obtain ⟨Y, hY⟩ : ∃ Y : ByteArray, (⟨y.2.toArray⟩ : ByteArray) = Y := ⟨_, rfl⟩
            rw [hX] at g1
            rw [hY] at g2
            have hpv : twoV y = [.string X, .string Y] := by unfold twoV; rw [hX, hY]
            have Hpv := hide hpv
            have Hnx : Hid (pairsL (l.take (2 * (q + 1))) = ps ++ [y]) := hnx
            have HO := hide O
            have HR := hide R
            have hnb : ps.length ≤ 2000 := by omega
            have Hnl := hide hpl
            obtain ⟨m, hm⟩ : ∃ m, 2 * q = m := ⟨_, rfl⟩
            have Hm := hide hm
            rw [hm] at g1 g2 hlt hlt1 ⊢
            have hwr : IntKind.i64.wrap ((m : Int) + 1) = (m : Int) + 1 := by rw [IntKind.wrap_i64]; omega
            have i1 : (0 : Int) ≤ (m : Int) := by omega
            have i2 : (m : Int) < (l.length : Int) := by omega
            have i3 : (0 : Int) ≤ (m : Int) + 1 := by omega
            have i4 : (m : Int) + 1 < (l.length : Int) := by omega
            clear hpv hnx hy ey1 ey2 hX hY hps hpl O R hm
            go_wp2
            refine wp_region_any (by kernel_rfl) ?_
            change wpAny _ _ _ _ _ _ _ (World.drew _)
            refine wpAny_take (i := 0) (v := ?_) rfl (by kernel_rfl) (by kernel_rfl) (by kernel_rfl) (fun _ _ _ h => h) (Or.inl ⟨by rfl, ?_⟩) ?_
            rotate_left
            · intro w; go_simp; try with_reducible rfl
            refine wpAny_take (i := 2) (v := ?_) rfl (by kernel_rfl) (by kernel_rfl) (by kernel_rfl) (fun _ _ _ h => h) (Or.inl ⟨by rfl, ?_⟩) ?_
            rotate_left
            · intro w; go_simp; try with_reducible rfl
            refine wpAny_take (i := 3) (v := ?_) rfl (by kernel_rfl) (by kernel_rfl) (by kernel_rfl) (fun _ _ _ h => h) (Or.inl ⟨by rfl, ?_⟩) ?_
            rotate_left
            · intro w; go_simp; try with_reducible rfl
            refine wpAny_take (i := 4) (v := ?_) rfl (by kernel_rfl) (by kernel_rfl) (by kernel_rfl) (fun _ _ _ h => h) (Or.inl ⟨by rfl, ?_⟩) ?_
            rotate_left
            · intro w; go_simp; try with_reducible rfl
            refine wpAny_take (i := 6) (v := ?_) rfl (by kernel_rfl) (by kernel_rfl) (by kernel_rfl) (fun _ _ _ h => h) (Or.inl ⟨by rfl, ?_⟩) ?_
            rotate_left
            · intro w; go_simp; try with_reducible rfl
            refine wpAny_take (i := 7) (v := ?_) rfl (by kernel_rfl) (by kernel_rfl) (by kernel_rfl) (fun _ _ _ h => h) (Or.inl ⟨by rfl, ?_⟩) ?_
            rotate_left
            · intro w; go_simp; try with_reducible rfl
            refine wpAny_take (i := 8) (v := ?_) rfl (by kernel_rfl) (by kernel_rfl) (by kernel_rfl) (fun _ _ _ h => h) (Or.inl ⟨by rfl, ?_⟩) ?_
            rotate_left
            · intro w; go_simp; try with_reducible rfl
            refine wpAny_take (i := 9) (v := ?_) rfl (by kernel_rfl) (by kernel_rfl) (by kernel_rfl) (fun _ _ _ h => h) (Or.inl ⟨by rfl, ?_⟩) ?_
            rotate_left
            · intro w; go_simp; try with_reducible rfl
            refine wpAny_ready (rs := [1, 5, 10]) (by kernel_rfl) (by simp) ?_
            refine AllReady.cons rfl (fun K hK => ?_) (AllReady.cons rfl (fun K hK => ?_) (AllReady.cons rfl (fun K hK => ?_) AllReady.nil))
            · go_simp
              first | (refine hK _ _ ?_; clear hK K) | skip
              refine wpAny_ready (rs := [5, 10]) (by kernel_rfl) (by simp) ?_
              refine AllReady.cons rfl (fun K hK => ?_) (AllReady.cons rfl (fun K hK => ?_) AllReady.nil)
              · go_simp
                first | (refine hK _ _ ?_; clear hK K) | skip
                refine wpAny_ready (rs := [10]) (by kernel_rfl) (by simp) ?_
                refine AllReady.cons rfl (fun K hK => ?_) AllReady.nil
                go_simp
                first | (refine hK _ _ ?_; clear hK K) | skip
                refine wpAny_take (i := 11) (v := ?_) rfl (by kernel_rfl) (by kernel_rfl) (by kernel_rfl) (fun _ _ _ h => h) (Or.inl ⟨by rfl, ?_⟩) ?_
                rotate_left
                · intro w; go_simp; try with_reducible rfl
                refine wpAny_ready (rs := [12]) (by kernel_rfl) (by simp) ?_
                refine AllReady.cons rfl (fun K hK => ?_) AllReady.nil
                go_simp
                first | (refine hK _ _ ?_; clear hK K) | skip
                refine wpAny_ready (rs := [13]) (by kernel_rfl) (by simp) ?_
                refine AllReady.cons rfl (fun K hK => ?_) AllReady.nil
                refine step_append_lies _ (by rfl) _ _ 25 (by rfl) (w.heap.size + 1 + 1) 77 j0 (.agg #[.string ⟨#[]⟩, .string ⟨#[]⟩]) 2 32 Try.underlying25 hj hy0 hy1 hy2 rfl (by decide) (.slice va ps.length vc) ps.length (pairsV ps) (by rfl) (World.ownsRow.alloc HR.out (.cells #[.string X, .string Y] 77)) ⟨wr.heap.size, 0, none⟩ 1 1 [.string X, .string Y] (by rfl) rfl ?c1 ?c2 (by decide) ?c3 ?c4 ?c5 _ rfl ?_
                case c1 =>
                  intro j u hj
                  match j, hj with
                  | 0, hj => simp at hj; subst hj; simp [Addr.add]
                  | 1, hj => simp at hj; subst hj; simp [Addr.add]
                case c2 => intro u hu; simp at hu; rcases hu with rfl | rfl <;> rfl
                case c3 => unfold maxLen; omega
                case c4 => omega
                case c5 => have := HO.out.val.lt; simp; omega
                intro g cap w4 hown hgrow hat hlt4
                have O4 := (HO.out.drew.alloc (.cells #[.string X, .string Y] 77)).grown (World.ownsRow.alloc HR.out (.cells #[.string X, .string Y] 77)) (by omega) hgrow
                have Hown := hide hown
                clear hown hgrow hat hlt4 x0 x1 x2 x3
                obtain ⟨x0, x1, x2, x3⟩ := cells4 O4.val
                have f3 := O4.val.free 3
                first | (refine hK _ _ ?_; clear hK K) | skip
                refine wpAny_ready (rs := [14]) (by kernel_rfl) (by simp) ?_
                refine AllReady.cons rfl (fun K hK => ?_) AllReady.nil
                go_simp
                first | (refine hK _ _ ?_; clear hK K) | skip
                refine wpAny_ready (rs := [15]) (by kernel_rfl) (by simp) ?_
                refine AllReady.cons rfl (fun K hK => ?_) AllReady.nil
                go_simp
                first | (refine hK _ _ ?_; clear hK K) | skip
                refine wpAny_done (by kernel_rfl) ?_ _
                have O5 := O4.put3 (.slice (some ⟨g, 0, none⟩) (ps.length + 1) cap)
                have HO5 := hide O5
                have ho5 := own_put (b := w.heap.size + 1) (j := 3) (u := .slice (some ⟨g, 0, none⟩) (ps.length + 1) cap) Hown.out (by omega)
                have Ho5 := hide ho5
                have hn4 : (ps ++ [y]).length = ps.length + 1 := by simp
                clear O4 O5 ho5 x0 x1 x2 x3 f3
                go_wp2
                go_roundw
                case rel => exact ⟨q + 1, ps ++ [y], some ⟨g, 0, none⟩, cap, by have := Hm.out; omega, by have := Hm.out; go_num, Hnx.out, by have := Hnl.out; omega, by rw [hn4]; exact HO5.out, by rw [hn4, pairsV_snoc, Hpv.out]; exact Ho5.out⟩
                case measure => have := Hm.out; simp [intOf]; omega
              · go_simp
                first | (refine hK _ _ ?_; clear hK K) | skip
                refine wpAny_ready (rs := [5]) (by kernel_rfl) (by simp) ?_
                refine AllReady.cons rfl (fun K hK => ?_) AllReady.nil
                go_simp
                first | (refine hK _ _ ?_; clear hK K) | skip
                refine wpAny_take (i := 11) (v := ?_) rfl (by kernel_rfl) (by kernel_rfl) (by kernel_rfl) (fun _ _ _ h => h) (Or.inl ⟨by rfl, ?_⟩) ?_
                rotate_left
                · intro w; go_simp; try with_reducible rfl
                refine wpAny_ready (rs := [12]) (by kernel_rfl) (by simp) ?_
                refine AllReady.cons rfl (fun K hK => ?_) AllReady.nil
                go_simp
                first | (refine hK _ _ ?_; clear hK K) | skip
                refine wpAny_ready (rs := [13]) (by kernel_rfl) (by simp) ?_
                refine AllReady.cons rfl (fun K hK => ?_) AllReady.nil
                refine step_append_lies _ (by rfl) _ _ 25 (by rfl) (w.heap.size + 1 + 1) 77 j0 (.agg #[.string ⟨#[]⟩, .string ⟨#[]⟩]) 2 32 Try.underlying25 hj hy0 hy1 hy2 rfl (by decide) (.slice va ps.length vc) ps.length (pairsV ps) (by rfl) (World.ownsRow.alloc HR.out (.cells #[.string X, .string Y] 77)) ⟨wr.heap.size, 0, none⟩ 1 1 [.string X, .string Y] (by rfl) rfl ?c1 ?c2 (by decide) ?c3 ?c4 ?c5 _ rfl ?_
                case c1 =>
                  intro j u hj
                  match j, hj with
                  | 0, hj => simp at hj; subst hj; simp [Addr.add]
                  | 1, hj => simp at hj; subst hj; simp [Addr.add]
                case c2 => intro u hu; simp at hu; rcases hu with rfl | rfl <;> rfl
                case c3 => unfold maxLen; omega
                case c4 => omega
                case c5 => have := HO.out.val.lt; simp; omega
                intro g cap w4 hown hgrow hat hlt4
                have O4 := (HO.out.drew.alloc (.cells #[.string X, .string Y] 77)).grown (World.ownsRow.alloc HR.out (.cells #[.string X, .string Y] 77)) (by omega) hgrow
                have Hown := hide hown
                clear hown hgrow hat hlt4 x0 x1 x2 x3
                obtain ⟨x0, x1, x2, x3⟩ := cells4 O4.val
                have f3 := O4.val.free 3
                first | (refine hK _ _ ?_; clear hK K) | skip
                refine wpAny_ready (rs := [14]) (by kernel_rfl) (by simp) ?_
                refine AllReady.cons rfl (fun K hK => ?_) AllReady.nil
                go_simp
                first | (refine hK _ _ ?_; clear hK K) | skip
                refine wpAny_ready (rs := [15]) (by kernel_rfl) (by simp) ?_
                refine AllReady.cons rfl (fun K hK => ?_) AllReady.nil
                go_simp
                first | (refine hK _ _ ?_; clear hK K) | skip
                refine wpAny_done (by kernel_rfl) ?_ _
                have O5 := O4.put3 (.slice (some ⟨g, 0, none⟩) (ps.length + 1) cap)
                have HO5 := hide O5
                have ho5 := own_put (b := w.heap.size + 1) (j := 3) (u := .slice (some ⟨g, 0, none⟩) (ps.length + 1) cap) Hown.out (by omega)
                have Ho5 := hide ho5
                have hn4 : (ps ++ [y]).length = ps.length + 1 := by simp
                clear O4 O5 ho5 x0 x1 x2 x3 f3
                go_wp2
                go_roundw
                case rel => exact ⟨q + 1, ps ++ [y], some ⟨g, 0, none⟩, cap, by have := Hm.out; omega, by have := Hm.out; go_num, Hnx.out, by have := Hnl.out; omega, by rw [hn4]; exact HO5.out, by rw [hn4, pairsV_snoc, Hpv.out]; exact Ho5.out⟩
                case measure => have := Hm.out; simp [intOf]; omega
            · go_simp
              first | (refine hK _ _ ?_; clear hK K) | skip
              refine wpAny_ready (rs := [1, 10]) (by kernel_rfl) (by simp) ?_
              refine AllReady.cons rfl (fun K hK => ?_) (AllReady.cons rfl (fun K hK => ?_) AllReady.nil)
              · go_simp
                first | (refine hK _ _ ?_; clear hK K) | skip
                refine wpAny_ready (rs := [10]) (by kernel_rfl) (by simp) ?_
                refine AllReady.cons rfl (fun K hK => ?_) AllReady.nil
                go_simp
                first | (refine hK _ _ ?_; clear hK K) | skip
                refine wpAny_take (i := 11) (v := ?_) rfl (by kernel_rfl) (by kernel_rfl) (by kernel_rfl) (fun _ _ _ h => h) (Or.inl ⟨by rfl, ?_⟩) ?_
                rotate_left
                · intro w; go_simp; try with_reducible rfl
                refine wpAny_ready (rs := [12]) (by kernel_rfl) (by simp) ?_
                refine AllReady.cons rfl (fun K hK => ?_) AllReady.nil
                go_simp
                first | (refine hK _ _ ?_; clear hK K) | skip
                refine wpAny_ready (rs := [13]) (by kernel_rfl) (by simp) ?_
                refine AllReady.cons rfl (fun K hK => ?_) AllReady.nil
                refine step_append_lies _ (by rfl) _ _ 25 (by rfl) (w.heap.size + 1 + 1) 77 j0 (.agg #[.string ⟨#[]⟩, .string ⟨#[]⟩]) 2 32 Try.underlying25 hj hy0 hy1 hy2 rfl (by decide) (.slice va ps.length vc) ps.length (pairsV ps) (by rfl) (World.ownsRow.alloc HR.out (.cells #[.string X, .string Y] 77)) ⟨wr.heap.size, 0, none⟩ 1 1 [.string X, .string Y] (by rfl) rfl ?c1 ?c2 (by decide) ?c3 ?c4 ?c5 _ rfl ?_
                case c1 =>
                  intro j u hj
                  match j, hj with
                  | 0, hj => simp at hj; subst hj; simp [Addr.add]
                  | 1, hj => simp at hj; subst hj; simp [Addr.add]
                case c2 => intro u hu; simp at hu; rcases hu with rfl | rfl <;> rfl
                case c3 => unfold maxLen; omega
                case c4 => omega
                case c5 => have := HO.out.val.lt; simp; omega
                intro g cap w4 hown hgrow hat hlt4
                have O4 := (HO.out.drew.alloc (.cells #[.string X, .string Y] 77)).grown (World.ownsRow.alloc HR.out (.cells #[.string X, .string Y] 77)) (by omega) hgrow
                have Hown := hide hown
                clear hown hgrow hat hlt4 x0 x1 x2 x3
                obtain ⟨x0, x1, x2, x3⟩ := cells4 O4.val
                have f3 := O4.val.free 3
                first | (refine hK _ _ ?_; clear hK K) | skip
                refine wpAny_ready (rs := [14]) (by kernel_rfl) (by simp) ?_
                refine AllReady.cons rfl (fun K hK => ?_) AllReady.nil
                go_simp
                first | (refine hK _ _ ?_; clear hK K) | skip
                refine wpAny_ready (rs := [15]) (by kernel_rfl) (by simp) ?_
                refine AllReady.cons rfl (fun K hK => ?_) AllReady.nil
                go_simp
                first | (refine hK _ _ ?_; clear hK K) | skip
                refine wpAny_done (by kernel_rfl) ?_ _
                have O5 := O4.put3 (.slice (some ⟨g, 0, none⟩) (ps.length + 1) cap)
                have HO5 := hide O5
                have ho5 := own_put (b := w.heap.size + 1) (j := 3) (u := .slice (some ⟨g, 0, none⟩) (ps.length + 1) cap) Hown.out (by omega)
                have Ho5 := hide ho5
                have hn4 : (ps ++ [y]).length = ps.length + 1 := by simp
                clear O4 O5 ho5 x0 x1 x2 x3 f3
                go_wp2
                go_roundw
                case rel => exact ⟨q + 1, ps ++ [y], some ⟨g, 0, none⟩, cap, by have := Hm.out; omega, by have := Hm.out; go_num, Hnx.out, by have := Hnl.out; omega, by rw [hn4]; exact HO5.out, by rw [hn4, pairsV_snoc, Hpv.out]; exact Ho5.out⟩
                case measure => have := Hm.out; simp [intOf]; omega
              · go_simp
                first | (refine hK _ _ ?_; clear hK K) | skip
                refine wpAny_take (i := 11) (v := ?_) rfl (by kernel_rfl) (by kernel_rfl) (by kernel_rfl) (fun _ _ _ h => h) (Or.inl ⟨by rfl, ?_⟩) ?_
                rotate_left
                · intro w; go_simp; try with_reducible rfl
                refine wpAny_ready (rs := [1, 12]) (by kernel_rfl) (by simp) ?_
                refine AllReady.cons rfl (fun K hK => ?_) (AllReady.cons rfl (fun K hK => ?_) AllReady.nil)
                · go_simp
                  first | (refine hK _ _ ?_; clear hK K) | skip
                  refine wpAny_ready (rs := [12]) (by kernel_rfl) (by simp) ?_
                  refine AllReady.cons rfl (fun K hK => ?_) AllReady.nil
                  go_simp
                  first | (refine hK _ _ ?_; clear hK K) | skip
                  refine wpAny_ready (rs := [13]) (by kernel_rfl) (by simp) ?_
                  refine AllReady.cons rfl (fun K hK => ?_) AllReady.nil
                  refine step_append_lies _ (by rfl) _ _ 25 (by rfl) (w.heap.size + 1 + 1) 77 j0 (.agg #[.string ⟨#[]⟩, .string ⟨#[]⟩]) 2 32 Try.underlying25 hj hy0 hy1 hy2 rfl (by decide) (.slice va ps.length vc) ps.length (pairsV ps) (by rfl) (World.ownsRow.alloc HR.out (.cells #[.string X, .string Y] 77)) ⟨wr.heap.size, 0, none⟩ 1 1 [.string X, .string Y] (by rfl) rfl ?c1 ?c2 (by decide) ?c3 ?c4 ?c5 _ rfl ?_
                  case c1 =>
                    intro j u hj
                    match j, hj with
                    | 0, hj => simp at hj; subst hj; simp [Addr.add]
                    | 1, hj => simp at hj; subst hj; simp [Addr.add]
                  case c2 => intro u hu; simp at hu; rcases hu with rfl | rfl <;> rfl
                  case c3 => unfold maxLen; omega
                  case c4 => omega
                  case c5 => have := HO.out.val.lt; simp; omega
                  intro g cap w4 hown hgrow hat hlt4
                  have O4 := (HO.out.drew.alloc (.cells #[.string X, .string Y] 77)).grown (World.ownsRow.alloc HR.out (.cells #[.string X, .string Y] 77)) (by omega) hgrow
                  have Hown := hide hown
                  clear hown hgrow hat hlt4 x0 x1 x2 x3
                  obtain ⟨x0, x1, x2, x3⟩ := cells4 O4.val
                  have f3 := O4.val.free 3
                  first | (refine hK _ _ ?_; clear hK K) | skip
                  refine wpAny_ready (rs := [14]) (by kernel_rfl) (by simp) ?_
                  refine AllReady.cons rfl (fun K hK => ?_) AllReady.nil
                  go_simp
                  first | (refine hK _ _ ?_; clear hK K) | skip
                  refine wpAny_ready (rs := [15]) (by kernel_rfl) (by simp) ?_
                  refine AllReady.cons rfl (fun K hK => ?_) AllReady.nil
                  go_simp
                  first | (refine hK _ _ ?_; clear hK K) | skip
                  refine wpAny_done (by kernel_rfl) ?_ _
                  have O5 := O4.put3 (.slice (some ⟨g, 0, none⟩) (ps.length + 1) cap)
                  have HO5 := hide O5
                  have ho5 := own_put (b := w.heap.size + 1) (j := 3) (u := .slice (some ⟨g, 0, none⟩) (ps.length + 1) cap) Hown.out (by omega)
                  have Ho5 := hide ho5
                  have hn4 : (ps ++ [y]).length = ps.length + 1 := by simp
                  clear O4 O5 ho5 x0 x1 x2 x3 f3
                  go_wp2
                  go_roundw
                  case rel => exact ⟨q + 1, ps ++ [y], some ⟨g, 0, none⟩, cap, by have := Hm.out; omega, by have := Hm.out; go_num, Hnx.out, by have := Hnl.out; omega, by rw [hn4]; exact HO5.out, by rw [hn4, pairsV_snoc, Hpv.out]; exact Ho5.out⟩
                  case measure => have := Hm.out; simp [intOf]; omega
                · go_simp
                  first | (refine hK _ _ ?_; clear hK K) | skip
                  clear x0 x1 x2 x3
                  obtain ⟨x0, x1, x2, x3⟩ := cells4 (HO.out.alloc (.cells #[.string X, .string Y] 77)).val
                  refine wpAny_ready (rs := [1]) (by kernel_rfl) (by simp) ?_
                  refine AllReady.cons rfl (fun K hK => ?_) AllReady.nil
                  go_simp
                  first | (refine hK _ _ ?_; clear hK K) | skip
                  refine wpAny_ready (rs := [13]) (by kernel_rfl) (by simp) ?_
                  refine AllReady.cons rfl (fun K hK => ?_) AllReady.nil
                  refine step_append_lies _ (by rfl) _ _ 25 (by rfl) (w.heap.size + 1 + 1) 77 j0 (.agg #[.string ⟨#[]⟩, .string ⟨#[]⟩]) 2 32 Try.underlying25 hj hy0 hy1 hy2 rfl (by decide) (.slice va ps.length vc) ps.length (pairsV ps) (by rfl) (World.ownsRow.alloc HR.out (.cells #[.string X, .string Y] 77)) ⟨wr.heap.size, 0, none⟩ 1 1 [.string X, .string Y] (by rfl) rfl ?c1 ?c2 (by decide) ?c3 ?c4 ?c5 _ rfl ?_
                  case c1 =>
                    intro j u hj
                    match j, hj with
                    | 0, hj => simp at hj; subst hj; simp [Addr.add]
                    | 1, hj => simp at hj; subst hj; simp [Addr.add]
                  case c2 => intro u hu; simp at hu; rcases hu with rfl | rfl <;> rfl
                  case c3 => unfold maxLen; omega
                  case c4 => omega
                  case c5 => have := HO.out.val.lt; simp; omega
                  intro g cap w4 hown hgrow hat hlt4
                  have O4 := (HO.out.drew.alloc (.cells #[.string X, .string Y] 77)).grown (World.ownsRow.alloc HR.out (.cells #[.string X, .string Y] 77)) (by omega) hgrow
                  have Hown := hide hown
                  clear hown hgrow hat hlt4 x0 x1 x2 x3
                  obtain ⟨x0, x1, x2, x3⟩ := cells4 O4.val
                  have f3 := O4.val.free 3
                  first | (refine hK _ _ ?_; clear hK K) | skip
                  refine wpAny_ready (rs := [14]) (by kernel_rfl) (by simp) ?_
                  refine AllReady.cons rfl (fun K hK => ?_) AllReady.nil
                  go_simp
                  first | (refine hK _ _ ?_; clear hK K) | skip
                  refine wpAny_ready (rs := [15]) (by kernel_rfl) (by simp) ?_
                  refine AllReady.cons rfl (fun K hK => ?_) AllReady.nil
                  go_simp
                  first | (refine hK _ _ ?_; clear hK K) | skip
                  refine wpAny_done (by kernel_rfl) ?_ _
                  have O5 := O4.put3 (.slice (some ⟨g, 0, none⟩) (ps.length + 1) cap)
                  have HO5 := hide O5
                  have ho5 := own_put (b := w.heap.size + 1) (j := 3) (u := .slice (some ⟨g, 0, none⟩) (ps.length + 1) cap) Hown.out (by omega)
                  have Ho5 := hide ho5
                  have hn4 : (ps ++ [y]).length = ps.length + 1 := by simp
                  clear O4 O5 ho5 x0 x1 x2 x3 f3
                  go_wp2
                  go_roundw
                  case rel => exact ⟨q + 1, ps ++ [y], some ⟨g, 0, none⟩, cap, by have := Hm.out; omega, by have := Hm.out; go_num, Hnx.out, by have := Hnl.out; omega, by rw [hn4]; exact HO5.out, by rw [hn4, pairsV_snoc, Hpv.out]; exact Ho5.out⟩
                  case measure => have := Hm.out; simp [intOf]; omega
            · go_simp
              first | (refine hK _ _ ?_; clear hK K) | skip
              refine wpAny_ready (rs := [1, 5]) (by kernel_rfl) (by simp) ?_
              refine AllReady.cons rfl (fun K hK => ?_) (AllReady.cons rfl (fun K hK => ?_) AllReady.nil)
              · go_simp
                first | (refine hK _ _ ?_; clear hK K) | skip
                refine wpAny_ready (rs := [5]) (by kernel_rfl) (by simp) ?_
                refine AllReady.cons rfl (fun K hK => ?_) AllReady.nil
                go_simp
                first | (refine hK _ _ ?_; clear hK K) | skip
                refine wpAny_take (i := 11) (v := ?_) rfl (by kernel_rfl) (by kernel_rfl) (by kernel_rfl) (fun _ _ _ h => h) (Or.inl ⟨by rfl, ?_⟩) ?_
                rotate_left
                · intro w; go_simp; try with_reducible rfl
                refine wpAny_ready (rs := [12]) (by kernel_rfl) (by simp) ?_
                refine AllReady.cons rfl (fun K hK => ?_) AllReady.nil
                go_simp
                first | (refine hK _ _ ?_; clear hK K) | skip
                refine wpAny_ready (rs := [13]) (by kernel_rfl) (by simp) ?_
                refine AllReady.cons rfl (fun K hK => ?_) AllReady.nil
                refine step_append_lies _ (by rfl) _ _ 25 (by rfl) (w.heap.size + 1 + 1) 77 j0 (.agg #[.string ⟨#[]⟩, .string ⟨#[]⟩]) 2 32 Try.underlying25 hj hy0 hy1 hy2 rfl (by decide) (.slice va ps.length vc) ps.length (pairsV ps) (by rfl) (World.ownsRow.alloc HR.out (.cells #[.string X, .string Y] 77)) ⟨wr.heap.size, 0, none⟩ 1 1 [.string X, .string Y] (by rfl) rfl ?c1 ?c2 (by decide) ?c3 ?c4 ?c5 _ rfl ?_
                case c1 =>
                  intro j u hj
                  match j, hj with
                  | 0, hj => simp at hj; subst hj; simp [Addr.add]
                  | 1, hj => simp at hj; subst hj; simp [Addr.add]
                case c2 => intro u hu; simp at hu; rcases hu with rfl | rfl <;> rfl
                case c3 => unfold maxLen; omega
                case c4 => omega
                case c5 => have := HO.out.val.lt; simp; omega
                intro g cap w4 hown hgrow hat hlt4
                have O4 := (HO.out.drew.alloc (.cells #[.string X, .string Y] 77)).grown (World.ownsRow.alloc HR.out (.cells #[.string X, .string Y] 77)) (by omega) hgrow
                have Hown := hide hown
                clear hown hgrow hat hlt4 x0 x1 x2 x3
                obtain ⟨x0, x1, x2, x3⟩ := cells4 O4.val
                have f3 := O4.val.free 3
                first | (refine hK _ _ ?_; clear hK K) | skip
                refine wpAny_ready (rs := [14]) (by kernel_rfl) (by simp) ?_
                refine AllReady.cons rfl (fun K hK => ?_) AllReady.nil
                go_simp
                first | (refine hK _ _ ?_; clear hK K) | skip
                refine wpAny_ready (rs := [15]) (by kernel_rfl) (by simp) ?_
                refine AllReady.cons rfl (fun K hK => ?_) AllReady.nil
                go_simp
                first | (refine hK _ _ ?_; clear hK K) | skip
                refine wpAny_done (by kernel_rfl) ?_ _
                have O5 := O4.put3 (.slice (some ⟨g, 0, none⟩) (ps.length + 1) cap)
                have HO5 := hide O5
                have ho5 := own_put (b := w.heap.size + 1) (j := 3) (u := .slice (some ⟨g, 0, none⟩) (ps.length + 1) cap) Hown.out (by omega)
                have Ho5 := hide ho5
                have hn4 : (ps ++ [y]).length = ps.length + 1 := by simp
                clear O4 O5 ho5 x0 x1 x2 x3 f3
                go_wp2
                go_roundw
                case rel => exact ⟨q + 1, ps ++ [y], some ⟨g, 0, none⟩, cap, by have := Hm.out; omega, by have := Hm.out; go_num, Hnx.out, by have := Hnl.out; omega, by rw [hn4]; exact HO5.out, by rw [hn4, pairsV_snoc, Hpv.out]; exact Ho5.out⟩
                case measure => have := Hm.out; simp [intOf]; omega
              · go_simp
                first | (refine hK _ _ ?_; clear hK K) | skip
                refine wpAny_take (i := 11) (v := ?_) rfl (by kernel_rfl) (by kernel_rfl) (by kernel_rfl) (fun _ _ _ h => h) (Or.inl ⟨by rfl, ?_⟩) ?_
                rotate_left
                · intro w; go_simp; try with_reducible rfl
                refine wpAny_ready (rs := [1, 12]) (by kernel_rfl) (by simp) ?_
                refine AllReady.cons rfl (fun K hK => ?_) (AllReady.cons rfl (fun K hK => ?_) AllReady.nil)
                · go_simp
                  first | (refine hK _ _ ?_; clear hK K) | skip
                  refine wpAny_ready (rs := [12]) (by kernel_rfl) (by simp) ?_
                  refine AllReady.cons rfl (fun K hK => ?_) AllReady.nil
                  go_simp
                  first | (refine hK _ _ ?_; clear hK K) | skip
                  refine wpAny_ready (rs := [13]) (by kernel_rfl) (by simp) ?_
                  refine AllReady.cons rfl (fun K hK => ?_) AllReady.nil
                  refine step_append_lies _ (by rfl) _ _ 25 (by rfl) (w.heap.size + 1 + 1) 77 j0 (.agg #[.string ⟨#[]⟩, .string ⟨#[]⟩]) 2 32 Try.underlying25 hj hy0 hy1 hy2 rfl (by decide) (.slice va ps.length vc) ps.length (pairsV ps) (by rfl) (World.ownsRow.alloc HR.out (.cells #[.string X, .string Y] 77)) ⟨wr.heap.size, 0, none⟩ 1 1 [.string X, .string Y] (by rfl) rfl ?c1 ?c2 (by decide) ?c3 ?c4 ?c5 _ rfl ?_
                  case c1 =>
                    intro j u hj
                    match j, hj with
                    | 0, hj => simp at hj; subst hj; simp [Addr.add]
                    | 1, hj => simp at hj; subst hj; simp [Addr.add]
                  case c2 => intro u hu; simp at hu; rcases hu with rfl | rfl <;> rfl
                  case c3 => unfold maxLen; omega
                  case c4 => omega
                  case c5 => have := HO.out.val.lt; simp; omega
                  intro g cap w4 hown hgrow hat hlt4
                  have O4 := (HO.out.drew.alloc (.cells #[.string X, .string Y] 77)).grown (World.ownsRow.alloc HR.out (.cells #[.string X, .string Y] 77)) (by omega) hgrow
                  have Hown := hide hown
                  clear hown hgrow hat hlt4 x0 x1 x2 x3
                  obtain ⟨x0, x1, x2, x3⟩ := cells4 O4.val
                  have f3 := O4.val.free 3
                  first | (refine hK _ _ ?_; clear hK K) | skip
                  refine wpAny_ready (rs := [14]) (by kernel_rfl) (by simp) ?_
                  refine AllReady.cons rfl (fun K hK => ?_) AllReady.nil
                  go_simp
                  first | (refine hK _ _ ?_; clear hK K) | skip
                  refine wpAny_ready (rs := [15]) (by kernel_rfl) (by simp) ?_
                  refine AllReady.cons rfl (fun K hK => ?_) AllReady.nil
                  go_simp
                  first | (refine hK _ _ ?_; clear hK K) | skip
                  refine wpAny_done (by kernel_rfl) ?_ _
                  have O5 := O4.put3 (.slice (some ⟨g, 0, none⟩) (ps.length + 1) cap)
                  have HO5 := hide O5
                  have ho5 := own_put (b := w.heap.size + 1) (j := 3) (u := .slice (some ⟨g, 0, none⟩) (ps.length + 1) cap) Hown.out (by omega)
                  have Ho5 := hide ho5
                  have hn4 : (ps ++ [y]).length = ps.length + 1 := by simp
                  clear O4 O5 ho5 x0 x1 x2 x3 f3
                  go_wp2
                  go_roundw
                  case rel => exact ⟨q + 1, ps ++ [y], some ⟨g, 0, none⟩, cap, by have := Hm.out; omega, by have := Hm.out; go_num, Hnx.out, by have := Hnl.out; omega, by rw [hn4]; exact HO5.out, by rw [hn4, pairsV_snoc, Hpv.out]; exact Ho5.out⟩
                  case measure => have := Hm.out; simp [intOf]; omega
                · go_simp
                  first | (refine hK _ _ ?_; clear hK K) | skip
                  clear x0 x1 x2 x3
                  obtain ⟨x0, x1, x2, x3⟩ := cells4 (HO.out.alloc (.cells #[.string X, .string Y] 77)).val
                  refine wpAny_ready (rs := [1]) (by kernel_rfl) (by simp) ?_
                  refine AllReady.cons rfl (fun K hK => ?_) AllReady.nil
                  go_simp
                  first | (refine hK _ _ ?_; clear hK K) | skip
                  refine wpAny_ready (rs := [13]) (by kernel_rfl) (by simp) ?_
                  refine AllReady.cons rfl (fun K hK => ?_) AllReady.nil
                  refine step_append_lies _ (by rfl) _ _ 25 (by rfl) (w.heap.size + 1 + 1) 77 j0 (.agg #[.string ⟨#[]⟩, .string ⟨#[]⟩]) 2 32 Try.underlying25 hj hy0 hy1 hy2 rfl (by decide) (.slice va ps.length vc) ps.length (pairsV ps) (by rfl) (World.ownsRow.alloc HR.out (.cells #[.string X, .string Y] 77)) ⟨wr.heap.size, 0, none⟩ 1 1 [.string X, .string Y] (by rfl) rfl ?c1 ?c2 (by decide) ?c3 ?c4 ?c5 _ rfl ?_
                  case c1 =>
                    intro j u hj
                    match j, hj with
                    | 0, hj => simp at hj; subst hj; simp [Addr.add]
                    | 1, hj => simp at hj; subst hj; simp [Addr.add]
                  case c2 => intro u hu; simp at hu; rcases hu with rfl | rfl <;> rfl
                  case c3 => unfold maxLen; omega
                  case c4 => omega
                  case c5 => have := HO.out.val.lt; simp; omega
                  intro g cap w4 hown hgrow hat hlt4
                  have O4 := (HO.out.drew.alloc (.cells #[.string X, .string Y] 77)).grown (World.ownsRow.alloc HR.out (.cells #[.string X, .string Y] 77)) (by omega) hgrow
                  have Hown := hide hown
                  clear hown hgrow hat hlt4 x0 x1 x2 x3
                  obtain ⟨x0, x1, x2, x3⟩ := cells4 O4.val
                  have f3 := O4.val.free 3
                  first | (refine hK _ _ ?_; clear hK K) | skip
                  refine wpAny_ready (rs := [14]) (by kernel_rfl) (by simp) ?_
                  refine AllReady.cons rfl (fun K hK => ?_) AllReady.nil
                  go_simp
                  first | (refine hK _ _ ?_; clear hK K) | skip
                  refine wpAny_ready (rs := [15]) (by kernel_rfl) (by simp) ?_
                  refine AllReady.cons rfl (fun K hK => ?_) AllReady.nil
                  go_simp
                  first | (refine hK _ _ ?_; clear hK K) | skip
                  refine wpAny_done (by kernel_rfl) ?_ _
                  have O5 := O4.put3 (.slice (some ⟨g, 0, none⟩) (ps.length + 1) cap)
                  have HO5 := hide O5
                  have ho5 := own_put (b := w.heap.size + 1) (j := 3) (u := .slice (some ⟨g, 0, none⟩) (ps.length + 1) cap) Hown.out (by omega)
                  have Ho5 := hide ho5
                  have hn4 : (ps ++ [y]).length = ps.length + 1 := by simp
                  clear O4 O5 ho5 x0 x1 x2 x3 f3
                  go_wp2
                  go_roundw
                  case rel => exact ⟨q + 1, ps ++ [y], some ⟨g, 0, none⟩, cap, by have := Hm.out; omega, by have := Hm.out; go_num, Hnx.out, by have := Hnl.out; omega, by rw [hn4]; exact HO5.out, by rw [hn4, pairsV_snoc, Hpv.out]; exact Ho5.out⟩
                  case measure => have := Hm.out; simp [intOf]; omega
          · have hqe : 2 * q = l.length := by omega
            have hte : pairsL l = ps := by rw [← hps, hqe, List.take_length]
            have hoe : o = some ⟨3, [], [], ps⟩ := by rw [Hoo.out, hte]
            have Hoe := hide hoe
            clear hoe
            have HO := hide O
            have HR := hide R
            have hnl2 : ¬ 2 * q + 1 < l.length := by omega
            obtain ⟨r0, r1, r2, r3⟩ := cells4 O.res
            have e0 := O.res.free 0
            have e1 := O.res.free 1
            have e2 := O.res.free 2
            have e3 := O.res.free 3
            obtain ⟨m, hm⟩ : ∃ m, 2 * q = m := ⟨_, rfl⟩
            have hmb : m ≤ 2000 := by omega
            rw [hm] at hnl2 ⊢
            clear hte hps hpl O R hqe hm hlt
            go_wp2
            have ho5 := own_copy (w := w) (y0 := .int .i64 3) (y1 := .string ⟨#[]⟩) (y2 := .slice none 0 0) (y3 := .slice va ps.length vc) HR.out (by omega)
            refine bodyPost_ret (v := .tuple #[.agg #[.int .i64 3, .string ⟨#[]⟩, .slice none 0 0, .slice va ps.length vc], .bool true]) (ret_cell_tmp Try.results42 _ _ rfl HO.out.copy.2 Try.underlying27 rfl (by kernel_rfl)) rfl (of_yes Hoe.out HO.out.copy.1 ⟨.slice none 0 0, .slice va ps.length vc, rfl, .inl ⟨rfl, _, _, rfl⟩, PairsAt.of_owns ho5⟩ ⟨_, _, _, _, rfl, Newly.none _ _ _, Newly.of_owns ho5 (by omega)⟩)
end Go.Proofs.Ytpfcfadbilaleaa
/-
  The reference's Of and Texts, as Canon calls them (layer 8).
-/
namespace Go.Proofs.Ytpfcfadbilaleaa
open Go.RowKit

/-- a value told -/
def VlPost (w : World) (c : Vl) (e : Ending) (w' : World) : Prop := ∃ la lc pa pc, e = .returned (.agg #[.int .i64 c.kind, .string ⟨c.s.toArray⟩, .slice la c.l.length lc, .slice pa c.p.length pc]) ∧ StrsAt w' (.slice la c.l.length lc) c.l ∧ PairsAt w' (.slice pa c.p.length pc) c.p ∧ Below w.heap.size w w' ∧ Newly w.heap.size (.slice la c.l.length lc) ∧ Newly w.heap.size (.slice pa c.p.length pc)
theorem rof_canon (v : Vl) (k : Int) (hk : v.kind = k) (u : Value) (l : List (List UInt8)) (w : World) (H : StrsAt w u l) (hl : l.length ≤ 2000) (e : textsV v = l) : Calls Try.prog 42 #[.int .i64 k, u] w fun e w' => ∃ la lc pa pc b, e = .returned (.tuple #[.agg #[.int .i64 (canonV v).kind, .string ⟨(canonV v).s.toArray⟩, .slice la (canonV v).l.length lc, .slice pa (canonV v).p.length pc], .bool b]) ∧ StrsAt w' (.slice la (canonV v).l.length lc) (canonV v).l ∧ PairsAt w' (.slice pa (canonV v).p.length pc) (canonV v).p ∧ Newly w.heap.size (.slice la (canonV v).l.length lc) ∧ Newly w.heap.size (.slice pa (canonV v).p.length pc) ∧ Below w.heap.size w w' := by
  subst e hk
  refine (rof_any v.kind u (textsV v) w H hl).mono ?_
  rintro e w' ⟨hB, he⟩
  unfold canonV
  cases ho : ofV v.kind (textsV v) with
  | none =>
    rw [ho] at he
    subst he
    exact ⟨none, 0, none, 0, false, rfl, .inl ⟨rfl, _, _, rfl⟩, .inl ⟨rfl, _, _, rfl⟩, Newly.none _ _ _, Newly.none _ _ _, hB⟩
  | some c =>
    rw [ho] at he
    obtain ⟨x, rfl, ⟨sl, sp, rfl, h1, h2⟩, _, _, _, _, e, n1, n2⟩ := he
    cases e
    obtain ⟨la, lc, rfl⟩ := h1.form
    obtain ⟨pa, pc, rfl⟩ := h2.form
    exact ⟨la, lc, pa, pc, true, rfl, h1, h2, n1, n2, hB⟩
theorem rtexts_is (x : Value) (v : Vl) (ts : List (List UInt8)) (w : World) (H : VlAt w x v) (hl : v.l.length ≤ 1000) (hp : v.p.length ≤ 1000) (h : textsV v = ts) : Calls Try.prog 33 #[x] w fun e w' => ∃ a c, e = .returned (.slice a ts.length c) ∧ StrsAt w' (.slice a ts.length c) ts ∧ Below w.heap.size w w' := by
  subst h; exact rtexts_any x v w H hl hp
theorem texts_len (v : Vl) (hl : v.l.length ≤ 1000) (hp : v.p.length ≤ 1000) : (textsV v).length ≤ 2000 := by
  unfold textsV
  split
  · simp
  · split
    · omega
    · split
      · rw [flat_len]; omega
      · simp
end Go.Proofs.Ytpfcfadbilaleaa
/-
  WALKS: the reference's Canon (layer 8).
-/
namespace Go.Proofs.Ytpfcfadbilaleaa
open Go.RowKit

/-- an argument's cells, and the result's -/
structure Kx (w W : World) (k : Int) (S : ByteArray) (sl sp : Value) : Prop where
  bel : Below w.heap.size w W
  box : Bx W w.heap.size #[.int .i64 k, .string S, sl, sp] 27
  res : Bx W (w.heap.size + 1) #[.int .i64 0, .string ⟨#[]⟩, .slice none 0 0, .slice none 0 0] 27
section
variable {w W W' : World} {k : Int} {S : ByteArray} {sl sp : Value}
theorem Kx.next (h : Kx w W k S sl sp) (bb : Below W.heap.size W W') : Kx w W' k S sl sp := ⟨h.bel.trans (bb.mono h.bel.size), h.box.next bb, h.res.next bb⟩
theorem Kx.drew (h : Kx w W k S sl sp) : Kx w W.drew k S sl sp := ⟨h.bel.drew, h.box, h.res⟩
theorem Kx.alloc (h : Kx w W k S sl sp) (o : Obj) : Kx w (W.alloc o) k S sl sp := h.next ((Below.refl _ _).alloc (Nat.le_refl _) _)
theorem Kx.all (h : Kx w W k S sl sp) : W.cell? ⟨w.heap.size, 0, none⟩ = some (.int .i64 k) ∧ W.cell? ⟨w.heap.size, 1, none⟩ = some (.string S) ∧ W.cell? ⟨w.heap.size, 2, none⟩ = some sl ∧ W.cell? ⟨w.heap.size, 3, none⟩ = some sp := cells4 h.box
theorem Kx.put4 (h : Kx w W k S sl sp) {b : Nat} (hb : w.heap.size + 1 < b) (a0 a1 a2 a3 : Value) : Kx w ((((W.setCell ⟨b, 0, none⟩ a0).setCell ⟨b, 1, none⟩ a1).setCell ⟨b, 2, none⟩ a2).setCell ⟨b, 3, none⟩ a3) k S sl sp :=
  ⟨(((h.bel.setCell (p := ⟨b, 0, none⟩) (by simp; omega) _).setCell (p := ⟨b, 1, none⟩) (by simp; omega) _).setCell (p := ⟨b, 2, none⟩) (by simp; omega) _).setCell (p := ⟨b, 3, none⟩) (by simp; omega) _,
    (((h.box.other (by omega) _ _).other (by omega) _ _).other (by omega) _ _).other (by omega) _ _, (((h.res.other (by omega) _ _).other (by omega) _ _).other (by omega) _ _).other (by omega) _ _⟩
end
theorem Newly.le {n m : Nat} {v : Value} (h : Newly n v) (hm : m ≤ n) : Newly m v := fun b off k c e => Nat.le_trans hm (h b off k c e)
theorem cell_other {W : World} {b g j o : Nat} {u : Value} (h : b ≠ g) : (W.setCell ⟨b, j, none⟩ u).cell? ⟨g, o, none⟩ = W.cell? ⟨g, o, none⟩ := by
  unfold World.cell?
  rw [heap_setCell_other _ _ _ _ (Ne.symm h)]
theorem StrsAt.put {W : World} {v : Value} {ps : List (List UInt8)} {n b : Nat} (h : StrsAt W v ps) (hn : Newly n v) (hb : b < n) (j : Nat) (u : Value) : StrsAt (W.setCell ⟨b, j, none⟩ u) v ps := by
  rcases h with h | ⟨hp, g, off, cap, rfl, hc⟩
  · exact .inl h
  · have := hn g off _ _ rfl
    exact .inr ⟨hp, g, off, cap, rfl, fun k hk => by rw [cell_other (by omega)]; exact hc k hk⟩
theorem PairsAt.put {W : World} {v : Value} {ps : List (List UInt8 × List UInt8)} {n b : Nat} (h : PairsAt W v ps) (hn : Newly n v) (hb : b < n) (j : Nat) (u : Value) : PairsAt (W.setCell ⟨b, j, none⟩ u) v ps := by
  rcases h with h | ⟨hp, g, off, cap, rfl, hc⟩
  · exact .inl h
  · have := hn g off _ _ rfl
    exact .inr ⟨hp, g, off, cap, rfl, fun k hk => by rw [cell_other (by omega), cell_other (by omega)]; exact hc k hk⟩
theorem canon_end {w W : World} {k : Int} {S : ByteArray} {sl sp : Value} {c : Vl} {la pa : Option Addr} {lc pc cb : Nat} (K : Kx w W k S sl sp) (_C : Bx W cb #[.int .i64 c.kind, .string ⟨c.s.toArray⟩, .slice la c.l.length lc, .slice pa c.p.length pc] 27) (_hc : w.heap.size + 1 < cb)
    (R1 : StrsAt W (.slice la c.l.length lc) c.l) (R2 : PairsAt W (.slice pa c.p.length pc) c.p) (N1 : Newly (w.heap.size + 2) (.slice la c.l.length lc)) (N2 : Newly (w.heap.size + 2) (.slice pa c.p.length pc)) :
    Bx ((((W.setCell ⟨w.heap.size + 1, 0, none⟩ (.int .i64 c.kind)).setCell ⟨w.heap.size + 1, 1, none⟩ (.string ⟨c.s.toArray⟩)).setCell ⟨w.heap.size + 1, 2, none⟩ (.slice la c.l.length lc)).setCell ⟨w.heap.size + 1, 3, none⟩ (.slice pa c.p.length pc)) (w.heap.size + 1) #[.int .i64 c.kind, .string ⟨c.s.toArray⟩, .slice la c.l.length lc, .slice pa c.p.length pc] 27 ∧
    VlPost w c (.returned (.agg #[.int .i64 c.kind, .string ⟨c.s.toArray⟩, .slice la c.l.length lc, .slice pa c.p.length pc])) ((((W.setCell ⟨w.heap.size + 1, 0, none⟩ (.int .i64 c.kind)).setCell ⟨w.heap.size + 1, 1, none⟩ (.string ⟨c.s.toArray⟩)).setCell ⟨w.heap.size + 1, 2, none⟩ (.slice la c.l.length lc)).setCell ⟨w.heap.size + 1, 3, none⟩ (.slice pa c.p.length pc)) :=
  ⟨(((K.res.put 0 _).put 1 _).put 2 _).put 3 _, la, lc, pa, pc, rfl, (((R1.put N1 (by omega) _ _).put N1 (by omega) _ _).put N1 (by omega) _ _).put N1 (by omega) _ _, (((R2.put N2 (by omega) _ _).put N2 (by omega) _ _).put N2 (by omega) _ _).put N2 (by omega) _ _,
    (((K.bel.setCell (p := ⟨_, 0, none⟩) (by simp) _).setCell (p := ⟨_, 1, none⟩) (by simp) _).setCell (p := ⟨_, 2, none⟩) (by simp) _).setCell (p := ⟨_, 3, none⟩) (by simp) _, N1.le (by omega), N2.le (by omega)⟩
theorem b_drew (W : World) : Below W.heap.size W W.drew := (Below.refl _ _).drew
theorem b_alloc (W : World) (o : Obj) : Below W.heap.size W (W.alloc o) := (Below.refl _ _).alloc (Nat.le_refl _) _
theorem b_alloc_drew (W : World) (o : Obj) : Below W.heap.size W (W.alloc o).drew := ((Below.refl _ _).alloc (Nat.le_refl _) _).drew
theorem b_drew_alloc (W : World) (o : Obj) : Below W.heap.size W (W.drew.alloc o) := ((Below.refl _ _).drew).alloc (Nat.le_refl _) _
theorem made_next {W W' : World} {cs : Array Value} {t : TypeId} (bb : Below (W.alloc (.cells cs t)).heap.size (W.alloc (.cells cs t)) W') : Bx W' W.heap.size cs t := (Bx.made W cs t).next bb
theorem made_drew_next {W W' : World} {cs : Array Value} {t : TypeId} (bb : Below (W.alloc (.cells cs t)).drew.heap.size (W.alloc (.cells cs t)).drew W') : Bx W' W.heap.size cs t := (Bx.made W cs t).drew.next bb
set_option maxRecDepth 20000 in
set_option maxHeartbeats 4000000 in
theorem rcanon_any (x : Value) (v : Vl) (w : World) (H : VlAt w x v) (hl : v.l.length ≤ 1000) (hp : v.p.length ≤ 1000) : Calls Try.prog 19 #[x] w fun e w' => VlPost w (canonV v) e w' := by
  have H0 := hide H
  obtain ⟨sl, sp, rfl, h1, h2⟩ := H
  obtain ⟨S, hS⟩ : ∃ S : ByteArray, (⟨v.s.toArray⟩ : ByteArray) = S := ⟨_, rfl⟩
  obtain ⟨k, hk⟩ : ∃ k, v.kind = k := ⟨_, rfl⟩
  rw [hS, hk] at H0 ⊢
  clear h1 h2 hS
  have K : Kx w ((w.alloc (.cells #[.int .i64 k, .string S, sl, sp] 27)).alloc (.cells #[.int .i64 0, .string ⟨#[]⟩, .slice none 0 0, .slice none 0 0] 27)) k S sl sp := by
    refine ⟨((Below.refl _ _).alloc (Nat.le_refl _) _).alloc (by simp) _, (Bx.made _ _ _).later _, ?_⟩
    have := Bx.made (w.alloc (.cells #[.int .i64 k, .string S, sl, sp] 27)) #[.int .i64 0, .string ⟨#[]⟩, .slice none 0 0, .slice none 0 0] 27
    simpa using this
  obtain ⟨ts, hts⟩ : ∃ ts, textsV v = ts := ⟨_, rfl⟩
  have hln : ts.length ≤ 2000 := by rw [← hts]; exact texts_len v hl hp
  have Hts := hide hts
  have Hk := hide hk
  clear hts hk
  go_enter Try.func19, Try.ntmps19
  go_wp2
  obtain ⟨x0, x1, x2, x3⟩ := K.all
  go_region_held3 (fun W => W.cell? ⟨w.heap.size, 0, none⟩ = some (.int .i64 k) ∧ W.cell? ⟨w.heap.size, 1, none⟩ = some (.string S) ∧ W.cell? ⟨w.heap.size, 2, none⟩ = some sl ∧ W.cell? ⟨w.heap.size, 3, none⟩ = some sp) (first | with_reducible exact K.all | with_reducible exact K.drew.all | with_reducible exact (K.alloc _).all | with_reducible exact (K.alloc _).drew.all | with_reducible exact (K.drew.alloc _).all | with_reducible exact (K.put4 (by first | omega | (simp; omega)) _ _ _ _).all | with_reducible exact ((K.alloc _).put4 (by first | omega | (simp; omega)) _ _ _ _).all)
    (first | (go_at_call 33; refine (rtexts_is _ v ts _ (by first | with_reducible exact H0.out.later K.bel | with_reducible exact H0.out.later K.drew.bel | with_reducible exact H0.out.later (K.alloc _).bel | with_reducible exact H0.out.later (K.alloc _).drew.bel | with_reducible exact H0.out.later (K.drew.alloc _).bel) hl hp Hts.out).mono ?_; rintro e w1 ⟨ta, tc, rfl, T1, bb⟩; (first | with_reducible (have C := made_next bb) | with_reducible (have C := made_drew_next bb) | skip); (try simp only [World.size_alloc] at C); have N0 := bb.size; (first | with_reducible (replace K := K.next bb) | with_reducible (replace K := K.drew.next bb) | with_reducible (replace K := (K.alloc _).next bb) | with_reducible (replace K := (K.alloc _).drew.next bb) | with_reducible (replace K := (K.drew.alloc _).next bb)); have L2 := K.res.lt; clear bb) | (go_at_call 42; refine (rof_canon v k Hk.out _ ts _ (by first | with_reducible exact T1 | with_reducible exact T1.later (b_drew _) | with_reducible exact T1.later (b_alloc _ _) | with_reducible exact T1.later (b_alloc_drew _ _) | with_reducible exact T1.later (b_drew_alloc _ _)) hln Hts.out).mono ?_; rintro e w2 ⟨la, lc, pa, pc, bo, rfl, R1, R2, N1, N2, bb⟩; (first | with_reducible (replace C := C.next bb) | with_reducible (replace C := C.drew.next bb) | with_reducible (have C := made_next bb) | with_reducible (have C := made_drew_next bb) | skip); (first | (obtain ⟨c0, c1, c2, c3⟩ := cells4 C; have f0 := C.free 0; have f1 := C.free 1; have f2 := C.free 2; have f3 := C.free 3) | skip); have L1 := K.res.lt; have N3 := bb.size; (first | with_reducible (replace K := K.next bb) | with_reducible (replace K := K.drew.next bb) | with_reducible (replace K := (K.alloc _).next bb) | with_reducible (replace K := (K.alloc _).drew.next bb) | with_reducible (replace K := (K.drew.alloc _).next bb)); have L2 := K.res.lt; clear bb))
  · have CB := Bx.made w2 #[.int .i64 (canonV v).kind, .string ⟨(canonV v).s.toArray⟩, .slice la (canonV v).l.length lc, .slice pa (canonV v).p.length pc] 27
    replace K := K.alloc (.cells #[.int .i64 (canonV v).kind, .string ⟨(canonV v).s.toArray⟩, .slice la (canonV v).l.length lc, .slice pa (canonV v).p.length pc] 27)
    replace R1 := R1.later (b_alloc w2 (.cells #[.int .i64 (canonV v).kind, .string ⟨(canonV v).s.toArray⟩, .slice la (canonV v).l.length lc, .slice pa (canonV v).p.length pc] 27))
    replace R2 := R2.later (b_alloc w2 (.cells #[.int .i64 (canonV v).kind, .string ⟨(canonV v).s.toArray⟩, .slice la (canonV v).l.length lc, .slice pa (canonV v).p.length pc] 27))
    generalize w2.alloc (.cells #[.int .i64 (canonV v).kind, .string ⟨(canonV v).s.toArray⟩, .slice la (canonV v).l.length lc, .slice pa (canonV v).p.length pc] 27) = W3 at K CB R1 R2 ⊢
    have F := canon_end K CB (by omega) R1 R2 (N1.le (by omega)) (N2.le (by omega))
    obtain ⟨c0, c1, c2, c3⟩ := cells4 CB
    have r0 := K.res.free 0
    have r1 := K.res.free 1
    have r2 := K.res.free 2
    have r3 := K.res.free 3
    obtain ⟨s0, s1, s2, s3⟩ := cells4 K.res
    have HF := hide F
    clear F CB
    go_wp2
    refine bodyPost_ret (v := .agg #[.int .i64 (canonV v).kind, .string ⟨(canonV v).s.toArray⟩, .slice la (canonV v).l.length lc, .slice pa (canonV v).p.length pc]) (results_cell_row Try.results19 _ _ (w.heap.size + 1) 27 _ (0, 0) _ rfl HF.out.1 Try.underlying27 rfl (by kernel_rfl)) rfl HF.out.2
  · have CB := (((C.put 0 (.int .i64 (canonV v).kind)).put 1 (.string ⟨(canonV v).s.toArray⟩)).put 2 (.slice la (canonV v).l.length lc)).put 3 (.slice pa (canonV v).p.length pc)
    replace K := K.put4 (b := w1.heap.size) (by first | omega | (simp; omega) | simp) (.int .i64 (canonV v).kind) (.string ⟨(canonV v).s.toArray⟩) (.slice la (canonV v).l.length lc) (.slice pa (canonV v).p.length pc)
    have F := canon_end K CB (by first | omega | (simp; omega) | simp) ((((R1.put N1 (by first | omega | (simp; omega) | simp) _ _).put N1 (by first | omega | (simp; omega) | simp) _ _).put N1 (by first | omega | (simp; omega) | simp) _ _).put N1 (by first | omega | (simp; omega) | simp) _ _) ((((R2.put N2 (by first | omega | (simp; omega) | simp) _ _).put N2 (by first | omega | (simp; omega) | simp) _ _).put N2 (by first | omega | (simp; omega) | simp) _ _).put N2 (by first | omega | (simp; omega) | simp) _ _) (N1.le (by first | omega | (simp; omega) | simp)) (N2.le (by first | omega | (simp; omega) | simp))
    obtain ⟨c0, c1, c2, c3⟩ := cells4 CB
    have r0 := K.res.free 0
    have r1 := K.res.free 1
    have r2 := K.res.free 2
    have r3 := K.res.free 3
    obtain ⟨s0, s1, s2, s3⟩ := cells4 K.res
    have HF := hide F
    clear F CB
    go_wp2
    refine bodyPost_ret (v := .agg #[.int .i64 (canonV v).kind, .string ⟨(canonV v).s.toArray⟩, .slice la (canonV v).l.length lc, .slice pa (canonV v).p.length pc]) (results_cell_row Try.results19 _ _ (w.heap.size + 1) 27 _ (0, 0) _ rfl HF.out.1 Try.underlying27 rfl (by kernel_rfl)) rfl HF.out.2
  · have CB := (((C.put 0 (.int .i64 (canonV v).kind)).put 1 (.string ⟨(canonV v).s.toArray⟩)).put 2 (.slice la (canonV v).l.length lc)).put 3 (.slice pa (canonV v).p.length pc)
    have hw1 : w.heap.size + 1 + 1 < w1.heap.size := by simp at N0; omega
    replace K := K.put4 (b := w.heap.size + 1 + 1) (by omega) (.int .i64 (canonV v).kind) (.string ⟨(canonV v).s.toArray⟩) (.slice la (canonV v).l.length lc) (.slice pa (canonV v).p.length pc)
    have F := canon_end K CB (by omega) ((((R1.put N1 (by omega) _ _).put N1 (by omega) _ _).put N1 (by omega) _ _).put N1 (by omega) _ _) ((((R2.put N2 (by omega) _ _).put N2 (by omega) _ _).put N2 (by omega) _ _).put N2 (by omega) _ _) (N1.le (by omega)) (N2.le (by omega))
    obtain ⟨c0, c1, c2, c3⟩ := cells4 CB
    have r0 := K.res.free 0
    have r1 := K.res.free 1
    have r2 := K.res.free 2
    have r3 := K.res.free 3
    obtain ⟨s0, s1, s2, s3⟩ := cells4 K.res
    have HF := hide F
    clear F CB
    go_wp2
    refine bodyPost_ret (v := .agg #[.int .i64 (canonV v).kind, .string ⟨(canonV v).s.toArray⟩, .slice la (canonV v).l.length lc, .slice pa (canonV v).p.length pc]) (results_cell_row Try.results19 _ _ (w.heap.size + 1) 27 _ (0, 0) _ rfl HF.out.1 Try.underlying27 rfl (by kernel_rfl)) rfl HF.out.2
end Go.Proofs.Ytpfcfadbilaleaa
/-
  WALKS: the reference's Same (layer 8).
-/
namespace Go.Proofs.Ytpfcfadbilaleaa
open Go.RowKit

/-- two arguments' cells -/
structure Jx (w W : World) (x y : Array Value) : Prop where
  bel : Below w.heap.size w W
  fst : Bx W w.heap.size x 27
  snd : Bx W (w.heap.size + 1) y 27
section
variable {w W W' : World} {x y : Array Value}
theorem Jx.next (h : Jx w W x y) (bb : Below W.heap.size W W') : Jx w W' x y := ⟨h.bel.trans (bb.mono h.bel.size), h.fst.next bb, h.snd.next bb⟩
theorem Jx.drew (h : Jx w W x y) : Jx w W.drew x y := ⟨h.bel.drew, h.fst, h.snd⟩
theorem Jx.alloc (h : Jx w W x y) (o : Obj) : Jx w (W.alloc o) x y := h.next ((Below.refl _ _).alloc (Nat.le_refl _) _)
theorem Jx.made (w : World) (x y : Array Value) : Jx w ((w.alloc (.cells x 27)).alloc (.cells y 27)) x y := by
  refine ⟨((Below.refl _ _).alloc (Nat.le_refl _) _).alloc (by simp) _, (Bx.made _ _ _).later _, ?_⟩
  have := Bx.made (w.alloc (.cells x 27)) y 27
  simpa using this
theorem Jx.all {x0 x1 x2 x3 y0 y1 y2 y3 : Value} (h : Jx w W #[x0, x1, x2, x3] #[y0, y1, y2, y3]) : W.cell? ⟨w.heap.size, 0, none⟩ = some x0 ∧ W.cell? ⟨w.heap.size, 1, none⟩ = some x1 ∧ W.cell? ⟨w.heap.size, 2, none⟩ = some x2 ∧ W.cell? ⟨w.heap.size, 3, none⟩ = some x3 ∧ W.cell? ⟨w.heap.size + 1, 0, none⟩ = some y0 ∧ W.cell? ⟨w.heap.size + 1, 1, none⟩ = some y1 ∧ W.cell? ⟨w.heap.size + 1, 2, none⟩ = some y2 ∧ W.cell? ⟨w.heap.size + 1, 3, none⟩ = some y3 := by
  obtain ⟨a0, a1, a2, a3⟩ := cells4 h.fst
  obtain ⟨b0, b1, b2, b3⟩ := cells4 h.snd
  exact ⟨a0, a1, a2, a3, b0, b1, b2, b3⟩
end
theorem canon_lens (v : Vl) : (canonV v).l.length ≤ v.l.length ∧ (canonV v).p.length ≤ v.p.length ∧ (canonV v).s.length ≤ v.s.length := by
  cases h : definedV v with
  | false => rw [canon_no h]; simp [zeroV]
  | true =>
    have hc := canon_yes h
    unfold ofV textsV at hc
    by_cases h1 : v.kind = 1
    · simp only [h1, if_true, List.length_singleton, and_self, List.headD_cons, Option.some.injEq] at hc
      rw [← hc]; simp
    · by_cases h2 : v.kind = 2
      · rw [if_neg h1, if_pos h2, if_neg (by omega)] at hc
        split at hc
        · simp only [Option.some.injEq] at hc
          rw [← hc]; simp
        · split at hc
          · cases hc
          · rename_i h3; exact absurd (.inl (by omega)) h3
      · by_cases h3 : v.kind = 3
        · rw [if_neg h1, if_neg h2, if_pos h3, if_neg (by omega), if_neg (by omega)] at hc
          split at hc
          · cases hc
          · simp only [Option.some.injEq] at hc
            rw [← hc, pairs_flat]; simp
        · rw [if_neg (by omega), if_neg (by omega), if_pos (.inl h3)] at hc
          cases hc
end Go.Proofs.Ytpfcfadbilaleaa
/-
  WALKS: the reference's Compare (layer 8).
-/
namespace Go.Proofs.Ytpfcfadbilaleaa
open Go.RowKit

/-- two arguments' cells, and their canonical values' -/
structure Ux (w W : World) (x y : Array Value) (p q : Nat) (ca cb : Vl) (c d : Array Value) : Prop where
  two : Jx w W x y
  hp : w.heap.size ≤ p
  fst : Bx W p c 27
  snd : Bx W q d 27
  va : VlAt W (.agg c) ca
  vb : VlAt W (.agg d) cb
section
variable {w W W' : World} {x y c d : Array Value} {p q : Nat} {ca cb : Vl}
theorem Ux.next (h : Ux w W x y p q ca cb c d) (bb : Below W.heap.size W W') : Ux w W' x y p q ca cb c d := ⟨h.two.next bb, h.hp, h.fst.next bb, h.snd.next bb, h.va.later bb, h.vb.later bb⟩
theorem Ux.drew (h : Ux w W x y p q ca cb c d) : Ux w W.drew x y p q ca cb c d := ⟨h.two.drew, h.hp, h.fst, h.snd, h.va.later (b_drew _), h.vb.later (b_drew _)⟩
theorem Ux.all {x0 x1 x2 x3 y0 y1 y2 y3 : Value} (h : Ux w W x y p q ca cb #[x0, x1, x2, x3] #[y0, y1, y2, y3]) : W.cell? ⟨p, 0, none⟩ = some x0 ∧ W.cell? ⟨p, 1, none⟩ = some x1 ∧ W.cell? ⟨p, 2, none⟩ = some x2 ∧ W.cell? ⟨p, 3, none⟩ = some x3 ∧ W.cell? ⟨q, 0, none⟩ = some y0 ∧ W.cell? ⟨q, 1, none⟩ = some y1 ∧ W.cell? ⟨q, 2, none⟩ = some y2 ∧ W.cell? ⟨q, 3, none⟩ = some y3 := by
  obtain ⟨a0, a1, a2, a3⟩ := cells4 h.fst
  obtain ⟨b0, b1, b2, b3⟩ := cells4 h.snd
  exact ⟨a0, a1, a2, a3, b0, b1, b2, b3⟩
end
theorem VlAt.mk {W : World} {c : Vl} {la pa : Option Addr} {lc pc : Nat} (R1 : StrsAt W (.slice la c.l.length lc) c.l) (R2 : PairsAt W (.slice pa c.p.length pc) c.p) : VlAt W (.agg #[.int .i64 c.kind, .string ⟨c.s.toArray⟩, .slice la c.l.length lc, .slice pa c.p.length pc]) c := ⟨_, _, rfl, R1, R2⟩
end Go.Proofs.Ytpfcfadbilaleaa
