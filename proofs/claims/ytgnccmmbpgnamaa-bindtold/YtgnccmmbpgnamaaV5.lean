/-
  WALKS: the reference's Of (layer 8).
-/
import Derived.Test.YtgnccmmbpgnamaaV4
namespace Go.Proofs.Ytgnccmmbpgnamaa
open Go.RowKit

/-- the slice lies in no elder block -/
def Newly (n : Nat) (v : Value) : Prop := ∀ b off k c, v = .slice (some ⟨b, off, none⟩) k c → n ≤ b
theorem Newly.none (n k c : Nat) : Newly n (.slice none k c) := fun _ _ _ _ e => by cases e
theorem Newly.of_owns {n : Nat} {w : World} {base z m : Nat} {t : TypeId} {v : Value} {xs : List Value} (h : w.ownsRow base t z v m xs) (hb : n ≤ base) : Newly n v := by
  intro b off k c e
  subst e
  rcases h.2 with ⟨e, _⟩ | ⟨g, cap, cur, e, h1, _⟩
  · cases e
  · cases e; omega
def VlNew (n : Nat) (x : Value) : Prop := ∃ k s sl sp, x = .agg #[k, s, sl, sp] ∧ Newly n sl ∧ Newly n sp
/-- a value told, or none -/
def OfPost (w : World) (o : Option Vl) (e : Ending) (w' : World) : Prop :=
  Below w.heap.size w w' ∧ match o with
  | some c => ∃ x, e = .returned (.tuple #[x, .bool true]) ∧ VlAt w' x c ∧ VlNew w.heap.size x
  | none => e = .returned (.tuple #[.agg #[.int .i64 0, .string ⟨#[]⟩, .slice none 0 0, .slice none 0 0], .bool false])
theorem of_none {w w' : World} {o : Option Vl} (h : o = none) (hB : Below w.heap.size w w') : OfPost w o (.returned (.tuple #[.agg #[.int .i64 0, .string ⟨#[]⟩, .slice none 0 0, .slice none 0 0], .bool false])) w' := by
  subst h; exact ⟨hB, rfl⟩
theorem of_yes {w w' : World} {o : Option Vl} {c : Vl} {x : Value} (h : o = some c) (hB : Below w.heap.size w w') (hx : VlAt w' x c) (hn : VlNew w.heap.size x) : OfPost w o (.returned (.tuple #[x, .bool true])) w' := by
  subst h; exact ⟨hB, x, rfl, hx, hn⟩
theorem own_put {W : World} {base : Nat} {v : Value} {n : Nat} {xs : List Value} {t : TypeId} {z b j : Nat} {u : Value} (h : W.ownsRow base t z v n xs) (hb : b < base) : (W.setCell ⟨b, j, none⟩ u).ownsRow base t z v n xs := by
  refine ⟨h.1, ?_⟩
  rcases h.2 with ⟨rfl, h0⟩ | ⟨g, cap, cur, rfl, h1, hg, hn, hm, hs, ht⟩
  · exact .inl ⟨rfl, h0⟩
  · have hne : g ≠ b := by omega
    exact .inr ⟨g, cap, cur, rfl, h1, by rw [heap_setCell_other _ _ _ _ hne]; exact hg, hn, hm, hs, ht⟩
/-- the result's cell, and the value that is made, in memory -/
structure Ox (w W : World) (y0 y1 y2 y3 : Value) : Prop where
  bel : Below w.heap.size w W
  res : Bx W w.heap.size #[.int .i64 0, .string ⟨#[]⟩, .slice none 0 0, .slice none 0 0] 28
  val : Bx W (w.heap.size + 1) #[y0, y1, y2, y3] 28
section
variable {w W W' : World} {y0 y1 y2 y3 : Value}
theorem Ox.next (h : Ox w W y0 y1 y2 y3) (bb : Below W.heap.size W W') : Ox w W' y0 y1 y2 y3 := ⟨h.bel.trans (bb.mono h.bel.size), h.res.next bb, h.val.next bb⟩
theorem Ox.drew (h : Ox w W y0 y1 y2 y3) : Ox w W.drew y0 y1 y2 y3 := ⟨h.bel.drew, h.res, h.val⟩
theorem Ox.alloc (h : Ox w W y0 y1 y2 y3) (o : Obj) : Ox w (W.alloc o) y0 y1 y2 y3 := h.next ((Below.refl _ _).alloc (Nat.le_refl _) _)
theorem Ox.grown {base n z : Nat} {t : TypeId} {v : Value} {xs : List Value} (h : Ox w W y0 y1 y2 y3) (ho : W.ownsRow base t z v n xs) (hb : w.heap.size + 1 < base) (hg : W.grownBy W' v.ownBlock) : Ox w W' y0 y1 y2 y3 := by
  have hl := h.val.lt
  have hr : ∀ i, i < base → some i ≠ v.ownBlock := fun i hi e => by have := (ho.lt i e.symm).1; omega
  exact ⟨h.bel.grown hg (by omega) (fun j hj => by have := (ho.lt j hj).1; omega), (hg.block _ (by omega) (hr _ (by omega))).trans h.res, (hg.block _ hl (hr _ hb)).trans h.val⟩
theorem Ox.put2 (h : Ox w W y0 y1 y2 y3) (u : Value) : Ox w (W.setCell ⟨w.heap.size + 1, 2, none⟩ u) y0 y1 u y3 := ⟨h.bel.setCell (p := ⟨_, 2, none⟩) (by simp) _, h.res.other (by omega) 2 u, h.val.put 2 u⟩
theorem Ox.put3 (h : Ox w W y0 y1 y2 y3) (u : Value) : Ox w (W.setCell ⟨w.heap.size + 1, 3, none⟩ u) y0 y1 y2 u := ⟨h.bel.setCell (p := ⟨_, 3, none⟩) (by simp) _, h.res.other (by omega) 3 u, h.val.put 3 u⟩
/-- the value, copied into the result's cell -/
theorem Ox.copy (h : Ox w W y0 y1 y2 y3) : Below w.heap.size w ((((W.setCell ⟨w.heap.size, 0, none⟩ y0).setCell ⟨w.heap.size, 1, none⟩ y1).setCell ⟨w.heap.size, 2, none⟩ y2).setCell ⟨w.heap.size, 3, none⟩ y3) ∧ Bx ((((W.setCell ⟨w.heap.size, 0, none⟩ y0).setCell ⟨w.heap.size, 1, none⟩ y1).setCell ⟨w.heap.size, 2, none⟩ y2).setCell ⟨w.heap.size, 3, none⟩ y3) w.heap.size #[y0, y1, y2, y3] 28 :=
  ⟨(((h.bel.setCell (p := ⟨_, 0, none⟩) (Nat.le_refl _) _).setCell (p := ⟨_, 1, none⟩) (Nat.le_refl _) _).setCell (p := ⟨_, 2, none⟩) (Nat.le_refl _) _).setCell (p := ⟨_, 3, none⟩) (Nat.le_refl _) _, (((h.res.put 0 y0).put 1 y1).put 2 y2).put 3 y3⟩
end
theorem own_copy {w W : World} {base : Nat} {v y0 y1 y2 y3 : Value} {n : Nat} {xs : List Value} {t : TypeId} {z : Nat} (h : W.ownsRow base t z v n xs) (hb : w.heap.size < base) : ((((W.setCell ⟨w.heap.size, 0, none⟩ y0).setCell ⟨w.heap.size, 1, none⟩ y1).setCell ⟨w.heap.size, 2, none⟩ y2).setCell ⟨w.heap.size, 3, none⟩ y3).ownsRow base t z v n xs := own_put (own_put (own_put (own_put h hb) hb) hb) hb
theorem strs_news {w : World} {b off : Nat} {ps : List (List UInt8)} (hc : ∀ k, k < ps.length → w.cell? ⟨b, off + k, none⟩ = some (.string ⟨(ps.getD k []).toArray⟩)) : ∀ j u, (strsV ps)[j]? = some u → w.cell? ((⟨b, off, none⟩ : Addr).add j) = some u := by
  intro j u hj
  have hl : j < ps.length := by
    apply Classical.byContradiction
    intro h
    rw [List.getElem?_eq_none (by rw [strs_len]; omega)] at hj
    cases hj
  have e : (⟨b, off, none⟩ : Addr).add j = ⟨b, off + j, none⟩ := by unfold Addr.add; split <;> simp_all
  rw [e, hc j hl]
  unfold strsV at hj
  rw [List.getElem?_map, List.getElem?_eq_getElem hl] at hj
  simp only [Option.map_some, Option.some.injEq] at hj
  rw [← hj, List.getD_eq_getElem?_getD, List.getElem?_eq_getElem hl]
  rfl
theorem strs_one (ps : List (List UInt8)) : ∀ u ∈ strsV ps, u.oneCell' = true := by
  intro u hu
  obtain ⟨p, _, rfl⟩ := List.mem_map.1 hu
  rfl
theorem info39 : (Try.prog.info? 48).map (fun i => (i.zero, i.size, i.bytes)) = some (some (.agg #[.string ⟨#[]⟩, .string ⟨#[]⟩]), 2, 32) := by kernel_rfl
def twoV (q : List UInt8 × List UInt8) : List Value := [.string ⟨q.1.toArray⟩, .string ⟨q.2.toArray⟩]
def pairsV (ps : List (List UInt8 × List UInt8)) : List Value := ps.flatMap twoV
theorem pairsV_snoc (ps : List (List UInt8 × List UInt8)) (q : List UInt8 × List UInt8) : pairsV (ps ++ [q]) = pairsV ps ++ twoV q := by simp [pairsV]
theorem two_at : ∀ (ps : List (List UInt8 × List UInt8)) (k j : Nat) (h : k < ps.length), j < 2 → (pairsV ps)[k * 2 + j]? = (twoV ps[k])[j]? := by
  intro ps
  induction ps with
  | nil => intro k j h; simp at h
  | cons x xs ih =>
    intro k j h hj
    show (twoV x ++ pairsV xs)[k * 2 + j]? = _
    have hx : (twoV x).length = 2 := rfl
    cases k with
    | zero => rw [Nat.zero_mul, Nat.zero_add, List.getElem?_append_left (by rw [hx]; exact hj)]; rfl
    | succ k =>
      rw [List.getElem?_append_right (by rw [hx]; omega), hx, show (k + 1) * 2 + j - 2 = k * 2 + j by omega]
      exact ih k j (by simpa using h) hj
theorem PairsAt.of_owns {w : World} {base : Nat} {v : Value} {ps : List (List UInt8 × List UInt8)} (h : w.ownsRow base 48 2 v ps.length (pairsV ps)) : PairsAt w v ps := by
  have h' := h
  rcases h.2 with ⟨rfl, h0⟩ | ⟨g, cap, cur, rfl, _, hg, hn, hm, hs, ht⟩
  · exact .inl ⟨List.eq_nil_of_length_eq_zero h0, _, _, rfl⟩
  · by_cases hp : 0 < ps.length
    · refine .inr ⟨hp, g, 0, cap, rfl, fun k hk => ?_⟩
      rw [Nat.zero_add]
      have e0 := h'.cellAt (k * 2 + 0) (by omega)
      have e1 := h'.cellAt (k * 2 + 1) (by omega)
      rw [two_at ps k _ hk (by omega)] at e0 e1
      exact ⟨e0, e1⟩
    · have : ps = [] := List.eq_nil_of_length_eq_zero (by omega)
      subst this
      exact .inl ⟨rfl, _, _, rfl⟩
theorem pairs_next : ∀ (q : Nat) (l : List (List UInt8)) (x y : List UInt8), l[2 * q]? = some x → l[2 * q + 1]? = some y → pairsL (l.take (2 * q + 2)) = pairsL (l.take (2 * q)) ++ [(x, y)] := by
  intro q
  induction q with
  | zero =>
    intro l x y hx hy
    match l, hx, hy with
    | a :: b :: r, hx, hy =>
      simp at hx hy
      subst hx hy
      simp [pairsL]
  | succ q ih =>
    intro l x y hx hy
    match l, hx, hy with
    | a :: b :: r, hx, hy =>
      rw [show 2 * (q + 1) = 2 * q + 1 + 1 by omega] at hx hy ⊢
      rw [List.getElem?_cons_succ, List.getElem?_cons_succ] at hx
      rw [show 2 * q + 1 + 1 + 1 = (2 * q + 1) + 1 + 1 by omega, List.getElem?_cons_succ, List.getElem?_cons_succ] at hy
      have := ih r x y hx hy
      rw [show 2 * q + 1 + 1 + 2 = (2 * q + 2) + 1 + 1 by omega]
      simp only [List.take_succ_cons, pairsL, List.cons_append]
      rw [this]
set_option maxRecDepth 20000 in
set_option maxHeartbeats 4000000 in
theorem rof_any (k : Int) (u : Value) (l : List (List UInt8)) (w : World) (H : StrsAt w u l) (hl : l.length ≤ 2000) : Calls Try.prog 35 #[.int .i64 k, u] w fun e w' => OfPost w (ofV k l) e w' := by
  obtain ⟨i0, hi, hz0, hz1, hz2⟩ := info_parts info9
  obtain ⟨la, lc, rfl⟩ := H.form
  obtain ⟨o, ho⟩ : ∃ o, ofV k l = o := ⟨_, rfl⟩
  rw [ho]
  have Ho := hide ho
  have H1 := hide H
  clear ho H
  by_cases hA : k = 1 ∧ l.length = 1
  · obtain ⟨hk, hn⟩ := hA
    have h0 : 0 < l.length := by omega
    obtain ⟨b, off, cap, e, hb, g1⟩ := H1.out.at 0 h0
    have ho : o = some ⟨1, l.headD [], [], []⟩ := by rw [← Ho.out]; unfold ofV; rw [if_pos ⟨hk, hn⟩, hk]
    have hh : l[0] = l.headD [] := by
      cases l with
      | nil => simp at h0
      | cons a t => rfl
    rw [hh] at g1
    obtain ⟨y, hy⟩ : ∃ y, l.headD [] = y := ⟨_, rfl⟩
    rw [hy] at g1 ho
    obtain ⟨X, hX⟩ : ∃ X : ByteArray, (⟨y.toArray⟩ : ByteArray) = X := ⟨_, rfl⟩
    rw [hX] at g1
    rw [hn] at e
    cases e
    have HX := hide hX
    have Hoo := hide ho
    subst hk
    rw [hn]
    rw [Nat.add_zero] at g1
    have hne1 : w.heap.size ≠ b := by omega
    have hne2 : w.heap.size + 1 ≠ b := by omega
    clear hX ho hh hy Ho h0
    have Bf : ∀ cs1 cs2 : Array Value, Below w.heap.size w ((w.alloc (.cells cs1 28)).alloc (.cells cs2 28)) := fun _ _ => ((Below.refl _ _).alloc (Nat.le_refl _) _).alloc (by simp) _
    have g2 := fun cs1 cs2 => ((Bf cs1 cs2).cell (p := ⟨b, off, none⟩) hb).trans g1
    go_enter Try.func35, Try.ntmps35
    go_wp2
    have X1 : Bx ((w.alloc (.cells #[.int .i64 1, .string X, .slice none 0 0, .slice none 0 0] 28)).alloc (.cells #[.int .i64 1, .string X, .slice none 0 0, .slice none 0 0] 28)) w.heap.size #[.int .i64 1, .string X, .slice none 0 0, .slice none 0 0] 28 := (Bx.made _ _ _).later _
    refine bodyPost_ret (v := .tuple #[.agg #[.int .i64 1, .string X, .slice none 0 0, .slice none 0 0], .bool true]) (ret_cell_tmp Try.results35 _ _ rfl X1 Try.underlying28 rfl (by kernel_rfl)) rfl (of_yes Hoo.out (Bf _ _) ⟨.slice none 0 0, .slice none 0 0, by rw [HX.out], .inl ⟨rfl, _, _, rfl⟩, .inl ⟨rfl, _, _, rfl⟩⟩ ⟨_, _, _, _, rfl, Newly.none _ _ _, Newly.none _ _ _⟩)
  · by_cases hBc : k = 2 ∧ 0 < l.length
    · obtain ⟨hk, hn⟩ := hBc
      have ho : o = some ⟨2, [], l, []⟩ := by rw [← Ho.out]; unfold ofV; rw [if_neg hA, if_pos ⟨hk, hn⟩, hk]
      have hc : ∃ b off, la = some ⟨b, off, none⟩ ∧ ∀ k, k < l.length → w.cell? ⟨b, off + k, none⟩ = some (.string ⟨(l.getD k []).toArray⟩) := by
        rcases H1.out with ⟨h0, _⟩ | ⟨_, b, off, cap, e, hc⟩
        · rw [h0] at hn; simp at hn
        · cases e; exact ⟨b, off, rfl, hc⟩
      obtain ⟨b, off, rfl, hc⟩ := hc
      have hb : b < w.heap.size := lt_of_cell (hc 0 hn)
      have hnews := strs_news hc
      have Hoo := hide ho
      have Hnews := hide hnews
      subst hk
      clear ho hc hA Ho hnews
      have O0 : Ox w ((w.alloc (.cells #[.int .i64 0, .string ⟨#[]⟩, .slice none 0 0, .slice none 0 0] 28)).alloc (.cells #[.int .i64 2, .string ⟨#[]⟩, .slice none 0 0, .slice none 0 0] 28)) (.int .i64 2) (.string ⟨#[]⟩) (.slice none 0 0) (.slice none 0 0) := by
        refine ⟨((Below.refl _ _).alloc (Nat.le_refl _) _).alloc (by simp) _, (Bx.made _ _ _).later _, ?_⟩
        have := Bx.made (w.alloc (.cells #[.int .i64 0, .string ⟨#[]⟩, .slice none 0 0, .slice none 0 0] 28)) #[.int .i64 2, .string ⟨#[]⟩, .slice none 0 0, .slice none 0 0] 28
        simpa using this
      have O1 := O0.alloc (.cells #[] 9)
      have own0 : (((w.alloc (.cells #[.int .i64 0, .string ⟨#[]⟩, .slice none 0 0, .slice none 0 0] 28)).alloc (.cells #[.int .i64 2, .string ⟨#[]⟩, .slice none 0 0, .slice none 0 0] 28)).alloc (.cells #[] 9)).ownsRow (w.heap.size + 1 + 1) 9 1 (.slice (some ⟨w.heap.size + 1 + 1, 0, none⟩) 0 0) 0 [] := by
        refine ⟨rfl, .inr ⟨w.heap.size + 1 + 1, 0, #[], rfl, Nat.le_refl _, ?_, Nat.le_refl _, Nat.zero_le _, rfl, rfl⟩⟩
        have := Bx.made ((w.alloc (.cells #[.int .i64 0, .string ⟨#[]⟩, .slice none 0 0, .slice none 0 0] 28)).alloc (.cells #[.int .i64 2, .string ⟨#[]⟩, .slice none 0 0, .slice none 0 0] 28)) #[] 9
        unfold Bx at this
        simpa using this
      have Hown0 := hide own0
      have HO1 := hide O1
      clear O0 O1 own0
      go_enter Try.func35, Try.ntmps35
      go_wp2_with (at_builtin; refine wpList_append_lies _ rfl _ _ 25 rfl (w.heap.size + 1 + 1) 9 i0 (.string ⟨#[]⟩) 1 16 Try.underlying25 hi hz0 hz1 hz2 rfl (by decide) (.slice (some ⟨w.heap.size + 1 + 1, 0, none⟩) 0 0) 0 [] rfl Hown0.out ⟨b, off, none⟩ l.length lc (strsV l) rfl (by rw [strs_len, Nat.mul_one]) ?c1 (strs_one l) hn ?c3 ?c4 ?c5 _ rfl ?_)
      case c1 =>
        intro j u hj
        have h9 := Hnews.out j u hj
        have e : (⟨b, off, none⟩ : Addr).add j = ⟨b, off + j, none⟩ := by unfold Addr.add; split <;> simp_all
        rw [e] at h9 ⊢
        exact (HO1.out.bel.cell (p := ⟨b, off + j, none⟩) hb).trans h9
      case c3 => unfold maxLen; omega
      case c4 => omega
      case c5 => simp
      intro g cap w4 hown hgrow hat hlt
      have O4 := HO1.out.grown Hown0.out (by omega) hgrow
      obtain ⟨v0, v1, v2, v3⟩ := cells4 O4.val
      have f2 := O4.val.free 2
      obtain ⟨r0, r1, r2, r3⟩ := cells4 O4.res
      have e0 := O4.res.free 0
      have e1 := O4.res.free 1
      have e2 := O4.res.free 2
      have e3 := O4.res.free 3
      have Hown := hide hown
      have HO4 := hide O4
      clear hown hgrow hat hlt O4
      go_wp2
      have O5 := HO4.out.put2 (.slice (some ⟨g, 0, none⟩) l.length cap)
      have ho5 := own_copy (w := w) (y0 := .int .i64 2) (y1 := .string ⟨#[]⟩) (y2 := .slice (some ⟨g, 0, none⟩) l.length cap) (y3 := .slice none 0 0) (own_put (b := w.heap.size + 1) (j := 2) (u := .slice (some ⟨g, 0, none⟩) l.length cap) Hown.out (by omega)) (by omega)
      refine bodyPost_ret (v := .tuple #[.agg #[.int .i64 2, .string ⟨#[]⟩, .slice (some ⟨g, 0, none⟩) l.length cap, .slice none 0 0], .bool true]) (ret_cell_tmp Try.results35 _ _ rfl O5.copy.2 Try.underlying28 rfl (by kernel_rfl)) rfl (of_yes Hoo.out O5.copy.1 ⟨.slice (some ⟨g, 0, none⟩) l.length cap, .slice none 0 0, rfl, StrsAt.of_owns ho5, .inl ⟨rfl, _, _, rfl⟩⟩ ⟨_, _, _, _, rfl, Newly.of_owns ho5 (by omega), Newly.none _ _ _⟩)
    · by_cases hC : k ≠ 3 ∨ l.length = 0 ∨ l.length % 2 = 1
      · have ho : o = none := by rw [← Ho.out]; unfold ofV; rw [if_neg hA, if_neg hBc, if_pos hC]
        have Hoo := hide ho
        have Bf : ∀ cs1 cs2 : Array Value, Below w.heap.size w ((w.alloc (.cells cs1 28)).alloc (.cells cs2 28)) := fun _ _ => ((Below.refl _ _).alloc (Nat.le_refl _) _).alloc (by simp) _
        have X1 : ∀ cs2, Bx ((w.alloc (.cells #[.int .i64 0, .string ⟨#[]⟩, .slice none 0 0, .slice none 0 0] 28)).alloc (.cells cs2 28)) w.heap.size #[.int .i64 0, .string ⟨#[]⟩, .slice none 0 0, .slice none 0 0] 28 := fun _ => (Bx.made _ _ _).later _
        have HX1 := hide X1
        have fin : Hid (∀ cs2, OfPost w o (.returned (.tuple #[.agg #[.int .i64 0, .string ⟨#[]⟩, .slice none 0 0, .slice none 0 0], .bool false])) ((w.alloc (.cells #[.int .i64 0, .string ⟨#[]⟩, .slice none 0 0, .slice none 0 0] 28)).alloc (.cells cs2 28))) := fun _ => of_none Hoo.out (Bf _ _)
        have hmod : ((l.length : Int).tmod 2) = ((l.length % 2 : Nat) : Int) := by rw [Int.tmod_eq_emod_of_nonneg (by omega)]; omega
        obtain ⟨n, hn⟩ : ∃ n, l.length = n := ⟨_, rfl⟩
        rw [hn] at hA hBc hC hmod hl ⊢
        clear ho Ho Bf X1 H1 hn
        by_cases hk1 : k = 1
        · subst hk1
          have h1 : ((n : Int) == 1) = false := by simp; omega
          go_enter Try.func35, Try.ntmps35
          go_wp2
          exact bodyPost_ret (v := .tuple #[.agg #[.int .i64 0, .string ⟨#[]⟩, .slice none 0 0, .slice none 0 0], .bool false]) (ret_cell_tmp Try.results35 _ _ rfl (HX1.out _) Try.underlying28 rfl (by kernel_rfl)) rfl (fin.out _)
        · have hk1f : (k == 1) = false := by simp [hk1]
          by_cases hk2 : k = 2
          · subst hk2
            have h1 : n = 0 := by omega
            subst h1
            clear hA hBc hC hk1
            go_enter Try.func35, Try.ntmps35
            go_wp2
            exact bodyPost_ret (v := .tuple #[.agg #[.int .i64 0, .string ⟨#[]⟩, .slice none 0 0, .slice none 0 0], .bool false]) (ret_cell_tmp Try.results35 _ _ rfl (HX1.out _) Try.underlying28 rfl (by kernel_rfl)) rfl (fin.out _)
          · have hk2f : (k == 2) = false := by simp [hk2]
            by_cases hk3 : k = 3
            · subst hk3
              by_cases h0 : n = 0
              · subst h0
                clear hA hBc hC hk1 hk2
                go_enter Try.func35, Try.ntmps35
                go_wp2
                exact bodyPost_ret (v := .tuple #[.agg #[.int .i64 0, .string ⟨#[]⟩, .slice none 0 0, .slice none 0 0], .bool false]) (ret_cell_tmp Try.results35 _ _ rfl (HX1.out _) Try.underlying28 rfl (by kernel_rfl)) rfl (fin.out _)
              · have h0f : ((n : Int) == 0) = false := by simp; omega
                have h2 : n % 2 = 1 := by omega
                rw [h2] at hmod
                clear hA hBc hC hk1 hk2
                go_enter Try.func35, Try.ntmps35
                go_wp2
                exact bodyPost_ret (v := .tuple #[.agg #[.int .i64 0, .string ⟨#[]⟩, .slice none 0 0, .slice none 0 0], .bool false]) (ret_cell_tmp Try.results35 _ _ rfl (HX1.out _) Try.underlying28 rfl (by kernel_rfl)) rfl (fin.out _)
            · have hk3f : (k != 3) = true := by simp [hk3]
              clear hA hBc hC
              go_enter Try.func35, Try.ntmps35
              go_wp2
              exact bodyPost_ret (v := .tuple #[.agg #[.int .i64 0, .string ⟨#[]⟩, .slice none 0 0, .slice none 0 0], .bool false]) (ret_cell_tmp Try.results35 _ _ rfl (HX1.out _) Try.underlying28 rfl (by kernel_rfl)) rfl (fin.out _)
      · obtain ⟨j0, hj, hy0, hy1, hy2⟩ := info_parts info39
        have hk3 : k = 3 := Classical.byContradiction fun h => hC (.inl h)
        have hn0 : l.length ≠ 0 := fun h => hC (.inr (.inl h))
        have hn2 : l.length % 2 = 0 := by
          have : ¬ l.length % 2 = 1 := fun h => hC (.inr (.inr h))
          omega
        have ho : o = some ⟨3, [], [], pairsL l⟩ := by rw [← Ho.out]; unfold ofV; rw [if_neg hA, if_neg hBc, if_neg hC, hk3]
        have Hoo := hide ho
        subst hk3
        have h0f : ((l.length : Int) == 0) = false := by rw [beq_eq_false_iff_ne]; omega
        have hmod : ((l.length : Int).tmod 2) = 0 := by rw [Int.tmod_eq_emod_of_nonneg (by omega)]; omega
        clear hA hBc hC ho Ho hn0
        have O0 : Ox w ((w.alloc (.cells #[.int .i64 0, .string ⟨#[]⟩, .slice none 0 0, .slice none 0 0] 28)).alloc (.cells #[.int .i64 3, .string ⟨#[]⟩, .slice none 0 0, .slice none 0 0] 28)) (.int .i64 3) (.string ⟨#[]⟩) (.slice none 0 0) (.slice none 0 0) := by
          refine ⟨((Below.refl _ _).alloc (Nat.le_refl _) _).alloc (by simp) _, (Bx.made _ _ _).later _, ?_⟩
          have := Bx.made (w.alloc (.cells #[.int .i64 0, .string ⟨#[]⟩, .slice none 0 0, .slice none 0 0] 28)) #[.int .i64 3, .string ⟨#[]⟩, .slice none 0 0, .slice none 0 0] 28
          simpa using this
        have HO0 := hide O0
        clear O0
        go_enter Try.func35, Try.ntmps35
        go_wp2
        go_loopw [7] (fun i wr => ∃ (q : Nat) (ps : List (List UInt8 × List UInt8)) (va : Option Addr) (vc : Nat), 2 * q ≤ l.length ∧ i = .int .i64 ((2 * q : Nat) : Int) ∧ pairsL (l.take (2 * q)) = ps ∧ ps.length = q ∧ Ox w wr (.int .i64 3) (.string ⟨#[]⟩) (.slice none 0 0) (.slice va ps.length vc) ∧ wr.ownsRow (w.heap.size + 1 + 1) 48 2 (.slice va ps.length vc) ps.length (pairsV ps)) (fun i _ => l.length - (intOf i).toNat)
        case atStart => exact ⟨0, [], none, 0, Nat.zero_le _, rfl, rfl, rfl, HO0.out, World.ownsRow_nil _ _ _ _⟩
        case round =>
          clear HO0
          obtain ⟨q, ps, va, vc, hq, rfl, hps, hpl, O, R⟩ := hrel
          obtain ⟨x0, x1, x2, x3⟩ := cells4 O.val
          by_cases hlt : 2 * q < l.length
          · have hlt1 : 2 * q + 1 < l.length := by omega
            have hnx := pairs_next q l _ _ (List.getElem?_eq_getElem hlt) (List.getElem?_eq_getElem hlt1)
            rw [hps] at hnx
            obtain ⟨b, off, cap0, e, hb, g1⟩ := H1.out.at (2 * q) hlt
            cases e
            obtain ⟨b', off', cap', e', hb', g2⟩ := H1.out.at (2 * q + 1) hlt1
            cases e'
            replace g1 := (O.bel.cell (p := ⟨b, off + 2 * q, none⟩) hb).trans g1
            replace g2 := (O.bel.cell (p := ⟨b, off + (2 * q + 1), none⟩) hb).trans g2
            obtain ⟨y, hy⟩ : ∃ y : List UInt8 × List UInt8, (l[2 * q], l[2 * q + 1]) = y := ⟨_, rfl⟩
            have ey1 : l[2 * q] = y.1 := by rw [← hy]
            have ey2 : l[2 * q + 1] = y.2 := by rw [← hy]
            rw [ey1] at g1
            rw [ey2] at g2
            rw [hy] at hnx
            obtain ⟨X, hX⟩ : ∃ X : ByteArray, (⟨y.1.toArray⟩ : ByteArray) = X := ⟨_, rfl⟩
            obtain ⟨Y, hY⟩ : ∃ Y : ByteArray, (⟨y.2.toArray⟩ : ByteArray) = Y := ⟨_, rfl⟩
            rw [hX] at g1
            rw [hY] at g2
            have hpv : twoV y = [.string X, .string Y] := by unfold twoV; rw [hX, hY]
            have Hpv := hide hpv
            have Hnx : Hid (pairsL (l.take (2 * (q + 1))) = ps ++ [y]) := hnx
            have HO := hide O
            have HR := hide R
            have hnb : ps.length ≤ 2000 := by omega
            have Hnl := hide hpl
            obtain ⟨m, hm⟩ : ∃ m, 2 * q = m := ⟨_, rfl⟩
            have Hm := hide hm
            rw [hm] at g1 g2 hlt hlt1 ⊢
            have hwr : IntKind.i64.wrap ((m : Int) + 1) = (m : Int) + 1 := by rw [IntKind.wrap_i64]; omega
            have i1 : (0 : Int) ≤ (m : Int) := by omega
            have i2 : (m : Int) < (l.length : Int) := by omega
            have i3 : (0 : Int) ≤ (m : Int) + 1 := by omega
            have i4 : (m : Int) + 1 < (l.length : Int) := by omega
            clear hpv hnx hy ey1 ey2 hX hY hps hpl O R hm
            go_wp2
            refine wp_region_any (by kernel_rfl) ?_
            change wpAny _ _ _ _ _ _ _ (World.drew _)
            refine wpAny_take (i := 0) (v := ?_) rfl (by kernel_rfl) (by kernel_rfl) (by kernel_rfl) (fun _ _ _ h => h) (Or.inl ⟨by rfl, ?_⟩) ?_
            rotate_left
            · intro w; go_simp; try with_reducible rfl
            refine wpAny_take (i := 2) (v := ?_) rfl (by kernel_rfl) (by kernel_rfl) (by kernel_rfl) (fun _ _ _ h => h) (Or.inl ⟨by rfl, ?_⟩) ?_
            rotate_left
            · intro w; go_simp; try with_reducible rfl
            refine wpAny_take (i := 3) (v := ?_) rfl (by kernel_rfl) (by kernel_rfl) (by kernel_rfl) (fun _ _ _ h => h) (Or.inl ⟨by rfl, ?_⟩) ?_
            rotate_left
            · intro w; go_simp; try with_reducible rfl
            refine wpAny_take (i := 4) (v := ?_) rfl (by kernel_rfl) (by kernel_rfl) (by kernel_rfl) (fun _ _ _ h => h) (Or.inl ⟨by rfl, ?_⟩) ?_
            rotate_left
            · intro w; go_simp; try with_reducible rfl
            refine wpAny_take (i := 6) (v := ?_) rfl (by kernel_rfl) (by kernel_rfl) (by kernel_rfl) (fun _ _ _ h => h) (Or.inl ⟨by rfl, ?_⟩) ?_
            rotate_left
            · intro w; go_simp; try with_reducible rfl
            refine wpAny_take (i := 7) (v := ?_) rfl (by kernel_rfl) (by kernel_rfl) (by kernel_rfl) (fun _ _ _ h => h) (Or.inl ⟨by rfl, ?_⟩) ?_
            rotate_left
            · intro w; go_simp; try with_reducible rfl
            refine wpAny_take (i := 8) (v := ?_) rfl (by kernel_rfl) (by kernel_rfl) (by kernel_rfl) (fun _ _ _ h => h) (Or.inl ⟨by rfl, ?_⟩) ?_
            rotate_left
            · intro w; go_simp; try with_reducible rfl
            refine wpAny_take (i := 9) (v := ?_) rfl (by kernel_rfl) (by kernel_rfl) (by kernel_rfl) (fun _ _ _ h => h) (Or.inl ⟨by rfl, ?_⟩) ?_
            rotate_left
            · intro w; go_simp; try with_reducible rfl
            refine wpAny_ready (rs := [1, 5, 10]) (by kernel_rfl) (by simp) ?_
            refine AllReady.cons rfl (fun K hK => ?_) (AllReady.cons rfl (fun K hK => ?_) (AllReady.cons rfl (fun K hK => ?_) AllReady.nil))
            · go_simp
              first | (refine hK _ _ ?_; clear hK K) | skip
              refine wpAny_ready (rs := [5, 10]) (by kernel_rfl) (by simp) ?_
              refine AllReady.cons rfl (fun K hK => ?_) (AllReady.cons rfl (fun K hK => ?_) AllReady.nil)
              · go_simp
                first | (refine hK _ _ ?_; clear hK K) | skip
                refine wpAny_ready (rs := [10]) (by kernel_rfl) (by simp) ?_
                refine AllReady.cons rfl (fun K hK => ?_) AllReady.nil
                go_simp
                first | (refine hK _ _ ?_; clear hK K) | skip
                refine wpAny_take (i := 11) (v := ?_) rfl (by kernel_rfl) (by kernel_rfl) (by kernel_rfl) (fun _ _ _ h => h) (Or.inl ⟨by rfl, ?_⟩) ?_
                rotate_left
                · intro w; go_simp; try with_reducible rfl
                refine wpAny_ready (rs := [12]) (by kernel_rfl) (by simp) ?_
                refine AllReady.cons rfl (fun K hK => ?_) AllReady.nil
                go_simp
                first | (refine hK _ _ ?_; clear hK K) | skip
                refine wpAny_ready (rs := [13]) (by kernel_rfl) (by simp) ?_
                refine AllReady.cons rfl (fun K hK => ?_) AllReady.nil
                refine step_append_lies _ (by rfl) _ _ 26 (by rfl) (w.heap.size + 1 + 1) 48 j0 (.agg #[.string ⟨#[]⟩, .string ⟨#[]⟩]) 2 32 Try.underlying26 hj hy0 hy1 hy2 rfl (by decide) (.slice va ps.length vc) ps.length (pairsV ps) (by rfl) (World.ownsRow.alloc HR.out (.cells #[.string X, .string Y] 48)) ⟨wr.heap.size, 0, none⟩ 1 1 [.string X, .string Y] (by rfl) rfl ?c1 ?c2 (by decide) ?c3 ?c4 ?c5 _ rfl ?_
                case c1 =>
                  intro j u hj
                  match j, hj with
                  | 0, hj => simp at hj; subst hj; simp [Addr.add]
                  | 1, hj => simp at hj; subst hj; simp [Addr.add]
                case c2 => intro u hu; simp at hu; rcases hu with rfl | rfl <;> rfl
                case c3 => unfold maxLen; omega
                case c4 => omega
                case c5 => have := HO.out.val.lt; simp; omega
                intro g cap w4 hown hgrow hat hlt4
                have O4 := (HO.out.drew.alloc (.cells #[.string X, .string Y] 48)).grown (World.ownsRow.alloc HR.out (.cells #[.string X, .string Y] 48)) (by omega) hgrow
                have Hown := hide hown
                clear hown hgrow hat hlt4 x0 x1 x2 x3
                obtain ⟨x0, x1, x2, x3⟩ := cells4 O4.val
                have f3 := O4.val.free 3
                first | (refine hK _ _ ?_; clear hK K) | skip
                refine wpAny_ready (rs := [14]) (by kernel_rfl) (by simp) ?_
                refine AllReady.cons rfl (fun K hK => ?_) AllReady.nil
                go_simp
                first | (refine hK _ _ ?_; clear hK K) | skip
                refine wpAny_ready (rs := [15]) (by kernel_rfl) (by simp) ?_
                refine AllReady.cons rfl (fun K hK => ?_) AllReady.nil
                go_simp
                first | (refine hK _ _ ?_; clear hK K) | skip
                refine wpAny_done (by kernel_rfl) ?_ _
                have O5 := O4.put3 (.slice (some ⟨g, 0, none⟩) (ps.length + 1) cap)
                have HO5 := hide O5
                have ho5 := own_put (b := w.heap.size + 1) (j := 3) (u := .slice (some ⟨g, 0, none⟩) (ps.length + 1) cap) Hown.out (by omega)
                have Ho5 := hide ho5
                have hn4 : (ps ++ [y]).length = ps.length + 1 := by simp
                clear O4 O5 ho5 x0 x1 x2 x3 f3
                go_wp2
                go_roundw
                case rel => exact ⟨q + 1, ps ++ [y], some ⟨g, 0, none⟩, cap, by have := Hm.out; omega, by have := Hm.out; go_num, Hnx.out, by have := Hnl.out; omega, by rw [hn4]; exact HO5.out, by rw [hn4, pairsV_snoc, Hpv.out]; exact Ho5.out⟩
                case measure => have := Hm.out; simp [intOf]; omega
              · go_simp
                first | (refine hK _ _ ?_; clear hK K) | skip
                refine wpAny_ready (rs := [5]) (by kernel_rfl) (by simp) ?_
                refine AllReady.cons rfl (fun K hK => ?_) AllReady.nil
                go_simp
                first | (refine hK _ _ ?_; clear hK K) | skip
                refine wpAny_take (i := 11) (v := ?_) rfl (by kernel_rfl) (by kernel_rfl) (by kernel_rfl) (fun _ _ _ h => h) (Or.inl ⟨by rfl, ?_⟩) ?_
                rotate_left
                · intro w; go_simp; try with_reducible rfl
                refine wpAny_ready (rs := [12]) (by kernel_rfl) (by simp) ?_
                refine AllReady.cons rfl (fun K hK => ?_) AllReady.nil
                go_simp
                first | (refine hK _ _ ?_; clear hK K) | skip
                refine wpAny_ready (rs := [13]) (by kernel_rfl) (by simp) ?_
                refine AllReady.cons rfl (fun K hK => ?_) AllReady.nil
                refine step_append_lies _ (by rfl) _ _ 26 (by rfl) (w.heap.size + 1 + 1) 48 j0 (.agg #[.string ⟨#[]⟩, .string ⟨#[]⟩]) 2 32 Try.underlying26 hj hy0 hy1 hy2 rfl (by decide) (.slice va ps.length vc) ps.length (pairsV ps) (by rfl) (World.ownsRow.alloc HR.out (.cells #[.string X, .string Y] 48)) ⟨wr.heap.size, 0, none⟩ 1 1 [.string X, .string Y] (by rfl) rfl ?c1 ?c2 (by decide) ?c3 ?c4 ?c5 _ rfl ?_
                case c1 =>
                  intro j u hj
                  match j, hj with
                  | 0, hj => simp at hj; subst hj; simp [Addr.add]
                  | 1, hj => simp at hj; subst hj; simp [Addr.add]
                case c2 => intro u hu; simp at hu; rcases hu with rfl | rfl <;> rfl
                case c3 => unfold maxLen; omega
                case c4 => omega
                case c5 => have := HO.out.val.lt; simp; omega
                intro g cap w4 hown hgrow hat hlt4
                have O4 := (HO.out.drew.alloc (.cells #[.string X, .string Y] 48)).grown (World.ownsRow.alloc HR.out (.cells #[.string X, .string Y] 48)) (by omega) hgrow
                have Hown := hide hown
                clear hown hgrow hat hlt4 x0 x1 x2 x3
                obtain ⟨x0, x1, x2, x3⟩ := cells4 O4.val
                have f3 := O4.val.free 3
                first | (refine hK _ _ ?_; clear hK K) | skip
                refine wpAny_ready (rs := [14]) (by kernel_rfl) (by simp) ?_
                refine AllReady.cons rfl (fun K hK => ?_) AllReady.nil
                go_simp
                first | (refine hK _ _ ?_; clear hK K) | skip
                refine wpAny_ready (rs := [15]) (by kernel_rfl) (by simp) ?_
                refine AllReady.cons rfl (fun K hK => ?_) AllReady.nil
                go_simp
                first | (refine hK _ _ ?_; clear hK K) | skip
                refine wpAny_done (by kernel_rfl) ?_ _
                have O5 := O4.put3 (.slice (some ⟨g, 0, none⟩) (ps.length + 1) cap)
                have HO5 := hide O5
                have ho5 := own_put (b := w.heap.size + 1) (j := 3) (u := .slice (some ⟨g, 0, none⟩) (ps.length + 1) cap) Hown.out (by omega)
                have Ho5 := hide ho5
                have hn4 : (ps ++ [y]).length = ps.length + 1 := by simp
                clear O4 O5 ho5 x0 x1 x2 x3 f3
                go_wp2
                go_roundw
                case rel => exact ⟨q + 1, ps ++ [y], some ⟨g, 0, none⟩, cap, by have := Hm.out; omega, by have := Hm.out; go_num, Hnx.out, by have := Hnl.out; omega, by rw [hn4]; exact HO5.out, by rw [hn4, pairsV_snoc, Hpv.out]; exact Ho5.out⟩
                case measure => have := Hm.out; simp [intOf]; omega
            · go_simp
              first | (refine hK _ _ ?_; clear hK K) | skip
              refine wpAny_ready (rs := [1, 10]) (by kernel_rfl) (by simp) ?_
              refine AllReady.cons rfl (fun K hK => ?_) (AllReady.cons rfl (fun K hK => ?_) AllReady.nil)
              · go_simp
                first | (refine hK _ _ ?_; clear hK K) | skip
                refine wpAny_ready (rs := [10]) (by kernel_rfl) (by simp) ?_
                refine AllReady.cons rfl (fun K hK => ?_) AllReady.nil
                go_simp
                first | (refine hK _ _ ?_; clear hK K) | skip
                refine wpAny_take (i := 11) (v := ?_) rfl (by kernel_rfl) (by kernel_rfl) (by kernel_rfl) (fun _ _ _ h => h) (Or.inl ⟨by rfl, ?_⟩) ?_
                rotate_left
                · intro w; go_simp; try with_reducible rfl
                refine wpAny_ready (rs := [12]) (by kernel_rfl) (by simp) ?_
                refine AllReady.cons rfl (fun K hK => ?_) AllReady.nil
                go_simp
                first | (refine hK _ _ ?_; clear hK K) | skip
                refine wpAny_ready (rs := [13]) (by kernel_rfl) (by simp) ?_
                refine AllReady.cons rfl (fun K hK => ?_) AllReady.nil
                refine step_append_lies _ (by rfl) _ _ 26 (by rfl) (w.heap.size + 1 + 1) 48 j0 (.agg #[.string ⟨#[]⟩, .string ⟨#[]⟩]) 2 32 Try.underlying26 hj hy0 hy1 hy2 rfl (by decide) (.slice va ps.length vc) ps.length (pairsV ps) (by rfl) (World.ownsRow.alloc HR.out (.cells #[.string X, .string Y] 48)) ⟨wr.heap.size, 0, none⟩ 1 1 [.string X, .string Y] (by rfl) rfl ?c1 ?c2 (by decide) ?c3 ?c4 ?c5 _ rfl ?_
                case c1 =>
                  intro j u hj
                  match j, hj with
                  | 0, hj => simp at hj; subst hj; simp [Addr.add]
                  | 1, hj => simp at hj; subst hj; simp [Addr.add]
                case c2 => intro u hu; simp at hu; rcases hu with rfl | rfl <;> rfl
                case c3 => unfold maxLen; omega
                case c4 => omega
                case c5 => have := HO.out.val.lt; simp; omega
                intro g cap w4 hown hgrow hat hlt4
                have O4 := (HO.out.drew.alloc (.cells #[.string X, .string Y] 48)).grown (World.ownsRow.alloc HR.out (.cells #[.string X, .string Y] 48)) (by omega) hgrow
                have Hown := hide hown
                clear hown hgrow hat hlt4 x0 x1 x2 x3
                obtain ⟨x0, x1, x2, x3⟩ := cells4 O4.val
                have f3 := O4.val.free 3
                first | (refine hK _ _ ?_; clear hK K) | skip
                refine wpAny_ready (rs := [14]) (by kernel_rfl) (by simp) ?_
                refine AllReady.cons rfl (fun K hK => ?_) AllReady.nil
                go_simp
                first | (refine hK _ _ ?_; clear hK K) | skip
                refine wpAny_ready (rs := [15]) (by kernel_rfl) (by simp) ?_
                refine AllReady.cons rfl (fun K hK => ?_) AllReady.nil
                go_simp
                first | (refine hK _ _ ?_; clear hK K) | skip
                refine wpAny_done (by kernel_rfl) ?_ _
                have O5 := O4.put3 (.slice (some ⟨g, 0, none⟩) (ps.length + 1) cap)
                have HO5 := hide O5
                have ho5 := own_put (b := w.heap.size + 1) (j := 3) (u := .slice (some ⟨g, 0, none⟩) (ps.length + 1) cap) Hown.out (by omega)
                have Ho5 := hide ho5
                have hn4 : (ps ++ [y]).length = ps.length + 1 := by simp
                clear O4 O5 ho5 x0 x1 x2 x3 f3
                go_wp2
                go_roundw
                case rel => exact ⟨q + 1, ps ++ [y], some ⟨g, 0, none⟩, cap, by have := Hm.out; omega, by have := Hm.out; go_num, Hnx.out, by have := Hnl.out; omega, by rw [hn4]; exact HO5.out, by rw [hn4, pairsV_snoc, Hpv.out]; exact Ho5.out⟩
                case measure => have := Hm.out; simp [intOf]; omega
              · go_simp
                first | (refine hK _ _ ?_; clear hK K) | skip
                refine wpAny_take (i := 11) (v := ?_) rfl (by kernel_rfl) (by kernel_rfl) (by kernel_rfl) (fun _ _ _ h => h) (Or.inl ⟨by rfl, ?_⟩) ?_
                rotate_left
                · intro w; go_simp; try with_reducible rfl
                refine wpAny_ready (rs := [1, 12]) (by kernel_rfl) (by simp) ?_
                refine AllReady.cons rfl (fun K hK => ?_) (AllReady.cons rfl (fun K hK => ?_) AllReady.nil)
                · go_simp
                  first | (refine hK _ _ ?_; clear hK K) | skip
                  refine wpAny_ready (rs := [12]) (by kernel_rfl) (by simp) ?_
                  refine AllReady.cons rfl (fun K hK => ?_) AllReady.nil
                  go_simp
                  first | (refine hK _ _ ?_; clear hK K) | skip
                  refine wpAny_ready (rs := [13]) (by kernel_rfl) (by simp) ?_
                  refine AllReady.cons rfl (fun K hK => ?_) AllReady.nil
                  refine step_append_lies _ (by rfl) _ _ 26 (by rfl) (w.heap.size + 1 + 1) 48 j0 (.agg #[.string ⟨#[]⟩, .string ⟨#[]⟩]) 2 32 Try.underlying26 hj hy0 hy1 hy2 rfl (by decide) (.slice va ps.length vc) ps.length (pairsV ps) (by rfl) (World.ownsRow.alloc HR.out (.cells #[.string X, .string Y] 48)) ⟨wr.heap.size, 0, none⟩ 1 1 [.string X, .string Y] (by rfl) rfl ?c1 ?c2 (by decide) ?c3 ?c4 ?c5 _ rfl ?_
                  case c1 =>
                    intro j u hj
                    match j, hj with
                    | 0, hj => simp at hj; subst hj; simp [Addr.add]
                    | 1, hj => simp at hj; subst hj; simp [Addr.add]
                  case c2 => intro u hu; simp at hu; rcases hu with rfl | rfl <;> rfl
                  case c3 => unfold maxLen; omega
                  case c4 => omega
                  case c5 => have := HO.out.val.lt; simp; omega
                  intro g cap w4 hown hgrow hat hlt4
                  have O4 := (HO.out.drew.alloc (.cells #[.string X, .string Y] 48)).grown (World.ownsRow.alloc HR.out (.cells #[.string X, .string Y] 48)) (by omega) hgrow
                  have Hown := hide hown
                  clear hown hgrow hat hlt4 x0 x1 x2 x3
                  obtain ⟨x0, x1, x2, x3⟩ := cells4 O4.val
                  have f3 := O4.val.free 3
                  first | (refine hK _ _ ?_; clear hK K) | skip
                  refine wpAny_ready (rs := [14]) (by kernel_rfl) (by simp) ?_
                  refine AllReady.cons rfl (fun K hK => ?_) AllReady.nil
                  go_simp
                  first | (refine hK _ _ ?_; clear hK K) | skip
                  refine wpAny_ready (rs := [15]) (by kernel_rfl) (by simp) ?_
                  refine AllReady.cons rfl (fun K hK => ?_) AllReady.nil
                  go_simp
                  first | (refine hK _ _ ?_; clear hK K) | skip
                  refine wpAny_done (by kernel_rfl) ?_ _
                  have O5 := O4.put3 (.slice (some ⟨g, 0, none⟩) (ps.length + 1) cap)
                  have HO5 := hide O5
                  have ho5 := own_put (b := w.heap.size + 1) (j := 3) (u := .slice (some ⟨g, 0, none⟩) (ps.length + 1) cap) Hown.out (by omega)
                  have Ho5 := hide ho5
                  have hn4 : (ps ++ [y]).length = ps.length + 1 := by simp
                  clear O4 O5 ho5 x0 x1 x2 x3 f3
                  go_wp2
                  go_roundw
                  case rel => exact ⟨q + 1, ps ++ [y], some ⟨g, 0, none⟩, cap, by have := Hm.out; omega, by have := Hm.out; go_num, Hnx.out, by have := Hnl.out; omega, by rw [hn4]; exact HO5.out, by rw [hn4, pairsV_snoc, Hpv.out]; exact Ho5.out⟩
                  case measure => have := Hm.out; simp [intOf]; omega
                · go_simp
                  first | (refine hK _ _ ?_; clear hK K) | skip
                  clear x0 x1 x2 x3
                  obtain ⟨x0, x1, x2, x3⟩ := cells4 (HO.out.alloc (.cells #[.string X, .string Y] 48)).val
                  refine wpAny_ready (rs := [1]) (by kernel_rfl) (by simp) ?_
                  refine AllReady.cons rfl (fun K hK => ?_) AllReady.nil
                  go_simp
                  first | (refine hK _ _ ?_; clear hK K) | skip
                  refine wpAny_ready (rs := [13]) (by kernel_rfl) (by simp) ?_
                  refine AllReady.cons rfl (fun K hK => ?_) AllReady.nil
                  refine step_append_lies _ (by rfl) _ _ 26 (by rfl) (w.heap.size + 1 + 1) 48 j0 (.agg #[.string ⟨#[]⟩, .string ⟨#[]⟩]) 2 32 Try.underlying26 hj hy0 hy1 hy2 rfl (by decide) (.slice va ps.length vc) ps.length (pairsV ps) (by rfl) (World.ownsRow.alloc HR.out (.cells #[.string X, .string Y] 48)) ⟨wr.heap.size, 0, none⟩ 1 1 [.string X, .string Y] (by rfl) rfl ?c1 ?c2 (by decide) ?c3 ?c4 ?c5 _ rfl ?_
                  case c1 =>
                    intro j u hj
                    match j, hj with
                    | 0, hj => simp at hj; subst hj; simp [Addr.add]
                    | 1, hj => simp at hj; subst hj; simp [Addr.add]
                  case c2 => intro u hu; simp at hu; rcases hu with rfl | rfl <;> rfl
                  case c3 => unfold maxLen; omega
                  case c4 => omega
                  case c5 => have := HO.out.val.lt; simp; omega
                  intro g cap w4 hown hgrow hat hlt4
                  have O4 := (HO.out.drew.alloc (.cells #[.string X, .string Y] 48)).grown (World.ownsRow.alloc HR.out (.cells #[.string X, .string Y] 48)) (by omega) hgrow
                  have Hown := hide hown
                  clear hown hgrow hat hlt4 x0 x1 x2 x3
                  obtain ⟨x0, x1, x2, x3⟩ := cells4 O4.val
                  have f3 := O4.val.free 3
                  first | (refine hK _ _ ?_; clear hK K) | skip
                  refine wpAny_ready (rs := [14]) (by kernel_rfl) (by simp) ?_
                  refine AllReady.cons rfl (fun K hK => ?_) AllReady.nil
                  go_simp
                  first | (refine hK _ _ ?_; clear hK K) | skip
                  refine wpAny_ready (rs := [15]) (by kernel_rfl) (by simp) ?_
                  refine AllReady.cons rfl (fun K hK => ?_) AllReady.nil
                  go_simp
                  first | (refine hK _ _ ?_; clear hK K) | skip
                  refine wpAny_done (by kernel_rfl) ?_ _
                  have O5 := O4.put3 (.slice (some ⟨g, 0, none⟩) (ps.length + 1) cap)
                  have HO5 := hide O5
                  have ho5 := own_put (b := w.heap.size + 1) (j := 3) (u := .slice (some ⟨g, 0, none⟩) (ps.length + 1) cap) Hown.out (by omega)
                  have Ho5 := hide ho5
                  have hn4 : (ps ++ [y]).length = ps.length + 1 := by simp
                  clear O4 O5 ho5 x0 x1 x2 x3 f3
                  go_wp2
                  go_roundw
                  case rel => exact ⟨q + 1, ps ++ [y], some ⟨g, 0, none⟩, cap, by have := Hm.out; omega, by have := Hm.out; go_num, Hnx.out, by have := Hnl.out; omega, by rw [hn4]; exact HO5.out, by rw [hn4, pairsV_snoc, Hpv.out]; exact Ho5.out⟩
                  case measure => have := Hm.out; simp [intOf]; omega
            · go_simp
              first | (refine hK _ _ ?_; clear hK K) | skip
              refine wpAny_ready (rs := [1, 5]) (by kernel_rfl) (by simp) ?_
              refine AllReady.cons rfl (fun K hK => ?_) (AllReady.cons rfl (fun K hK => ?_) AllReady.nil)
              · go_simp
                first | (refine hK _ _ ?_; clear hK K) | skip
                refine wpAny_ready (rs := [5]) (by kernel_rfl) (by simp) ?_
                refine AllReady.cons rfl (fun K hK => ?_) AllReady.nil
                go_simp
                first | (refine hK _ _ ?_; clear hK K) | skip
                refine wpAny_take (i := 11) (v := ?_) rfl (by kernel_rfl) (by kernel_rfl) (by kernel_rfl) (fun _ _ _ h => h) (Or.inl ⟨by rfl, ?_⟩) ?_
                rotate_left
                · intro w; go_simp; try with_reducible rfl
                refine wpAny_ready (rs := [12]) (by kernel_rfl) (by simp) ?_
                refine AllReady.cons rfl (fun K hK => ?_) AllReady.nil
                go_simp
                first | (refine hK _ _ ?_; clear hK K) | skip
                refine wpAny_ready (rs := [13]) (by kernel_rfl) (by simp) ?_
                refine AllReady.cons rfl (fun K hK => ?_) AllReady.nil
                refine step_append_lies _ (by rfl) _ _ 26 (by rfl) (w.heap.size + 1 + 1) 48 j0 (.agg #[.string ⟨#[]⟩, .string ⟨#[]⟩]) 2 32 Try.underlying26 hj hy0 hy1 hy2 rfl (by decide) (.slice va ps.length vc) ps.length (pairsV ps) (by rfl) (World.ownsRow.alloc HR.out (.cells #[.string X, .string Y] 48)) ⟨wr.heap.size, 0, none⟩ 1 1 [.string X, .string Y] (by rfl) rfl ?c1 ?c2 (by decide) ?c3 ?c4 ?c5 _ rfl ?_
                case c1 =>
                  intro j u hj
                  match j, hj with
                  | 0, hj => simp at hj; subst hj; simp [Addr.add]
                  | 1, hj => simp at hj; subst hj; simp [Addr.add]
                case c2 => intro u hu; simp at hu; rcases hu with rfl | rfl <;> rfl
                case c3 => unfold maxLen; omega
                case c4 => omega
                case c5 => have := HO.out.val.lt; simp; omega
                intro g cap w4 hown hgrow hat hlt4
                have O4 := (HO.out.drew.alloc (.cells #[.string X, .string Y] 48)).grown (World.ownsRow.alloc HR.out (.cells #[.string X, .string Y] 48)) (by omega) hgrow
                have Hown := hide hown
                clear hown hgrow hat hlt4 x0 x1 x2 x3
                obtain ⟨x0, x1, x2, x3⟩ := cells4 O4.val
                have f3 := O4.val.free 3
                first | (refine hK _ _ ?_; clear hK K) | skip
                refine wpAny_ready (rs := [14]) (by kernel_rfl) (by simp) ?_
                refine AllReady.cons rfl (fun K hK => ?_) AllReady.nil
                go_simp
                first | (refine hK _ _ ?_; clear hK K) | skip
                refine wpAny_ready (rs := [15]) (by kernel_rfl) (by simp) ?_
                refine AllReady.cons rfl (fun K hK => ?_) AllReady.nil
                go_simp
                first | (refine hK _ _ ?_; clear hK K) | skip
                refine wpAny_done (by kernel_rfl) ?_ _
                have O5 := O4.put3 (.slice (some ⟨g, 0, none⟩) (ps.length + 1) cap)
                have HO5 := hide O5
                have ho5 := own_put (b := w.heap.size + 1) (j := 3) (u := .slice (some ⟨g, 0, none⟩) (ps.length + 1) cap) Hown.out (by omega)
                have Ho5 := hide ho5
                have hn4 : (ps ++ [y]).length = ps.length + 1 := by simp
                clear O4 O5 ho5 x0 x1 x2 x3 f3
                go_wp2
                go_roundw
                case rel => exact ⟨q + 1, ps ++ [y], some ⟨g, 0, none⟩, cap, by have := Hm.out; omega, by have := Hm.out; go_num, Hnx.out, by have := Hnl.out; omega, by rw [hn4]; exact HO5.out, by rw [hn4, pairsV_snoc, Hpv.out]; exact Ho5.out⟩
                case measure => have := Hm.out; simp [intOf]; omega
              · go_simp
                first | (refine hK _ _ ?_; clear hK K) | skip
                refine wpAny_take (i := 11) (v := ?_) rfl (by kernel_rfl) (by kernel_rfl) (by kernel_rfl) (fun _ _ _ h => h) (Or.inl ⟨by rfl, ?_⟩) ?_
                rotate_left
                · intro w; go_simp; try with_reducible rfl
                refine wpAny_ready (rs := [1, 12]) (by kernel_rfl) (by simp) ?_
                refine AllReady.cons rfl (fun K hK => ?_) (AllReady.cons rfl (fun K hK => ?_) AllReady.nil)
                · go_simp
                  first | (refine hK _ _ ?_; clear hK K) | skip
                  refine wpAny_ready (rs := [12]) (by kernel_rfl) (by simp) ?_
                  refine AllReady.cons rfl (fun K hK => ?_) AllReady.nil
                  go_simp
                  first | (refine hK _ _ ?_; clear hK K) | skip
                  refine wpAny_ready (rs := [13]) (by kernel_rfl) (by simp) ?_
                  refine AllReady.cons rfl (fun K hK => ?_) AllReady.nil
                  refine step_append_lies _ (by rfl) _ _ 26 (by rfl) (w.heap.size + 1 + 1) 48 j0 (.agg #[.string ⟨#[]⟩, .string ⟨#[]⟩]) 2 32 Try.underlying26 hj hy0 hy1 hy2 rfl (by decide) (.slice va ps.length vc) ps.length (pairsV ps) (by rfl) (World.ownsRow.alloc HR.out (.cells #[.string X, .string Y] 48)) ⟨wr.heap.size, 0, none⟩ 1 1 [.string X, .string Y] (by rfl) rfl ?c1 ?c2 (by decide) ?c3 ?c4 ?c5 _ rfl ?_
                  case c1 =>
                    intro j u hj
                    match j, hj with
                    | 0, hj => simp at hj; subst hj; simp [Addr.add]
                    | 1, hj => simp at hj; subst hj; simp [Addr.add]
                  case c2 => intro u hu; simp at hu; rcases hu with rfl | rfl <;> rfl
                  case c3 => unfold maxLen; omega
                  case c4 => omega
                  case c5 => have := HO.out.val.lt; simp; omega
                  intro g cap w4 hown hgrow hat hlt4
                  have O4 := (HO.out.drew.alloc (.cells #[.string X, .string Y] 48)).grown (World.ownsRow.alloc HR.out (.cells #[.string X, .string Y] 48)) (by omega) hgrow
                  have Hown := hide hown
                  clear hown hgrow hat hlt4 x0 x1 x2 x3
                  obtain ⟨x0, x1, x2, x3⟩ := cells4 O4.val
                  have f3 := O4.val.free 3
                  first | (refine hK _ _ ?_; clear hK K) | skip
                  refine wpAny_ready (rs := [14]) (by kernel_rfl) (by simp) ?_
                  refine AllReady.cons rfl (fun K hK => ?_) AllReady.nil
                  go_simp
                  first | (refine hK _ _ ?_; clear hK K) | skip
                  refine wpAny_ready (rs := [15]) (by kernel_rfl) (by simp) ?_
                  refine AllReady.cons rfl (fun K hK => ?_) AllReady.nil
                  go_simp
                  first | (refine hK _ _ ?_; clear hK K) | skip
                  refine wpAny_done (by kernel_rfl) ?_ _
                  have O5 := O4.put3 (.slice (some ⟨g, 0, none⟩) (ps.length + 1) cap)
                  have HO5 := hide O5
                  have ho5 := own_put (b := w.heap.size + 1) (j := 3) (u := .slice (some ⟨g, 0, none⟩) (ps.length + 1) cap) Hown.out (by omega)
                  have Ho5 := hide ho5
                  have hn4 : (ps ++ [y]).length = ps.length + 1 := by simp
                  clear O4 O5 ho5 x0 x1 x2 x3 f3
                  go_wp2
                  go_roundw
                  case rel => exact ⟨q + 1, ps ++ [y], some ⟨g, 0, none⟩, cap, by have := Hm.out; omega, by have := Hm.out; go_num, Hnx.out, by have := Hnl.out; omega, by rw [hn4]; exact HO5.out, by rw [hn4, pairsV_snoc, Hpv.out]; exact Ho5.out⟩
                  case measure => have := Hm.out; simp [intOf]; omega
                · go_simp
                  first | (refine hK _ _ ?_; clear hK K) | skip
                  clear x0 x1 x2 x3
                  obtain ⟨x0, x1, x2, x3⟩ := cells4 (HO.out.alloc (.cells #[.string X, .string Y] 48)).val
                  refine wpAny_ready (rs := [1]) (by kernel_rfl) (by simp) ?_
                  refine AllReady.cons rfl (fun K hK => ?_) AllReady.nil
                  go_simp
                  first | (refine hK _ _ ?_; clear hK K) | skip
                  refine wpAny_ready (rs := [13]) (by kernel_rfl) (by simp) ?_
                  refine AllReady.cons rfl (fun K hK => ?_) AllReady.nil
                  refine step_append_lies _ (by rfl) _ _ 26 (by rfl) (w.heap.size + 1 + 1) 48 j0 (.agg #[.string ⟨#[]⟩, .string ⟨#[]⟩]) 2 32 Try.underlying26 hj hy0 hy1 hy2 rfl (by decide) (.slice va ps.length vc) ps.length (pairsV ps) (by rfl) (World.ownsRow.alloc HR.out (.cells #[.string X, .string Y] 48)) ⟨wr.heap.size, 0, none⟩ 1 1 [.string X, .string Y] (by rfl) rfl ?c1 ?c2 (by decide) ?c3 ?c4 ?c5 _ rfl ?_
                  case c1 =>
                    intro j u hj
                    match j, hj with
                    | 0, hj => simp at hj; subst hj; simp [Addr.add]
                    | 1, hj => simp at hj; subst hj; simp [Addr.add]
                  case c2 => intro u hu; simp at hu; rcases hu with rfl | rfl <;> rfl
                  case c3 => unfold maxLen; omega
                  case c4 => omega
                  case c5 => have := HO.out.val.lt; simp; omega
                  intro g cap w4 hown hgrow hat hlt4
                  have O4 := (HO.out.drew.alloc (.cells #[.string X, .string Y] 48)).grown (World.ownsRow.alloc HR.out (.cells #[.string X, .string Y] 48)) (by omega) hgrow
                  have Hown := hide hown
                  clear hown hgrow hat hlt4 x0 x1 x2 x3
                  obtain ⟨x0, x1, x2, x3⟩ := cells4 O4.val
                  have f3 := O4.val.free 3
                  first | (refine hK _ _ ?_; clear hK K) | skip
                  refine wpAny_ready (rs := [14]) (by kernel_rfl) (by simp) ?_
                  refine AllReady.cons rfl (fun K hK => ?_) AllReady.nil
                  go_simp
                  first | (refine hK _ _ ?_; clear hK K) | skip
                  refine wpAny_ready (rs := [15]) (by kernel_rfl) (by simp) ?_
                  refine AllReady.cons rfl (fun K hK => ?_) AllReady.nil
                  go_simp
                  first | (refine hK _ _ ?_; clear hK K) | skip
                  refine wpAny_done (by kernel_rfl) ?_ _
                  have O5 := O4.put3 (.slice (some ⟨g, 0, none⟩) (ps.length + 1) cap)
                  have HO5 := hide O5
                  have ho5 := own_put (b := w.heap.size + 1) (j := 3) (u := .slice (some ⟨g, 0, none⟩) (ps.length + 1) cap) Hown.out (by omega)
                  have Ho5 := hide ho5
                  have hn4 : (ps ++ [y]).length = ps.length + 1 := by simp
                  clear O4 O5 ho5 x0 x1 x2 x3 f3
                  go_wp2
                  go_roundw
                  case rel => exact ⟨q + 1, ps ++ [y], some ⟨g, 0, none⟩, cap, by have := Hm.out; omega, by have := Hm.out; go_num, Hnx.out, by have := Hnl.out; omega, by rw [hn4]; exact HO5.out, by rw [hn4, pairsV_snoc, Hpv.out]; exact Ho5.out⟩
                  case measure => have := Hm.out; simp [intOf]; omega
          · have hqe : 2 * q = l.length := by omega
            have hte : pairsL l = ps := by rw [← hps, hqe, List.take_length]
            have hoe : o = some ⟨3, [], [], ps⟩ := by rw [Hoo.out, hte]
            have Hoe := hide hoe
            clear hoe
            have HO := hide O
            have HR := hide R
            have hnl2 : ¬ 2 * q + 1 < l.length := by omega
            obtain ⟨r0, r1, r2, r3⟩ := cells4 O.res
            have e0 := O.res.free 0
            have e1 := O.res.free 1
            have e2 := O.res.free 2
            have e3 := O.res.free 3
            obtain ⟨m, hm⟩ : ∃ m, 2 * q = m := ⟨_, rfl⟩
            have hmb : m ≤ 2000 := by omega
            rw [hm] at hnl2 ⊢
            clear hte hps hpl O R hqe hm hlt
            go_wp2
            have ho5 := own_copy (w := w) (y0 := .int .i64 3) (y1 := .string ⟨#[]⟩) (y2 := .slice none 0 0) (y3 := .slice va ps.length vc) HR.out (by omega)
            refine bodyPost_ret (v := .tuple #[.agg #[.int .i64 3, .string ⟨#[]⟩, .slice none 0 0, .slice va ps.length vc], .bool true]) (ret_cell_tmp Try.results35 _ _ rfl HO.out.copy.2 Try.underlying28 rfl (by kernel_rfl)) rfl (of_yes Hoe.out HO.out.copy.1 ⟨.slice none 0 0, .slice va ps.length vc, rfl, .inl ⟨rfl, _, _, rfl⟩, PairsAt.of_owns ho5⟩ ⟨_, _, _, _, rfl, Newly.none _ _ _, Newly.of_owns ho5 (by omega)⟩)
end Go.Proofs.Ytgnccmmbpgnamaa
