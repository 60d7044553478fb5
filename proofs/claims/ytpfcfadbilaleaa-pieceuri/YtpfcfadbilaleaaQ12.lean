/-
  TEXTS JOINED: V4, V5, V7, V8, V9, V10.
-/
import Derived.Deep.AppendLies
import Derived.Deep.RegionHeld3
import Derived.WalkLawsBesides
import Derived.Test.YtpfcfadbilaleaaQ11
/-
  WALKS: the reference's Texts (layer 8).
-/
namespace Go.Proofs.Ytpfcfadbilaleaa
open Go.RowKit

theorem own_later {W w1 : World} {base : Nat} {v : Value} {n : Nat} {xs : List Value} {t : TypeId} {z : Nat} (h : W.ownsRow base t z v n xs) (bb : Below W.heap.size W w1) : w1.ownsRow base t z v n xs := by
  refine ⟨h.1, ?_⟩
  rcases h.2 with ⟨rfl, h0⟩ | ⟨g, cap, cur, rfl, h1, hg, hn, hm, hs, ht⟩
  · exact .inl ⟨rfl, h0⟩
  · exact .inr ⟨g, cap, cur, rfl, h1, (bb.block g (lt_of_block hg)).trans hg, hn, hm, hs, ht⟩
theorem cells4 {W : World} {b : Nat} {t : TypeId} {x y z u : Value} (h : Bx W b #[x, y, z, u] t) : W.cell? ⟨b, 0, none⟩ = some x ∧ W.cell? ⟨b, 1, none⟩ = some y ∧ W.cell? ⟨b, 2, none⟩ = some z ∧ W.cell? ⟨b, 3, none⟩ = some u := ⟨h.cell 0 x rfl, h.cell 1 y rfl, h.cell 2 z rfl, h.cell 3 u rfl⟩
/-- a value's box, and texts that are gathered -/
structure Gx (w W : World) (k : Int) (S : ByteArray) (sl sp : Value) (v : Value) (ns : List (List UInt8)) : Prop where
  bel : Below w.heap.size w W
  box : Bx W w.heap.size #[.int .i64 k, .string S, sl, sp] 27
  row : W.ownsRow (w.heap.size + 1) 9 1 v ns.length (strsV ns)
section
variable {w W W' : World} {k : Int} {S : ByteArray} {sl sp v v' : Value} {ns ms : List (List UInt8)}
theorem Gx.next (h : Gx w W k S sl sp v ns) (bb : Below W.heap.size W W') : Gx w W' k S sl sp v ns := ⟨h.bel.trans (bb.mono h.bel.size), h.box.next bb, own_later h.row bb⟩
theorem Gx.alloc (h : Gx w W k S sl sp v ns) (o : Obj) : Gx w (W.alloc o) k S sl sp v ns := h.next ((Below.refl _ _).alloc (Nat.le_refl _) _)
theorem Gx.drew (h : Gx w W k S sl sp v ns) : Gx w W.drew k S sl sp v ns := ⟨h.bel.drew, h.box, h.row⟩
theorem Gx.grown {n : Nat} (h : Gx w W k S sl sp v ns) (hg : W.grownBy W' v.ownBlock) (ho : W'.ownsRow (w.heap.size + 1) 9 1 v' n (strsV ns ++ strsV ms)) (hn : ns.length + ms.length = n) : Gx w W' k S sl sp v' (ns ++ ms) := by
  have hl := h.box.lt
  refine ⟨h.bel.grown hg (by omega) (fun j hj => by have := (h.row.lt j hj).1; omega), (hg.block _ hl (fun e => by have := (h.row.lt _ e.symm).1; omega)).trans h.box, ?_⟩
  rw [List.length_append, hn]
  have e : strsV (ns ++ ms) = strsV ns ++ strsV ms := by simp [strsV]
  rw [e]
  exact ho
end
theorem Gx.pair {w W : World} {k : Int} {S : ByteArray} {sl sp v : Value} {ns : List (List UInt8)} (h : Gx w W k S sl sp v ns) {b o : Nat} {X Y : ByteArray} (hb : b < w.heap.size) (g1 : w.cell? ⟨b, o, none⟩ = some (.string X)) (g2 : w.cell? ⟨b, o + 1, none⟩ = some (.string Y)) :
    W.cell? ⟨w.heap.size, 3, none⟩ = some sp ∧ W.cell? ⟨b, o, none⟩ = some (.string X) ∧ W.cell? ⟨b, o + 1, none⟩ = some (.string Y) :=
  ⟨h.box.cell 3 _ rfl, (h.bel.cell (p := ⟨b, o, none⟩) hb).trans g1, (h.bel.cell (p := ⟨b, o + 1, none⟩) hb).trans g2⟩
end Go.Proofs.Ytpfcfadbilaleaa
/-
  WALKS: the reference's Of (layer 8).
-/
namespace Go.Proofs.Ytpfcfadbilaleaa
open Go.RowKit

/-- the slice lies in no elder block -/
def Newly (n : Nat) (v : Value) : Prop := ∀ b off k c, v = .slice (some ⟨b, off, none⟩) k c → n ≤ b
theorem Newly.none (n k c : Nat) : Newly n (.slice none k c) := fun _ _ _ _ e => by cases e
theorem Newly.of_owns {n : Nat} {w : World} {base z m : Nat} {t : TypeId} {v : Value} {xs : List Value} (h : w.ownsRow base t z v m xs) (hb : n ≤ base) : Newly n v := by
  intro b off k c e
  subst e
  rcases h.2 with ⟨e, _⟩ | ⟨g, cap, cur, e, h1, _⟩
  · cases e
  · cases e; omega
/-- the result's cell, and the value that is made, in memory -/
structure Ox (w W : World) (y0 y1 y2 y3 : Value) : Prop where
  bel : Below w.heap.size w W
  res : Bx W w.heap.size #[.int .i64 0, .string ⟨#[]⟩, .slice none 0 0, .slice none 0 0] 27
  val : Bx W (w.heap.size + 1) #[y0, y1, y2, y3] 27
section
variable {w W W' : World} {y0 y1 y2 y3 : Value}
theorem Ox.next (h : Ox w W y0 y1 y2 y3) (bb : Below W.heap.size W W') : Ox w W' y0 y1 y2 y3 := ⟨h.bel.trans (bb.mono h.bel.size), h.res.next bb, h.val.next bb⟩
theorem Ox.drew (h : Ox w W y0 y1 y2 y3) : Ox w W.drew y0 y1 y2 y3 := ⟨h.bel.drew, h.res, h.val⟩
theorem Ox.alloc (h : Ox w W y0 y1 y2 y3) (o : Obj) : Ox w (W.alloc o) y0 y1 y2 y3 := h.next ((Below.refl _ _).alloc (Nat.le_refl _) _)
theorem Ox.grown {base n z : Nat} {t : TypeId} {v : Value} {xs : List Value} (h : Ox w W y0 y1 y2 y3) (ho : W.ownsRow base t z v n xs) (hb : w.heap.size + 1 < base) (hg : W.grownBy W' v.ownBlock) : Ox w W' y0 y1 y2 y3 := by
  have hl := h.val.lt
  have hr : ∀ i, i < base → some i ≠ v.ownBlock := fun i hi e => by have := (ho.lt i e.symm).1; omega
  exact ⟨h.bel.grown hg (by omega) (fun j hj => by have := (ho.lt j hj).1; omega), (hg.block _ (by omega) (hr _ (by omega))).trans h.res, (hg.block _ hl (hr _ hb)).trans h.val⟩
theorem Ox.put2 (h : Ox w W y0 y1 y2 y3) (u : Value) : Ox w (W.setCell ⟨w.heap.size + 1, 2, none⟩ u) y0 y1 u y3 := ⟨h.bel.setCell (p := ⟨_, 2, none⟩) (by simp) _, h.res.other (by omega) 2 u, h.val.put 2 u⟩
theorem Ox.put3 (h : Ox w W y0 y1 y2 y3) (u : Value) : Ox w (W.setCell ⟨w.heap.size + 1, 3, none⟩ u) y0 y1 y2 u := ⟨h.bel.setCell (p := ⟨_, 3, none⟩) (by simp) _, h.res.other (by omega) 3 u, h.val.put 3 u⟩
end
def twoV (q : List UInt8 × List UInt8) : List Value := [.string ⟨q.1.toArray⟩, .string ⟨q.2.toArray⟩]
def pairsV (ps : List (List UInt8 × List UInt8)) : List Value := ps.flatMap twoV
theorem two_at : ∀ (ps : List (List UInt8 × List UInt8)) (k j : Nat) (h : k < ps.length), j < 2 → (pairsV ps)[k * 2 + j]? = (twoV ps[k])[j]? := by
  intro ps
  induction ps with
  | nil => intro k j h; simp at h
  | cons x xs ih =>
    intro k j h hj
    show (twoV x ++ pairsV xs)[k * 2 + j]? = _
    have hx : (twoV x).length = 2 := rfl
    cases k with
    | zero => rw [Nat.zero_mul, Nat.zero_add, List.getElem?_append_left (by rw [hx]; exact hj)]; rfl
    | succ k =>
      rw [List.getElem?_append_right (by rw [hx]; omega), hx, show (k + 1) * 2 + j - 2 = k * 2 + j by omega]
      exact ih k j (by simpa using h) hj
theorem PairsAt.of_owns {w : World} {base : Nat} {v : Value} {ps : List (List UInt8 × List UInt8)} (h : w.ownsRow base 77 2 v ps.length (pairsV ps)) : PairsAt w v ps := by
  have h' := h
  rcases h.2 with ⟨rfl, h0⟩ | ⟨g, cap, cur, rfl, _, hg, hn, hm, hs, ht⟩
  · exact .inl ⟨List.eq_nil_of_length_eq_zero h0, _, _, rfl⟩
  · by_cases hp : 0 < ps.length
    · refine .inr ⟨hp, g, 0, cap, rfl, fun k hk => ?_⟩
      rw [Nat.zero_add]
      have e0 := h'.cellAt (k * 2 + 0) (by omega)
      have e1 := h'.cellAt (k * 2 + 1) (by omega)
      rw [two_at ps k _ hk (by omega)] at e0 e1
      exact ⟨e0, e1⟩
    · have : ps = [] := List.eq_nil_of_length_eq_zero (by omega)
      subst this
      exact .inl ⟨rfl, _, _, rfl⟩
end Go.Proofs.Ytpfcfadbilaleaa
/-
  The reference's Of and Texts, as Canon calls them (layer 8).
-/
namespace Go.Proofs.Ytpfcfadbilaleaa
open Go.RowKit

theorem texts_len (v : Vl) (hl : v.l.length ≤ 1000) (hp : v.p.length ≤ 1000) : (textsV v).length ≤ 2000 := by
  unfold textsV
  split
  · simp
  · split
    · omega
    · split
      · rw [flat_len]; omega
      · simp
end Go.Proofs.Ytpfcfadbilaleaa
/-
  WALKS: the reference's Canon (layer 8).
-/
namespace Go.Proofs.Ytpfcfadbilaleaa
open Go.RowKit

/-- an argument's cells, and the result's -/
structure Kx (w W : World) (k : Int) (S : ByteArray) (sl sp : Value) : Prop where
  bel : Below w.heap.size w W
  box : Bx W w.heap.size #[.int .i64 k, .string S, sl, sp] 27
  res : Bx W (w.heap.size + 1) #[.int .i64 0, .string ⟨#[]⟩, .slice none 0 0, .slice none 0 0] 27
section
variable {w W W' : World} {k : Int} {S : ByteArray} {sl sp : Value}
theorem Kx.next (h : Kx w W k S sl sp) (bb : Below W.heap.size W W') : Kx w W' k S sl sp := ⟨h.bel.trans (bb.mono h.bel.size), h.box.next bb, h.res.next bb⟩
theorem Kx.drew (h : Kx w W k S sl sp) : Kx w W.drew k S sl sp := ⟨h.bel.drew, h.box, h.res⟩
theorem Kx.alloc (h : Kx w W k S sl sp) (o : Obj) : Kx w (W.alloc o) k S sl sp := h.next ((Below.refl _ _).alloc (Nat.le_refl _) _)
theorem Kx.all (h : Kx w W k S sl sp) : W.cell? ⟨w.heap.size, 0, none⟩ = some (.int .i64 k) ∧ W.cell? ⟨w.heap.size, 1, none⟩ = some (.string S) ∧ W.cell? ⟨w.heap.size, 2, none⟩ = some sl ∧ W.cell? ⟨w.heap.size, 3, none⟩ = some sp := cells4 h.box
theorem Kx.put4 (h : Kx w W k S sl sp) {b : Nat} (hb : w.heap.size + 1 < b) (a0 a1 a2 a3 : Value) : Kx w ((((W.setCell ⟨b, 0, none⟩ a0).setCell ⟨b, 1, none⟩ a1).setCell ⟨b, 2, none⟩ a2).setCell ⟨b, 3, none⟩ a3) k S sl sp :=
  ⟨(((h.bel.setCell (p := ⟨b, 0, none⟩) (by simp; omega) _).setCell (p := ⟨b, 1, none⟩) (by simp; omega) _).setCell (p := ⟨b, 2, none⟩) (by simp; omega) _).setCell (p := ⟨b, 3, none⟩) (by simp; omega) _,
    (((h.box.other (by omega) _ _).other (by omega) _ _).other (by omega) _ _).other (by omega) _ _, (((h.res.other (by omega) _ _).other (by omega) _ _).other (by omega) _ _).other (by omega) _ _⟩
end
theorem cell_other {W : World} {b g j o : Nat} {u : Value} (h : b ≠ g) : (W.setCell ⟨b, j, none⟩ u).cell? ⟨g, o, none⟩ = W.cell? ⟨g, o, none⟩ := by
  unfold World.cell?
  rw [heap_setCell_other _ _ _ _ (Ne.symm h)]
theorem StrsAt.put {W : World} {v : Value} {ps : List (List UInt8)} {n b : Nat} (h : StrsAt W v ps) (hn : Newly n v) (hb : b < n) (j : Nat) (u : Value) : StrsAt (W.setCell ⟨b, j, none⟩ u) v ps := by
  rcases h with h | ⟨hp, g, off, cap, rfl, hc⟩
  · exact .inl h
  · have := hn g off _ _ rfl
    exact .inr ⟨hp, g, off, cap, rfl, fun k hk => by rw [cell_other (by omega)]; exact hc k hk⟩
theorem PairsAt.put {W : World} {v : Value} {ps : List (List UInt8 × List UInt8)} {n b : Nat} (h : PairsAt W v ps) (hn : Newly n v) (hb : b < n) (j : Nat) (u : Value) : PairsAt (W.setCell ⟨b, j, none⟩ u) v ps := by
  rcases h with h | ⟨hp, g, off, cap, rfl, hc⟩
  · exact .inl h
  · have := hn g off _ _ rfl
    exact .inr ⟨hp, g, off, cap, rfl, fun k hk => by rw [cell_other (by omega), cell_other (by omega)]; exact hc k hk⟩
theorem b_drew (W : World) : Below W.heap.size W W.drew := (Below.refl _ _).drew
theorem b_alloc (W : World) (o : Obj) : Below W.heap.size W (W.alloc o) := (Below.refl _ _).alloc (Nat.le_refl _) _
end Go.Proofs.Ytpfcfadbilaleaa
/-
  WALKS: the reference's Same (layer 8).
-/
namespace Go.Proofs.Ytpfcfadbilaleaa
open Go.RowKit

/-- two arguments' cells -/
structure Jx (w W : World) (x y : Array Value) : Prop where
  bel : Below w.heap.size w W
  fst : Bx W w.heap.size x 27
  snd : Bx W (w.heap.size + 1) y 27
section
variable {w W W' : World} {x y : Array Value}
theorem Jx.next (h : Jx w W x y) (bb : Below W.heap.size W W') : Jx w W' x y := ⟨h.bel.trans (bb.mono h.bel.size), h.fst.next bb, h.snd.next bb⟩
theorem Jx.drew (h : Jx w W x y) : Jx w W.drew x y := ⟨h.bel.drew, h.fst, h.snd⟩
theorem Jx.alloc (h : Jx w W x y) (o : Obj) : Jx w (W.alloc o) x y := h.next ((Below.refl _ _).alloc (Nat.le_refl _) _)
theorem Jx.made (w : World) (x y : Array Value) : Jx w ((w.alloc (.cells x 27)).alloc (.cells y 27)) x y := by
  refine ⟨((Below.refl _ _).alloc (Nat.le_refl _) _).alloc (by simp) _, (Bx.made _ _ _).later _, ?_⟩
  have := Bx.made (w.alloc (.cells x 27)) y 27
  simpa using this
theorem Jx.all {x0 x1 x2 x3 y0 y1 y2 y3 : Value} (h : Jx w W #[x0, x1, x2, x3] #[y0, y1, y2, y3]) : W.cell? ⟨w.heap.size, 0, none⟩ = some x0 ∧ W.cell? ⟨w.heap.size, 1, none⟩ = some x1 ∧ W.cell? ⟨w.heap.size, 2, none⟩ = some x2 ∧ W.cell? ⟨w.heap.size, 3, none⟩ = some x3 ∧ W.cell? ⟨w.heap.size + 1, 0, none⟩ = some y0 ∧ W.cell? ⟨w.heap.size + 1, 1, none⟩ = some y1 ∧ W.cell? ⟨w.heap.size + 1, 2, none⟩ = some y2 ∧ W.cell? ⟨w.heap.size + 1, 3, none⟩ = some y3 := by
  obtain ⟨a0, a1, a2, a3⟩ := cells4 h.fst
  obtain ⟨b0, b1, b2, b3⟩ := cells4 h.snd
  exact ⟨a0, a1, a2, a3, b0, b1, b2, b3⟩
end
end Go.Proofs.Ytpfcfadbilaleaa
/-
  WALKS: the reference's Compare (layer 8).
-/
namespace Go.Proofs.Ytpfcfadbilaleaa
open Go.RowKit

/-- two arguments' cells, and their canonical values' -/
structure Ux (w W : World) (x y : Array Value) (p q : Nat) (ca cb : Vl) (c d : Array Value) : Prop where
  two : Jx w W x y
  hp : w.heap.size ≤ p
  fst : Bx W p c 27
  snd : Bx W q d 27
  va : VlAt W (.agg c) ca
  vb : VlAt W (.agg d) cb
section
variable {w W W' : World} {x y c d : Array Value} {p q : Nat} {ca cb : Vl}
theorem Ux.next (h : Ux w W x y p q ca cb c d) (bb : Below W.heap.size W W') : Ux w W' x y p q ca cb c d := ⟨h.two.next bb, h.hp, h.fst.next bb, h.snd.next bb, h.va.later bb, h.vb.later bb⟩
theorem Ux.drew (h : Ux w W x y p q ca cb c d) : Ux w W.drew x y p q ca cb c d := ⟨h.two.drew, h.hp, h.fst, h.snd, h.va.later (b_drew _), h.vb.later (b_drew _)⟩
theorem Ux.all {x0 x1 x2 x3 y0 y1 y2 y3 : Value} (h : Ux w W x y p q ca cb #[x0, x1, x2, x3] #[y0, y1, y2, y3]) : W.cell? ⟨p, 0, none⟩ = some x0 ∧ W.cell? ⟨p, 1, none⟩ = some x1 ∧ W.cell? ⟨p, 2, none⟩ = some x2 ∧ W.cell? ⟨p, 3, none⟩ = some x3 ∧ W.cell? ⟨q, 0, none⟩ = some y0 ∧ W.cell? ⟨q, 1, none⟩ = some y1 ∧ W.cell? ⟨q, 2, none⟩ = some y2 ∧ W.cell? ⟨q, 3, none⟩ = some y3 := by
  obtain ⟨a0, a1, a2, a3⟩ := cells4 h.fst
  obtain ⟨b0, b1, b2, b3⟩ := cells4 h.snd
  exact ⟨a0, a1, a2, a3, b0, b1, b2, b3⟩
end
theorem VlAt.mk {W : World} {c : Vl} {la pa : Option Addr} {lc pc : Nat} (R1 : StrsAt W (.slice la c.l.length lc) c.l) (R2 : PairsAt W (.slice pa c.p.length pc) c.p) : VlAt W (.agg #[.int .i64 c.kind, .string ⟨c.s.toArray⟩, .slice la c.l.length lc, .slice pa c.p.length pc]) c := ⟨_, _, rfl, R1, R2⟩
end Go.Proofs.Ytpfcfadbilaleaa
