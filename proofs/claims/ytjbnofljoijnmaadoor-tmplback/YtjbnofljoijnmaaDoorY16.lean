/-
  Joined by program out of the texts A10.
-/
import Derived.Test.YtjbnofljoijnmaaDoorY15
import Derived.Test.YtjbnofljoijnmaaDoorW5
/-
  Rows of structs; WALKS: the reference's inside.
-/
namespace Go.Proofs.YtjbnofljoijnmaaDoor
open Go.RowKit Go.Lib

theorem three_at {α : Type} (f : α → List Value) (hf : ∀ a, (f a).length = 3) : ∀ (xs : List α) (k j : Nat) (h : k < xs.length), j < 3 → (xs.flatMap f)[k * 3 + j]? = (f xs[k])[j]? := by
  intro xs
  induction xs with
  | nil => intro k j h; simp at h
  | cons x xs ih =>
    intro k j h hj
    rw [List.flatMap_cons]
    cases k with
    | zero =>
      rw [Nat.zero_mul, Nat.zero_add, List.getElem?_append_left (by rw [hf]; exact hj)]; rfl
    | succ k =>
      rw [List.getElem?_append_right (by rw [hf]; omega), hf, show (k + 1) * 3 + j - 3 = k * 3 + j by omega]
      exact ih k j (by simpa using h) hj
def spV (y : Sp) : List Value := [.string ⟨y.name.toArray⟩, .int .i64 y.max, .bool y.star]
def specsV (xs : List Sp) : List Value := xs.flatMap spV
theorem specsV_len (xs : List Sp) : (specsV xs).length = xs.length * 3 := by
  induction xs with
  | nil => rfl
  | cons x xs ih =>
    show (spV x ++ specsV xs).length = _
    rw [List.length_append, ih, List.length_cons]
    show 3 + xs.length * 3 = _
    omega
theorem specsV_snoc (xs : List Sp) (y : Sp) : specsV (xs ++ [y]) = specsV xs ++ spV y := by simp [specsV]
theorem SpecsAt.of_owns {w : World} {base : Nat} {v : Value} {xs : List Sp} (h : w.ownsRow base 39 3 v xs.length (specsV xs)) : SpecsAt w v xs := by
  have h' := h
  rcases h.2 with ⟨rfl, h0⟩ | ⟨g, cap, cur, rfl, _, hg, hn, hm, hs, ht⟩
  · exact .inl ⟨List.eq_nil_of_length_eq_zero h0, _, _, rfl⟩
  · by_cases hp : 0 < xs.length
    · refine .inr ⟨hp, g, 0, cap, rfl, fun k hk => ?_⟩
      rw [Nat.zero_add]
      have e0 := h'.cellAt (k * 3 + 0) (by omega)
      have e1 := h'.cellAt (k * 3 + 1) (by omega)
      have e2 := h'.cellAt (k * 3 + 2) (by omega)
      unfold specsV at e0 e1 e2
      rw [three_at spV (fun _ => rfl) xs k _ hk (by omega)] at e0 e1 e2
      exact ⟨e0, e1, e2⟩
    · have : xs = [] := List.eq_nil_of_length_eq_zero (by omega)
      subst this
      exact .inl ⟨rfl, _, _, rfl⟩
theorem info47 : (Tryd.prog.info? 39).map (fun i => (i.zero, i.size, i.bytes)) = some (some (.agg #[.string ⟨#[]⟩, .int .i64 0, .bool false]), 3, 32) := by kernel_rfl
theorem head_some {s : ByteArray} (h : 0 < s.size) : headOp s.data.toList = if opB s[0] then (s[0], s.data.toList.drop 1) else (0, s.data.toList) := by
  conv => lhs; rw [list_one s h]
  rw [headOp_cons, ← list_one s h]
/-- the block in which variables lie is of their type -/
def TySp (w : World) (v : Value) : Prop := ∀ a n c, v = .slice (some a) n c → ∃ cur fr, w.heap[a.block]? = some (.cells cur 39 fr)
theorem TySp.later {w w' : World} {v : Value} (h : TySp w v) (hb : Below w.heap.size w w') : TySp w' v := by
  intro a n c e
  obtain ⟨cur, fr, hc⟩ := h a n c e
  exact ⟨cur, fr, (hb.block _ (lt_of_block hc)).trans hc⟩
theorem TySp.none (w : World) : TySp w (.slice none 0 0) := by intro a n c e; cases e
theorem TySp.of_owns {w : World} {base z : Nat} {v : Value} {n : Nat} {xs : List Value} (h : w.ownsRow base 39 z v n xs) : TySp w v := by
  intro a m c e
  rcases h.2 with ⟨rfl, _⟩ | ⟨g, cap, cur, rfl, _, hg, _⟩
  · cases e
  · cases e; exact ⟨cur, (0, 0), hg⟩
/-- inside's answer -/
def InsPost (w : World) (o : Option Pt) (e : Ending) (w' : World) : Prop :=
  Below w.heap.size w w' ∧ match o with
  | some x => ∃ sv, e = .returned (.tuple #[.agg #[.string ⟨x.lit.toArray⟩, .int .u8 x.op.toNat, sv], .bool true]) ∧ SpecsAt w' sv x.specs ∧ TySp w' sv
  | none => e = .returned (.tuple #[.agg #[.string ⟨#[]⟩, .int .u8 0, .slice none 0 0], .bool false])
theorem own_put {W : World} {base : Nat} {v : Value} {n : Nat} {xs : List Value} {t : TypeId} {z b j : Nat} {u : Value} (h : W.ownsRow base t z v n xs) (hb : b < base) : (W.setCell ⟨b, j, none⟩ u).ownsRow base t z v n xs := by
  refine ⟨h.1, ?_⟩
  rcases h.2 with ⟨rfl, h0⟩ | ⟨g, cap, cur, rfl, h1, hg, hn, hm, hs, ht⟩
  · exact .inl ⟨rfl, h0⟩
  · have hne : g ≠ b := by omega
    exact .inr ⟨g, cap, cur, rfl, h1, by rw [heap_setCell_other _ _ _ _ hne]; exact hg, hn, hm, hs, ht⟩
theorem goC_at {R : ByteArray} {rl : List UInt8} (h : R.data.toList = rl) (k : Nat) (hk : k < R.size) (one : List UInt8) : goC one (rl.drop k) = if R[k] = 44 then one :: goC [] (rl.drop (k + 1)) else goC (one ++ [R[k]]) (rl.drop (k + 1)) := by
  have hl : k < rl.length := by rw [← h, ← size_list]; exact hk
  have e : rl[k] = R[k] := by subst h; rfl
  rw [List.drop_eq_getElem_cons hl, goC_cons, e]
theorem goC_end {R : ByteArray} {rl : List UInt8} (h : R.data.toList = rl) (one : List UInt8) : goC one (rl.drop R.size) = [one] := by
  rw [List.drop_eq_nil_of_le (by rw [← h, ← size_list]; exact Nat.le_refl _)]; rfl
theorem len_goC (one l : List UInt8) : (goC one l).length ≤ l.length + 1 := by
  induction l generalizing one with
  | nil => simp [goC]
  | cons a t ih =>
    rw [goC_cons]
    split
    · have := ih []; simp; omega
    · have := ih (one ++ [a]); simp; omega
end Go.Proofs.YtjbnofljoijnmaaDoor
