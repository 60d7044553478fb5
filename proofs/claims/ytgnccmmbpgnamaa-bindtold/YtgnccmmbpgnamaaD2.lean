/-
  VARIABLES IN MEMORY (layer 9): five cells each, with slices in cells of their own.
-/
import Derived.Test.YtgnccmmbpgnamaaD1
import Derived.Test.YtgnccmmbpgnamaaV11
import Derived.Laws.OwnMore
namespace Go.Proofs.Ytgnccmmbpgnamaa
open Go.RowKit

theorem info41 : (Try.prog.info? 41).map (fun i => (i.zero, i.size, i.bytes)) = some (some (.agg #[.string ⟨#[]⟩, .int .i64 0, .string ⟨#[]⟩, .slice none 0 0, .slice none 0 0]), 5, 88) := by kernel_rfl
/-- a variable, and where its value's slices lie -/
structure Ev where
  b : Bd
  l : Value
  p : Value
def cellsE (e : Ev) : List Value := [.string ⟨e.b.1.toArray⟩, .int .i64 e.b.2.kind, .string ⟨e.b.2.s.toArray⟩, e.l, e.p]
def rowE (es : List Ev) : List Value := es.flatMap cellsE
theorem rowE_snoc (es : List Ev) (e : Ev) : rowE (es ++ [e]) = rowE es ++ cellsE e := by simp [rowE]
theorem rowE_append (es fs : List Ev) : rowE (es ++ fs) = rowE es ++ rowE fs := by simp [rowE]
theorem rowE_len (es : List Ev) : (rowE es).length = es.length * 5 := by
  induction es with
  | nil => rfl
  | cons e r ih =>
    show (cellsE e ++ rowE r).length = _
    rw [List.length_append, ih]
    show 5 + r.length * 5 = (r.length + 1) * 5
    omega
theorem rowE_at : ∀ (es : List Ev) (k j : Nat) (h : k < es.length), j < 5 → (rowE es)[k * 5 + j]? = (cellsE es[k])[j]? := by
  intro es
  induction es with
  | nil => intro k j h; simp at h
  | cons x xs ih =>
    intro k j h hj
    show (cellsE x ++ rowE xs)[k * 5 + j]? = _
    have hx : (cellsE x).length = 5 := rfl
    cases k with
    | zero => rw [Nat.zero_mul, Nat.zero_add, List.getElem?_append_left (by rw [hx]; exact hj)]; rfl
    | succ k =>
      rw [List.getElem?_append_right (by rw [hx]; omega), hx, show (k + 1) * 5 + j - 5 = k * 5 + j by omega]
      exact ih k j (by simpa using h) hj
/-- a variable's value in memory -/
def EAt (w : World) (e : Ev) : Prop := StrsAt w e.l e.b.2.l ∧ PairsAt w e.p e.b.2.p
theorem EAt.later {w w' : World} {e : Ev} (h : EAt w e) (hb : Below w.heap.size w w') : EAt w' e := ⟨h.1.later hb, h.2.later hb⟩
theorem EAt.val {w : World} {e : Ev} (h : EAt w e) : VlAt w (.agg #[.int .i64 e.b.2.kind, .string ⟨e.b.2.s.toArray⟩, e.l, e.p]) e.b.2 := ⟨_, _, rfl, h.1, h.2⟩
/-- variables' cells -/
def EsAt (w : World) (v : Value) (es : List Ev) : Prop :=
  (es = [] ∧ ∃ ao cap, v = .slice ao 0 cap) ∨ (0 < es.length ∧ ∃ b off cap, v = .slice (some ⟨b, off, none⟩) es.length cap ∧ ∀ k (_ : k < es.length) j u, (cellsE es[k])[j]? = some u → w.cell? ⟨b, off + k * 5 + j, none⟩ = some u)
theorem EsAt.form {w : World} {v : Value} {es : List Ev} (h : EsAt w v es) : ∃ a cap, v = .slice a es.length cap := by
  rcases h with ⟨rfl, ao, cap, rfl⟩ | ⟨_, b, off, cap, rfl, _⟩
  · exact ⟨_, _, rfl⟩
  · exact ⟨_, _, rfl⟩
theorem EsAt.at {w : World} {v : Value} {es : List Ev} (h : EsAt w v es) (k : Nat) (hk : k < es.length) : ∃ b off cap, v = .slice (some ⟨b, off, none⟩) es.length cap ∧ b < w.heap.size ∧
    w.cell? ⟨b, off + k * 5, none⟩ = some (.string ⟨es[k].b.1.toArray⟩) ∧ w.cell? ⟨b, off + k * 5 + 1, none⟩ = some (.int .i64 es[k].b.2.kind) ∧ w.cell? ⟨b, off + k * 5 + 2, none⟩ = some (.string ⟨es[k].b.2.s.toArray⟩) ∧ w.cell? ⟨b, off + k * 5 + 3, none⟩ = some es[k].l ∧ w.cell? ⟨b, off + k * 5 + 4, none⟩ = some es[k].p := by
  rcases h with ⟨rfl, _⟩ | ⟨_, b, off, cap, rfl, hc⟩
  · simp at hk
  · have h0 := hc k hk 0 _ rfl
    exact ⟨b, off, cap, rfl, lt_of_cell h0, h0, hc k hk 1 _ rfl, hc k hk 2 _ rfl, hc k hk 3 _ rfl, hc k hk 4 _ rfl⟩
theorem EsAt.later {w w' : World} {v : Value} {es : List Ev} (h : EsAt w v es) (hb : Below w.heap.size w w') : EsAt w' v es := by
  rcases h with h | ⟨hp, b, off, cap, rfl, hc⟩
  · exact .inl h
  · have hl : b < w.heap.size := lt_of_cell (hc 0 hp 0 _ rfl)
    exact .inr ⟨hp, b, off, cap, rfl, fun k hk j u hj => (hb.cell (p := ⟨b, _, none⟩) hl).trans (hc k hk j u hj)⟩
theorem EsAt.of_owns {w : World} {base : Nat} {v : Value} {es : List Ev} (h : w.ownsRow base 41 5 v es.length (rowE es)) : EsAt w v es := by
  have h' := h
  rcases h.2 with ⟨rfl, h0⟩ | ⟨g, cap, cur, rfl, _, hg, hn, hm, hs, ht⟩
  · exact .inl ⟨List.eq_nil_of_length_eq_zero h0, _, _, rfl⟩
  · by_cases hp : 0 < es.length
    · refine .inr ⟨hp, g, 0, cap, rfl, fun k hk j u hj => ?_⟩
      have hj5 : j < 5 := by
        apply Classical.byContradiction
        intro hge
        rw [List.getElem?_eq_none (by show 5 ≤ j; omega)] at hj
        cases hj
      rw [Nat.zero_add]
      have e0 := h'.cellAt (k * 5 + j) (by omega)
      rw [rowE_at es k _ hk hj5, hj] at e0
      exact e0
    · have : es = [] := List.eq_nil_of_length_eq_zero (by omega)
      subst this
      exact .inl ⟨rfl, _, _, rfl⟩
/-- variables as an argument, or a result -/
def BindsE (w : World) (v : Value) (es : List Ev) : Prop := EsAt w v es ∧ ∀ e ∈ es, EAt w e
theorem BindsE.later {w w' : World} {v : Value} {es : List Ev} (h : BindsE w v es) (hb : Below w.heap.size w w') : BindsE w' v es := ⟨h.1.later hb, fun e he => (h.2 e he).later hb⟩
def plainE (es : List Ev) : List Bd := es.map (·.b)
def BindsAt (w : World) (v : Value) (bs : List Bd) : Prop := ∃ es, plainE es = bs ∧ BindsE w v es
theorem BindsAt.later {w w' : World} {v : Value} {bs : List Bd} (h : BindsAt w v bs) (hb : Below w.heap.size w w') : BindsAt w' v bs := by
  obtain ⟨es, h1, h2⟩ := h
  exact ⟨es, h1, h2.later hb⟩
theorem BindsAt.form {w : World} {v : Value} {bs : List Bd} (h : BindsAt w v bs) : ∃ a cap, v = .slice a bs.length cap := by
  obtain ⟨es, rfl, h2⟩ := h
  obtain ⟨a, cap, rfl⟩ := h2.1.form
  exact ⟨a, cap, by simp [plainE]⟩
theorem BindsAt.nil (w : World) (a : Option Addr) (c : Nat) : BindsAt w (.slice a 0 c) [] := ⟨[], rfl, .inl ⟨rfl, a, c, rfl⟩, fun _ h => by cases h⟩
/-- one of them -/
theorem BindsAt.at {w : World} {v : Value} {bs : List Bd} (h : BindsAt w v bs) (k : Nat) (hk : k < bs.length) : ∃ b off cap sl sp, v = .slice (some ⟨b, off, none⟩) bs.length cap ∧ b < w.heap.size ∧
    w.cell? ⟨b, off + k * 5, none⟩ = some (.string ⟨bs[k].1.toArray⟩) ∧ w.cell? ⟨b, off + k * 5 + 1, none⟩ = some (.int .i64 bs[k].2.kind) ∧ w.cell? ⟨b, off + k * 5 + 2, none⟩ = some (.string ⟨bs[k].2.s.toArray⟩) ∧ w.cell? ⟨b, off + k * 5 + 3, none⟩ = some sl ∧ w.cell? ⟨b, off + k * 5 + 4, none⟩ = some sp ∧
    StrsAt w sl bs[k].2.l ∧ PairsAt w sp bs[k].2.p := by
  obtain ⟨es, rfl, h1, h2⟩ := h
  have hk' : k < es.length := by simpa [plainE] using hk
  obtain ⟨b, off, cap, rfl, hb, c0, c1, c2, c3, c4⟩ := h1.at k hk'
  obtain ⟨g1, g2⟩ := h2 _ (List.getElem_mem hk')
  have e : (plainE es)[k] = es[k].b := by simp [plainE]
  rw [e]
  exact ⟨b, off, cap, es[k].l, es[k].p, by simp [plainE], hb, c0, c1, c2, c3, c4, g1, g2⟩
/-- the slice, if it has anything, lies in another block -/
def Off (b : Nat) (v : Value) : Prop := ∀ g off n c, v = .slice (some ⟨g, off, none⟩) n c → 0 < n → g ≠ b
theorem Off.newly {n b : Nat} {v : Value} (h : Newly n v) (hb : b < n) : Off b v := fun g off k c e _ => by have := h g off k c e; omega
theorem Off.strs {W : World} {v : Value} {ps : List (List UInt8)} {b : Nat} (h : StrsAt W v ps) (hb : W.heap.size ≤ b) : Off b v := by
  intro g off n c e hn
  rcases h with ⟨rfl, ao, cap, rfl⟩ | ⟨hp, g', off', cap, rfl, hc⟩
  · cases e; omega
  · cases e
    have : g < W.heap.size := lt_of_cell (hc 0 hp)
    omega
theorem Off.pairs {W : World} {v : Value} {ps : List (List UInt8 × List UInt8)} {b : Nat} (h : PairsAt W v ps) (hb : W.heap.size ≤ b) : Off b v := by
  intro g off n c e hn
  rcases h with ⟨rfl, ao, cap, rfl⟩ | ⟨hp, g', off', cap, rfl, hc⟩
  · cases e; omega
  · cases e
    have : g < W.heap.size := lt_of_cell (hc 0 hp).1
    omega
theorem StrsAt.away {W W' : World} {v : Value} {ps : List (List UInt8)} {row : Option Nat} (h : StrsAt W v ps) (hg : W.grownBy W' row) (ho : ∀ b, row = some b → Off b v) : StrsAt W' v ps := by
  rcases h with h | ⟨hp, g, off, cap, rfl, hc⟩
  · exact .inl h
  · have hl : g < W.heap.size := lt_of_cell (hc 0 hp)
    exact .inr ⟨hp, g, off, cap, rfl, fun k hk => (hg.cell_far ⟨g, _, none⟩ hl (fun e => ho g e.symm g off _ cap rfl hp rfl)).trans (hc k hk)⟩
theorem PairsAt.away {W W' : World} {v : Value} {ps : List (List UInt8 × List UInt8)} {row : Option Nat} (h : PairsAt W v ps) (hg : W.grownBy W' row) (ho : ∀ b, row = some b → Off b v) : PairsAt W' v ps := by
  rcases h with h | ⟨hp, g, off, cap, rfl, hc⟩
  · exact .inl h
  · have hl : g < W.heap.size := lt_of_cell (hc 0 hp).1
    have hn : some g ≠ row := fun e => ho g e.symm g off _ cap rfl hp rfl
    exact .inr ⟨hp, g, off, cap, rfl, fun k hk => ⟨(hg.cell_far ⟨g, _, none⟩ hl hn).trans (hc k hk).1, (hg.cell_far ⟨g, _, none⟩ hl hn).trans (hc k hk).2⟩⟩
/-- variables whose slices lie in other blocks than the row -/
def OffE (b : Nat) (e : Ev) : Prop := Off b e.l ∧ Off b e.p
theorem OffE.old {W : World} {e : Ev} {b : Nat} (h : EAt W e) (hb : W.heap.size ≤ b) : OffE b e := ⟨Off.strs h.1 hb, Off.pairs h.2 hb⟩
theorem EAt.far {W W' : World} {e : Ev} {row : Option Nat} (h : EAt W e) (hg : W.grownBy W' row) (ho : ∀ b, row = some b → OffE b e) : EAt W' e :=
  ⟨h.1.away hg (fun b hb => (ho b hb).1), h.2.away hg (fun b hb => (ho b hb).2)⟩
/-- a row of variables that grows -/
structure Rw (base : Nat) (W : World) (v : Value) (es : List Ev) : Prop where
  row : W.ownsRow base 41 5 v es.length (rowE es)
  val : ∀ e ∈ es, EAt W e
  off : ∀ b, v.ownBlock = some b → ∀ e ∈ es, OffE b e
theorem Rw.nil (base : Nat) (W : World) : Rw base W (.slice none 0 0) [] := ⟨World.ownsRow_nil _ _ _ _, fun _ h => (by cases h), fun _ _ _ h => (by cases h)⟩
theorem Rw.next {base : Nat} {W W' : World} {v : Value} {es : List Ev} (h : Rw base W v es) (bb : Below W.heap.size W W') : Rw base W' v es := ⟨own_later h.row bb, fun e he => (h.val e he).later bb, h.off⟩
theorem Rw.alloc {base : Nat} {W : World} {v : Value} {es : List Ev} (h : Rw base W v es) (o : Obj) : Rw base (W.alloc o) v es := h.next (b_alloc W o)
theorem Rw.drew {base : Nat} {W : World} {v : Value} {es : List Ev} (h : Rw base W v es) : Rw base W.drew v es := h.next (b_drew W)
theorem Rw.grown {base : Nat} {W W' : World} {v : Value} {es fs : List Ev} {g n cap : Nat} (h : Rw base W v es) (hf : ∀ f ∈ fs, EAt W f) (hof : ∀ b, v.ownBlock = some b → ∀ f ∈ fs, OffE b f)
    (hg : W.grownBy W' v.ownBlock) (ho : W'.ownsRow base 41 5 (.slice (some ⟨g, 0, none⟩) n cap) n (rowE es ++ rowE fs)) (hat : v.ownBlock = some g ∨ g = W.heap.size) (hn : es.length + fs.length = n) : Rw base W' (.slice (some ⟨g, 0, none⟩) n cap) (es ++ fs) := by
  have ha : ∀ e ∈ es ++ fs, EAt W e ∧ ∀ b, v.ownBlock = some b → OffE b e := fun e he => by
    rcases List.mem_append.1 he with he | he
    · exact ⟨h.val e he, fun b hb => h.off b hb e he⟩
    · exact ⟨hf e he, fun b hb => hof b hb e he⟩
  refine ⟨by rw [List.length_append, hn, rowE_append]; exact ho, fun e he => (ha e he).1.far hg (ha e he).2, fun b hb e he => ?_⟩
  simp [Value.ownBlock] at hb
  subst hb
  rcases hat with hat | hat
  · exact (ha e he).2 _ hat
  · exact OffE.old (ha e he).1 (by omega)
theorem Rw.binds {base : Nat} {W : World} {v : Value} {es : List Ev} (h : Rw base W v es) : BindsAt W v (plainE es) := ⟨es, rfl, EsAt.of_owns h.row, h.val⟩
end Go.Proofs.Ytgnccmmbpgnamaa
