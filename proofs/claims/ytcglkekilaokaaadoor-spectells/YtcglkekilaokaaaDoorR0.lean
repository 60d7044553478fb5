/-
  THE TABLE OF TENS THAT strconv READS: what the walks ask of the world; and how a builder and Itoa answer.
-/
import Derived.Test.YtcglkekilaokaaaDoorShelf
import Derived.Test.YtcglkekilaokaaaDoorW3
import Derived.Lib.AppendIntMem
namespace Go.Proofs.YtcglkekilaokaaaDoor
open Go.RowKit

/-- the table of tens lies as the program's text lays it -/
structure Ran (w : World) : Prop where
  tab : Lib.TabIs Tryd.prog w "internal/strconv.uint64pow10" .u64 Lib.pow10Tab
theorem Ran.at {w W : World} (h : Ran w) (b : Below w.heap.size w W) : Ran W := ⟨Lib.tabBelow_of_tabIs h.tab W b⟩
theorem Ran.alloc {w : World} (h : Ran w) (o : Obj) : Ran (w.alloc o) := h.at ((Below.refl _ _).alloc (Nat.le_refl _) _)
theorem Ran.drew {w : World} (h : Ran w) : Ran w.drew := h.at ((Below.refl _ _).drew)

theorem dec_fig (n : Nat) : Lib.decDigits n = figL n := by
  induction n using Nat.strongRecOn with
  | _ n ih =>
    by_cases h : n < 10
    · rw [Lib.decDigits, dif_pos h, fig_one h]
    · rw [Lib.decDigits, dif_neg h, fig_more h, ih (n / 10) (by omega)]
theorem below_grow (w : World) (q : Nat) (os : Array Obj) : Below w.heap.size w (Go.Sort.grow (w.drewN q) os) :=
  ⟨rfl, rfl, rfl, by first | (simp [Go.Sort.grow]; done) | (simp [Go.Sort.grow]; omega), fun i hi => by
    show ((w.drewN q).heap ++ os)[i]? = _
    rw [Array.getElem?_append_left (by show i < w.heap.size; omega)]
    rfl⟩
theorem itoa_is (n : Int) (f : ByteArray) (w : World) (RN : Ran w) (h0 : 0 ≤ n) (h1 : n ≤ 9999) (h : f.data.toList = figL n.toNat) :
    Calls Tryd.prog 24 #[.int .i64 n] w fun e w' => e = .returned (.string f) ∧ Below w.heap.size w w' := by
  refine (strconv_Itoa n (by omega) (by omega) w RN.tab).mono ?_
  rintro e w' ⟨rfl, k, os, rfl⟩
  refine ⟨ret_str (arr_ext ?_), below_grow _ _ _⟩
  show Lib.itoa n = _
  unfold Lib.itoa
  rw [if_neg (by omega), dec_fig, h]

/-- a builder that holds these bytes -/
def Bd (B b : Nat) (l : List UInt8) (W : World) : Prop := Lib.IsBuilderF 46 5 B b (Lib.byteCells l) W
/-- what a call on the builder leaves -/
structure Aft (B b : Nat) (l : List UInt8) (W W' : World) : Prop where
  bd : Bd B b l W'
  bel : Below B W W'
  kept : Lib.OthersKept 5 (some b) W W'
theorem kept_of_below {b : Option Nat} {W W' : World} (h : Below W.heap.size W W') : Lib.OthersKept 5 b W W' := by
  intro k o hk _ _
  exact (h.block k (lt_of_block hk)).trans hk
theorem builder_moves {B b : Nat} {p : Value} {bs : List Value} {W W' : World} (h : Lib.BuilderAtF 46 5 B b p bs W) (hb : W'.heap[b]? = W.heap[b]?) (hr : ∀ (g : Nat) c fz, W.heap[g]? = some (Obj.cells c 5 fz) → W'.heap[g]? = W.heap[g]?) : Lib.BuilderAtF 46 5 B b p bs W' := by
  obtain ⟨hB, v, h1, hown, hne⟩ := h
  refine ⟨hB, v, hb.trans h1, ⟨hown.1, ?_⟩, hne⟩
  rcases hown.2 with hn | ⟨g, cap, cur, fz, hv, hbg, hg, rest⟩
  · exact .inl hn
  · exact .inr ⟨g, cap, cur, fz, hv, hbg, (hr g _ _ hg).trans hg, rest⟩
theorem Bd.lt {B b : Nat} {l : List UInt8} {W : World} (h : Bd B b l W) : b < W.heap.size := by
  rcases h with ⟨_, v, h1, _⟩ | ⟨_, v, h1, _⟩ <;> exact lt_of_block h1
theorem Bd.moves {B b : Nat} {l : List UInt8} {W W' : World} (h : Bd B b l W) (hb : W'.heap[b]? = W.heap[b]?) (hr : ∀ (g : Nat) c fz, W.heap[g]? = some (Obj.cells c 5 fz) → W'.heap[g]? = W.heap[g]?) : Bd B b l W' :=
  h.elim (fun x => .inl (builder_moves x hb hr)) (fun x => .inr (builder_moves x hb hr))
theorem Bd.later {B b : Nat} {l : List UInt8} {W W' : World} (h : Bd B b l W) (bb : Below W.heap.size W W') : Bd B b l W' :=
  h.moves (bb.block b h.lt) (fun g _ _ hg => bb.block g (lt_of_block hg))
theorem Bd.made (w : World) : Bd w.heap.size w.heap.size [] (w.alloc (.cells #[.pointer none, .slice none 0 0] 46)) := Lib.IsBuilderF.of (Lib.fresh_isBuilder 46 5 w)
/-- the builder's block is not a block of another kind -/
theorem Bd.ne {B b k : Nat} {l : List UInt8} {W : World} {cs : Array Value} {t : TypeId} {fz : Nat × Nat} (h : Bd B b l W) (hk : W.heap[k]? = some (.cells cs t fz)) (ht : t ≠ 46) : k ≠ b := by
  intro e
  rw [e] at hk
  rcases h with ⟨_, v, h1, _⟩ | ⟨_, v, h1, _⟩ <;> (rw [h1] at hk; injection hk with h1; injection h1 with _ h2 _; exact ht h2.symm)
theorem Aft.block {B b k : Nat} {l : List UInt8} {W V : World} {cs : Array Value} {t : TypeId} {fz : Nat × Nat} (h : Aft B b l W V) (hk : W.heap[k]? = some (.cells cs t fz)) (hkb : k ≠ b) (ht : t ≠ 5) : V.heap[k]? = some (.cells cs t fz) :=
  h.kept k _ hk (fun e => hkb (Option.some.inj e)) (fun c f e => by injection e with _ h2 _; exact ht h2)
/-- a byte written -/
theorem wbyte (B b : Nat) (l : List UInt8) (n : Nat) (c : Int) (W : World) (h : Bd B b l W) (hc : c = (n : Int)) (hn : n < 256) (hl : l.length ≤ 3000000) (hBw : B ≤ W.heap.size) :
    Calls Tryd.prog 23 #[.pointer (some ⟨b, 0, none⟩), .int .u8 c] W fun e w' => e = .returned .nilIface ∧ Aft B b (l ++ [n.toUInt8]) W w' := by
  subst hc
  refine (builder_WriteByte B b _ _ W h (by rw [Lib.byteCells_length]; omega) hBw).mono ?_
  rintro e w' ⟨rfl, h1, h2, h3⟩
  refine ⟨rfl, ?_, h2, h3⟩
  unfold Bd
  rw [Lib.byteCells_append]
  have e1 : Lib.byteCells [n.toUInt8] = [.int .u8 (n : Int)] := by
    unfold Lib.byteCells
    rw [List.map_singleton, u8_of n hn]
  rw [e1]
  exact .inr h1
/-- a text written -/
theorem wtext (B b : Nat) (l m : List UInt8) (s : ByteArray) (W : World) (h : Bd B b l W) (hs : s.data.toList = m) (hm : m.length ≤ 3000000) (hl : l.length ≤ 3000000) (hBw : B ≤ W.heap.size) :
    Calls Tryd.prog 22 #[.pointer (some ⟨b, 0, none⟩), .string s] W fun e w' => e = .returned (.tuple #[.int .i64 s.size, .nilIface]) ∧ Aft B b (l ++ m) W w' := by
  have e1 : s.size = m.length := by rw [← hs]; simp
  refine (builder_WriteString B b _ _ W h (by rw [Lib.byteCells_length]; omega) hBw).mono ?_
  rintro e w' ⟨rfl, h1, h2, h3⟩
  refine ⟨rfl, ?_, h2, h3⟩
  unfold Bd
  rw [Lib.byteCells_append, ← hs]
  exact .inr h1
/-- the text told -/
theorem wdone (B b : Nat) (l : List UInt8) (p : ByteArray) (W : World) (h : Bd B b l W) (hp : p.data.toList = l) (hBw : B ≤ W.heap.size) :
    Calls Tryd.prog 25 #[.pointer (some ⟨b, 0, none⟩)] W fun e w' => e = .returned (.string p) ∧ Aft B b l W w' := by
  refine (builder_String B b l W h hBw).mono ?_
  rintro e w' ⟨rfl, h1, h2, h3⟩
  exact ⟨ret_str (arr_ext hp.symm), h1, h2, h3⟩
end Go.Proofs.YtcglkekilaokaaaDoor
