/-
  WALKS: the closures of pct.Decode, Norm and Encode.
-/
import Derived.Test.YtmpengiohfjofaaW13
import Derived.Test.YtmpengiohfjofaaShelf
namespace Go.Proofs.Ytmpengiohfjofaa
open Go.RowKit

/-- a builder that holds these bytes -/
def Bd (B b : Nat) (l : List UInt8) (W : World) : Prop := Lib.IsBuilderF 39 5 B b (Lib.byteCells l) W
/-- what a call on the builder leaves -/
structure Aft (B b : Nat) (l : List UInt8) (W W' : World) : Prop where
  bd : Bd B b l W'
  bel : Below B W W'
  kept : Lib.OthersKept 5 (some b) W W'

theorem kept_of_below {b : Option Nat} {W W' : World} (h : Below W.heap.size W W') : Lib.OthersKept 5 b W W' := by
  intro k o hk _ _
  exact (h.block k (lt_of_block hk)).trans hk
theorem builder_moves {B b : Nat} {p : Value} {bs : List Value} {W W' : World} (h : Lib.BuilderAtF 39 5 B b p bs W) (hb : W'.heap[b]? = W.heap[b]?) (hr : ∀ (g : Nat) c fz, W.heap[g]? = some (Obj.cells c 5 fz) → W'.heap[g]? = W.heap[g]?) : Lib.BuilderAtF 39 5 B b p bs W' := by
  obtain ⟨hB, v, h1, hown, hne⟩ := h
  refine ⟨hB, v, hb.trans h1, ⟨hown.1, ?_⟩, hne⟩
  rcases hown.2 with hn | ⟨g, cap, cur, fz, hv, hbg, hg, rest⟩
  · exact .inl hn
  · exact .inr ⟨g, cap, cur, fz, hv, hbg, (hr g _ _ hg).trans hg, rest⟩
theorem Bd.lt {B b : Nat} {l : List UInt8} {W : World} (h : Bd B b l W) : b < W.heap.size := by
  rcases h with ⟨_, v, h1, _⟩ | ⟨_, v, h1, _⟩ <;> exact lt_of_block h1
theorem Bd.moves {B b : Nat} {l : List UInt8} {W W' : World} (h : Bd B b l W) (hb : W'.heap[b]? = W.heap[b]?) (hr : ∀ (g : Nat) c fz, W.heap[g]? = some (Obj.cells c 5 fz) → W'.heap[g]? = W.heap[g]?) : Bd B b l W' :=
  h.elim (fun x => .inl (builder_moves x hb hr)) (fun x => .inr (builder_moves x hb hr))
theorem Bd.later {B b : Nat} {l : List UInt8} {W W' : World} (h : Bd B b l W) (bb : Below W.heap.size W W') : Bd B b l W' :=
  h.moves (bb.block b h.lt) (fun g _ _ hg => bb.block g (lt_of_block hg))
theorem Bd.drew {B b : Nat} {l : List UInt8} {W : World} (h : Bd B b l W) : Bd B b l W.drew := h.later ((Below.refl _ _).drew)
theorem Bd.made (w : World) : Bd w.heap.size w.heap.size [] (w.alloc (.cells #[.pointer none, .slice none 0 0] 39)) := Lib.IsBuilderF.of (Lib.fresh_isBuilder 39 5 w)
theorem Bd.alloc {B b : Nat} {l : List UInt8} {W : World} (h : Bd B b l W) (o : Obj) : Bd B b l (W.alloc o) := h.later (below_new W o)
theorem Bd.setOther {B b k i : Nat} {l : List UInt8} {W : World} {cs : Array Value} {t : TypeId} {fz : Nat × Nat} (h : Bd B b l W) (hk : W.heap[k]? = some (.cells cs t fz)) (hkb : k ≠ b) (ht : t ≠ 5) (v : Value) : Bd B b l (W.setCell ⟨k, i, none⟩ v) := by
  refine h.moves (Below.heap_setCell _ _ _ _ (Ne.symm hkb)) ?_
  intro g c f hg
  apply Below.heap_setCell
  intro e
  simp only at e
  rw [e, hk] at hg
  injection hg with h1
  injection h1 with _ h2 _
  exact ht h2
/-- the builder's block is not a block of another kind -/
theorem Bd.ne {B b k : Nat} {l : List UInt8} {W : World} {cs : Array Value} {t : TypeId} {fz : Nat × Nat} (h : Bd B b l W) (hk : W.heap[k]? = some (.cells cs t fz)) (ht : t ≠ 39) : k ≠ b := by
  intro e
  rw [e] at hk
  rcases h with ⟨_, v, h1, _⟩ | ⟨_, v, h1, _⟩ <;> (rw [h1] at hk; injection hk with h1; injection h1 with _ h2 _; exact ht h2.symm)

theorem Aft.start {B b : Nat} {l : List UInt8} {W : World} (h : Bd B b l W) : Aft B b l W W := ⟨h, Below.refl _ _, Lib.OthersKept.refl _ _ _⟩
theorem Aft.trans {B b : Nat} {l m : List UInt8} {W V X : World} (h : Aft B b l W V) (k : Aft B b m V X) : Aft B b m W X := ⟨k.bd, h.bel.trans k.bel, h.kept.trans k.kept⟩
theorem Aft.later {B b : Nat} {l : List UInt8} {W V X : World} (h : Aft B b l W V) (hB : B ≤ W.heap.size) (k : Below V.heap.size V X) : Aft B b l W X := ⟨h.bd.later k, h.bel.trans (k.mono (Nat.le_trans hB h.bel.size)), h.kept.trans (kept_of_below k)⟩
theorem Aft.block {B b k : Nat} {l : List UInt8} {W V : World} {cs : Array Value} {t : TypeId} {fz : Nat × Nat} (h : Aft B b l W V) (hk : W.heap[k]? = some (.cells cs t fz)) (hkb : k ≠ b) (ht : t ≠ 5) : V.heap[k]? = some (.cells cs t fz) :=
  h.kept k _ hk (fun e => hkb (Option.some.inj e)) (fun c f e => by injection e with _ h2 _; exact ht h2)

/-- a byte written -/
theorem wbyte (B b : Nat) (l : List UInt8) (n : Nat) (c : Int) (W : World) (h : Bd B b l W) (hc : c = (n : Int)) (hn : n < 256) (hl : l.length ≤ 1000000) (hBw : B ≤ W.heap.size) :
    Calls Try.prog 28 #[.pointer (some ⟨b, 0, none⟩), .int .u8 c] W fun e w' => e = .returned .nilIface ∧ Aft B b (l ++ [n.toUInt8]) W w' := by
  subst hc
  refine (builder_WriteByte B b _ _ W h (by rw [Lib.byteCells_length]; omega) hBw).mono ?_
  rintro e w' ⟨rfl, h1, h2, h3⟩
  refine ⟨rfl, ?_, h2, h3⟩
  unfold Bd
  rw [Lib.byteCells_append]
  have e1 : Lib.byteCells [n.toUInt8] = [.int .u8 (n : Int)] := by
    unfold Lib.byteCells
    rw [List.map_singleton, u8_of n hn]
  rw [e1]
  exact .inr h1
/-- a text written -/
theorem wtext (B b : Nat) (l m : List UInt8) (s : ByteArray) (W : World) (h : Bd B b l W) (hs : s.data.toList = m) (hm : m.length ≤ 1000000) (hl : l.length ≤ 1000000) (hBw : B ≤ W.heap.size) :
    Calls Try.prog 37 #[.pointer (some ⟨b, 0, none⟩), .string s] W fun e w' => e = .returned (.tuple #[.int .i64 s.size, .nilIface]) ∧ Aft B b (l ++ m) W w' := by
  have e1 : s.size = m.length := by rw [← hs]; simp
  refine (builder_WriteString B b _ _ W h (by rw [Lib.byteCells_length]; omega) hBw).mono ?_
  rintro e w' ⟨rfl, h1, h2, h3⟩
  refine ⟨rfl, ?_, h2, h3⟩
  unfold Bd
  rw [Lib.byteCells_append, ← hs]
  exact .inr h1

theorem pair_n (t : ByteArray) (x y : UInt8) (h3 : 3 ≤ t.size) (ht : t.data.toList = [37, x, y]) : 16 * digN t[1].toNat + digN t[2].toNat = (pairV x y).toNat := by
  have h := list_three t h3
  rw [ht] at h
  injection h with _ h
  injection h with h1 h
  injection h with h2 _
  have d1 := dig_le x.toNat
  have d2 := dig_le y.toNat
  rw [← h1, ← h2]
  unfold pairV digV
  rw [u8_of _ (by omega)]
theorem size_three {t : ByteArray} {x y : UInt8} (ht : t.data.toList = [37, x, y]) : t.size = 3 := by
  have : t.data.toList.length = t.size := by simp
  rw [ht] at this
  exact this.symm
theorem byteOf_is (t : ByteArray) (x y : UInt8) (n : Int) (w : World) (ht : t.data.toList = [37, x, y]) (hn : ((pairV x y).toNat : Int) = n) :
    Calls Try.prog 29 #[.string t] w fun e w' => e = .returned (.int .u8 n) ∧ w' = w := by
  have h3 : 3 ≤ t.size := by rw [size_three ht]; omega
  have := byteOf_any t w h3
  rw [pair_n t x y h3 ht] at this
  subst hn
  exact this
theorem one3_is (c : Int) (m : ByteArray) (w : World) (h0 : 0 ≤ c) (h1 : c ≤ 255) (hm : m = ⟨(oneN c.toNat).toArray⟩) :
    Calls Try.prog 12 #[.int .u8 c] w fun e w' => e = .returned (.string m) ∧ Below w.heap.size w w' := by
  subst hm; exact one3_any c w h0 h1

set_option maxHeartbeats 1000000 in
theorem dec1_any (B b : Nat) (l : List UInt8) (t : ByteArray) (x y : UInt8) (W : World) (h : Bd B b l W) (hBw : B ≤ W.heap.size) (hl : l.length ≤ 1000000) (ht : t.data.toList = [37, x, y]) :
    Calls Try.prog 27 #[.string t, .pointer (some ⟨b, 0, none⟩)] W fun e w' => e = .returned (.tuple #[]) ∧ Aft B b (l ++ [pairV x y]) W w' := by
  have hu := UInt8.toNat_lt (pairV x y)
  have H := hide h
  have Ht := hide ht
  clear h ht
  obtain ⟨n, hn⟩ : ∃ n, (pairV x y).toNat = n := ⟨_, rfl⟩
  have Hn := hide hn
  rw [hn] at hu
  clear hn
  have he : n.toUInt8 = pairV x y := by rw [← Hn.out]; simp
  have He := hide he
  clear he
  go_enter Try.func27, Try.ntmps27
  go_wp2_with (first | (go_at_call 29; refine (byteOf_is _ x y (n : Int) _ Ht.out (congrArg Nat.cast Hn.out)).mono ?_; rintro e w' ⟨rfl, hw⟩; rw [hw]) | (go_at_call 28; refine (wbyte B b l n _ _ H.out rfl hu hl hBw).mono ?_; rintro e w1 ⟨rfl, A⟩))
  refine bodyPost_end (v := .tuple #[]) (results_none Try.results27 _ _ _) rfl ⟨rfl, ?_⟩
  rw [← He.out]; exact A

set_option maxHeartbeats 1000000 in
theorem norm1_any (B b : Nat) (l : List UInt8) (t : ByteArray) (x y : UInt8) (W : World) (h : Bd B b l W) (hBw : B ≤ W.heap.size) (hl : l.length ≤ 1000000) (ht : t.data.toList = [37, x, y]) :
    Calls Try.prog 40 #[.string t, .pointer (some ⟨b, 0, none⟩)] W fun e w' => e = .returned (.tuple #[]) ∧ Aft B b (l ++ oneL (pairV x y)) W w' := by
  have hu := UInt8.toNat_lt (pairV x y)
  have H := hide h
  have Ht := hide ht
  clear h ht
  obtain ⟨n, hn⟩ : ∃ n, (pairV x y).toNat = n := ⟨_, rfl⟩
  have Hn := hide hn
  rw [hn] at hu
  clear hn
  have hi0 : (0 : Int) ≤ n := by omega
  have hi1 : (n : Int) ≤ 255 := by omega
  obtain ⟨m, hm⟩ : ∃ m : ByteArray, m = ⟨(oneN (n : Int).toNat).toArray⟩ := ⟨_, rfl⟩
  have he : m.data.toList = oneL (pairV x y) := by rw [hm, one_N, Hn.out]; rfl
  have Hm := hide hm
  have He := hide he
  clear he hm
  go_enter Try.func40, Try.ntmps40
  go_wp2_with (first | (go_at_call 29; refine (byteOf_is _ x y (n : Int) _ Ht.out (congrArg Nat.cast Hn.out)).mono ?_; rintro e w' ⟨rfl, hw⟩; rw [hw]) | (go_at_call 12; refine (one3_is _ m _ hi0 hi1 Hm.out).mono ?_; rintro e w1 ⟨rfl, bb⟩) | (go_at_call 37; refine (wtext B b l _ _ _ (H.out.later bb) He.out (by simp [oneL]) hl (Nat.le_trans hBw bb.size)).mono ?_; rintro e w2 ⟨rfl, A⟩))
  refine bodyPost_end (v := .tuple #[]) (results_none Try.results40 _ _ _) rfl ⟨rfl, ?_⟩
  exact ((Aft.start H.out).later hBw bb).trans A

set_option maxHeartbeats 1000000 in
theorem norm2_any (B b : Nat) (l : List UInt8) (a : UInt8) (W : World) (h : Bd B b l W) (hBw : B ≤ W.heap.size) (hl : l.length ≤ 1000000) :
    Calls Try.prog 41 #[.int .u8 (a.toNat : Int), .pointer (some ⟨b, 0, none⟩)] W fun e w' => e = .returned (.tuple #[]) ∧ Aft B b (l ++ [a]) W w' := by
  have hu := UInt8.toNat_lt a
  have H := hide h
  clear h
  have he : a.toNat.toUInt8 = a := by simp
  have He := hide he
  clear he
  go_enter Try.func41, Try.ntmps41
  go_wp2_with (first | (go_at_call 28; refine (wbyte B b l a.toNat _ _ H.out rfl hu hl hBw).mono ?_; rintro e w1 ⟨rfl, A⟩))
  refine bodyPost_end (v := .tuple #[]) (results_none Try.results41 _ _ _) rfl ⟨rfl, ?_⟩
  rw [He.out] at A; exact A

set_option maxHeartbeats 1000000 in
theorem enc2_any (B b : Nat) (l : List UInt8) (t : ByteArray) (m : List UInt8) (W : World) (h : Bd B b l W) (hBw : B ≤ W.heap.size) (hl : l.length ≤ 1000000) (ht : t.data.toList = m) (hm : m.length ≤ 1000000) :
    Calls Try.prog 38 #[.string t, .pointer (some ⟨b, 0, none⟩)] W fun e w' => e = .returned (.tuple #[]) ∧ Aft B b (l ++ m) W w' := by
  have H := hide h
  have Ht := hide ht
  clear h ht
  go_enter Try.func38, Try.ntmps38
  go_wp2_with (first | (go_at_call 37; refine (wtext B b l m _ _ H.out Ht.out hm hl hBw).mono ?_; rintro e w1 ⟨rfl, A⟩))
  exact bodyPost_end (v := .tuple #[]) (results_none Try.results38 _ _ _) rfl ⟨rfl, A⟩
end Go.Proofs.Ytmpengiohfjofaa
