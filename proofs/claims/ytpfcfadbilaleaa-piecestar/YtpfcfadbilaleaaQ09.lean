/-
  TEXTS JOINED: K14, K15.
-/
import Derived.Test.YtpfcfadbilaleaaQ07
import Derived.Test.YtpfcfadbilaleaaQ08
/-
  WALKS: the closures of pct.Decode, Norm and Encode.
-/
namespace Go.Proofs.Ytpfcfadbilaleaa
open Go.RowKit

/-- a builder that holds these bytes -/
def Bd (B b : Nat) (l : List UInt8) (W : World) : Prop := Lib.IsBuilderF 64 5 B b (Lib.byteCells l) W
/-- what a call on the builder leaves -/
structure Aft (B b : Nat) (l : List UInt8) (W W' : World) : Prop where
  bd : Bd B b l W'
  bel : Below B W W'
  kept : Lib.OthersKept 5 (some b) W W'

theorem kept_of_below {b : Option Nat} {W W' : World} (h : Below W.heap.size W W') : Lib.OthersKept 5 b W W' := by
  intro k o hk _ _
  exact (h.block k (lt_of_block hk)).trans hk
theorem builder_moves {B b : Nat} {p : Value} {bs : List Value} {W W' : World} (h : Lib.BuilderAtF 64 5 B b p bs W) (hb : W'.heap[b]? = W.heap[b]?) (hr : ∀ (g : Nat) c fz, W.heap[g]? = some (Obj.cells c 5 fz) → W'.heap[g]? = W.heap[g]?) : Lib.BuilderAtF 64 5 B b p bs W' := by
  obtain ⟨hB, v, h1, hown, hne⟩ := h
  refine ⟨hB, v, hb.trans h1, ⟨hown.1, ?_⟩, hne⟩
  rcases hown.2 with hn | ⟨g, cap, cur, fz, hv, hbg, hg, rest⟩
  · exact .inl hn
  · exact .inr ⟨g, cap, cur, fz, hv, hbg, (hr g _ _ hg).trans hg, rest⟩
theorem Bd.lt {B b : Nat} {l : List UInt8} {W : World} (h : Bd B b l W) : b < W.heap.size := by
  rcases h with ⟨_, v, h1, _⟩ | ⟨_, v, h1, _⟩ <;> exact lt_of_block h1
theorem Bd.moves {B b : Nat} {l : List UInt8} {W W' : World} (h : Bd B b l W) (hb : W'.heap[b]? = W.heap[b]?) (hr : ∀ (g : Nat) c fz, W.heap[g]? = some (Obj.cells c 5 fz) → W'.heap[g]? = W.heap[g]?) : Bd B b l W' :=
  h.elim (fun x => .inl (builder_moves x hb hr)) (fun x => .inr (builder_moves x hb hr))
theorem Bd.later {B b : Nat} {l : List UInt8} {W W' : World} (h : Bd B b l W) (bb : Below W.heap.size W W') : Bd B b l W' :=
  h.moves (bb.block b h.lt) (fun g _ _ hg => bb.block g (lt_of_block hg))
theorem Bd.drew {B b : Nat} {l : List UInt8} {W : World} (h : Bd B b l W) : Bd B b l W.drew := h.later ((Below.refl _ _).drew)
theorem Bd.made (w : World) : Bd w.heap.size w.heap.size [] (w.alloc (.cells #[.pointer none, .slice none 0 0] 64)) := Lib.IsBuilderF.of (Lib.fresh_isBuilder 64 5 w)
theorem Bd.alloc {B b : Nat} {l : List UInt8} {W : World} (h : Bd B b l W) (o : Obj) : Bd B b l (W.alloc o) := h.later (below_new W o)
theorem Bd.setOther {B b k i : Nat} {l : List UInt8} {W : World} {cs : Array Value} {t : TypeId} {fz : Nat × Nat} (h : Bd B b l W) (hk : W.heap[k]? = some (.cells cs t fz)) (hkb : k ≠ b) (ht : t ≠ 5) (v : Value) : Bd B b l (W.setCell ⟨k, i, none⟩ v) := by
  refine h.moves (Below.heap_setCell _ _ _ _ (Ne.symm hkb)) ?_
  intro g c f hg
  apply Below.heap_setCell
  intro e
  simp only at e
  rw [e, hk] at hg
  injection hg with h1
  injection h1 with _ h2 _
  exact ht h2
/-- the builder's block is not a block of another kind -/
theorem Bd.ne {B b k : Nat} {l : List UInt8} {W : World} {cs : Array Value} {t : TypeId} {fz : Nat × Nat} (h : Bd B b l W) (hk : W.heap[k]? = some (.cells cs t fz)) (ht : t ≠ 64) : k ≠ b := by
  intro e
  rw [e] at hk
  rcases h with ⟨_, v, h1, _⟩ | ⟨_, v, h1, _⟩ <;> (rw [h1] at hk; injection hk with h1; injection h1 with _ h2 _; exact ht h2.symm)

theorem Aft.start {B b : Nat} {l : List UInt8} {W : World} (h : Bd B b l W) : Aft B b l W W := ⟨h, Below.refl _ _, Lib.OthersKept.refl _ _ _⟩
theorem Aft.trans {B b : Nat} {l m : List UInt8} {W V X : World} (h : Aft B b l W V) (k : Aft B b m V X) : Aft B b m W X := ⟨k.bd, h.bel.trans k.bel, h.kept.trans k.kept⟩
theorem Aft.later {B b : Nat} {l : List UInt8} {W V X : World} (h : Aft B b l W V) (hB : B ≤ W.heap.size) (k : Below V.heap.size V X) : Aft B b l W X := ⟨h.bd.later k, h.bel.trans (k.mono (Nat.le_trans hB h.bel.size)), h.kept.trans (kept_of_below k)⟩
theorem Aft.block {B b k : Nat} {l : List UInt8} {W V : World} {cs : Array Value} {t : TypeId} {fz : Nat × Nat} (h : Aft B b l W V) (hk : W.heap[k]? = some (.cells cs t fz)) (hkb : k ≠ b) (ht : t ≠ 5) : V.heap[k]? = some (.cells cs t fz) :=
  h.kept k _ hk (fun e => hkb (Option.some.inj e)) (fun c f e => by injection e with _ h2 _; exact ht h2)

/-- a byte written -/
theorem wbyte (B b : Nat) (l : List UInt8) (n : Nat) (c : Int) (W : World) (h : Bd B b l W) (hc : c = (n : Int)) (hn : n < 256) (hl : l.length ≤ 1000000) (hBw : B ≤ W.heap.size) :
    Calls Try.prog 37 #[.pointer (some ⟨b, 0, none⟩), .int .u8 c] W fun e w' => e = .returned .nilIface ∧ Aft B b (l ++ [n.toUInt8]) W w' := by
  subst hc
  refine (builder_WriteByte B b _ _ W h (by rw [Lib.byteCells_length]; omega) hBw).mono ?_
  rintro e w' ⟨rfl, h1, h2, h3⟩
  refine ⟨rfl, ?_, h2, h3⟩
  unfold Bd
  rw [Lib.byteCells_append]
  have e1 : Lib.byteCells [n.toUInt8] = [.int .u8 (n : Int)] := by
    unfold Lib.byteCells
    rw [List.map_singleton, u8_of n hn]
  rw [e1]
  exact .inr h1
/-- a text written -/
theorem wtext (B b : Nat) (l m : List UInt8) (s : ByteArray) (W : World) (h : Bd B b l W) (hs : s.data.toList = m) (hm : m.length ≤ 1000000) (hl : l.length ≤ 1000000) (hBw : B ≤ W.heap.size) :
    Calls Try.prog 66 #[.pointer (some ⟨b, 0, none⟩), .string s] W fun e w' => e = .returned (.tuple #[.int .i64 s.size, .nilIface]) ∧ Aft B b (l ++ m) W w' := by
  have e1 : s.size = m.length := by rw [← hs]; simp
  refine (builder_WriteString B b _ _ W h (by rw [Lib.byteCells_length]; omega) hBw).mono ?_
  rintro e w' ⟨rfl, h1, h2, h3⟩
  refine ⟨rfl, ?_, h2, h3⟩
  unfold Bd
  rw [Lib.byteCells_append, ← hs]
  exact .inr h1

theorem pair_n (t : ByteArray) (x y : UInt8) (h3 : 3 ≤ t.size) (ht : t.data.toList = [37, x, y]) : 16 * digN t[1].toNat + digN t[2].toNat = (pairV x y).toNat := by
  have h := list_three t h3
  rw [ht] at h
  injection h with _ h
  injection h with h1 h
  injection h with h2 _
  have d1 := dig_le x.toNat
  have d2 := dig_le y.toNat
  rw [← h1, ← h2]
  unfold pairV digV
  rw [u8_of _ (by omega)]
theorem size_three {t : ByteArray} {x y : UInt8} (ht : t.data.toList = [37, x, y]) : t.size = 3 := by
  have : t.data.toList.length = t.size := by simp
  rw [ht] at this
  exact this.symm
theorem byteOf_is (t : ByteArray) (x y : UInt8) (n : Int) (w : World) (ht : t.data.toList = [37, x, y]) (hn : ((pairV x y).toNat : Int) = n) :
    Calls Try.prog 38 #[.string t] w fun e w' => e = .returned (.int .u8 n) ∧ w' = w := by
  have h3 : 3 ≤ t.size := by rw [size_three ht]; omega
  have := byteOf_any t w h3
  rw [pair_n t x y h3 ht] at this
  subst hn
  exact this
theorem one3_is (c : Int) (m : ByteArray) (w : World) (h0 : 0 ≤ c) (h1 : c ≤ 255) (hm : m = ⟨(oneN c.toNat).toArray⟩) :
    Calls Try.prog 67 #[.int .u8 c] w fun e w' => e = .returned (.string m) ∧ Below w.heap.size w w' := by
  subst hm; exact one3_any c w h0 h1

set_option maxHeartbeats 1000000 in
theorem dec1_any (B b : Nat) (l : List UInt8) (t : ByteArray) (x y : UInt8) (W : World) (h : Bd B b l W) (hBw : B ≤ W.heap.size) (hl : l.length ≤ 1000000) (ht : t.data.toList = [37, x, y]) :
    Calls Try.prog 36 #[.string t, .pointer (some ⟨b, 0, none⟩)] W fun e w' => e = .returned (.tuple #[]) ∧ Aft B b (l ++ [pairV x y]) W w' := by
  have hu := UInt8.toNat_lt (pairV x y)
  have H := hide h
  have Ht := hide ht
  clear h ht
  obtain ⟨n, hn⟩ : ∃ n, (pairV x y).toNat = n := ⟨_, rfl⟩
  have Hn := hide hn
  rw [hn] at hu
  clear hn
  have he : n.toUInt8 = pairV x y := by rw [← Hn.out]; simp
  have He := hide he
  clear he
  go_enter Try.func36, Try.ntmps36
  go_wp2_with (first | (go_at_call 38; refine (byteOf_is _ x y (n : Int) _ Ht.out (congrArg Nat.cast Hn.out)).mono ?_; rintro e w' ⟨rfl, hw⟩; rw [hw]) | (go_at_call 37; refine (wbyte B b l n _ _ H.out rfl hu hl hBw).mono ?_; rintro e w1 ⟨rfl, A⟩))
  refine bodyPost_end (v := .tuple #[]) (results_none Try.results36 _ _ _) rfl ⟨rfl, ?_⟩
  rw [← He.out]; exact A

set_option maxHeartbeats 1000000 in
theorem enc2_any (B b : Nat) (l : List UInt8) (t : ByteArray) (m : List UInt8) (W : World) (h : Bd B b l W) (hBw : B ≤ W.heap.size) (hl : l.length ≤ 1000000) (ht : t.data.toList = m) (hm : m.length ≤ 1000000) :
    Calls Try.prog 68 #[.string t, .pointer (some ⟨b, 0, none⟩)] W fun e w' => e = .returned (.tuple #[]) ∧ Aft B b (l ++ m) W w' := by
  have H := hide h
  have Ht := hide ht
  clear h ht
  go_enter Try.func68, Try.ntmps68
  go_wp2_with (first | (go_at_call 66; refine (wtext B b l m _ _ H.out Ht.out hm hl hBw).mono ?_; rintro e w1 ⟨rfl, A⟩))
  exact bodyPost_end (v := .tuple #[]) (results_none Try.results68 _ _ _) rfl ⟨rfl, A⟩
end Go.Proofs.Ytpfcfadbilaleaa
/-
  WALKS: the other closures of pct.Decode and Encode; Decode, Norm.
-/
namespace Go.Proofs.Ytpfcfadbilaleaa
open Go.RowKit

/-- a bool in a block of its own -/
def Flag (W : World) (k : Nat) (o : Bool) : Prop := W.heap[k]? = some (Obj.cells #[.bool o] 4 (0, 0))
theorem Flag.cell {W : World} {k : Nat} {o : Bool} (h : Flag W k o) : W.cell? ⟨k, 0, none⟩ = some (.bool o) := by unfold Flag at h; simp [World.cell?, h]
theorem Flag.free {W : World} {k : Nat} {o : Bool} (h : Flag W k o) : W.frozen? ⟨k, 0, none⟩ = false := by unfold Flag at h; simp [World.frozen?, h]
theorem Flag.store {W : World} {k : Nat} {o : Bool} (h : Flag W k o) (x : Bool) : Flag (W.setCell ⟨k, 0, none⟩ (.bool x)) k x := heap_setCell_same W k 0 _ _ (.bool x) h
theorem Flag.aft {B b k : Nat} {l : List UInt8} {o : Bool} {W V : World} (h : Flag W k o) (A : Aft B b l W V) (hk : k ≠ b) : Flag V k o := A.block h hk (by decide)
theorem Bd.flag {B b k : Nat} {l : List UInt8} {o : Bool} {W : World} (h : Bd B b l W) (f : Flag W k o) (x : Bool) : Bd B b l (W.setCell ⟨k, 0, none⟩ (.bool x)) := h.setOther f (h.ne f (by decide)) (by decide) _

set_option maxHeartbeats 1000000 in
theorem dec2_any (B b k : Nat) (l : List UInt8) (a : UInt8) (o : Bool) (W : World) (h : Bd B b l W) (f : Flag W k o) (hBk : B ≤ k) (hBw : B ≤ W.heap.size) (hl : l.length ≤ 1000000) :
    Calls Try.prog 39 #[.int .u8 (a.toNat : Int), .pointer (some ⟨k, 0, none⟩), .pointer (some ⟨b, 0, none⟩)] W fun e w' => e = .returned (.tuple #[]) ∧ Bd B b (l ++ [a]) w' ∧ Below B W w' ∧ Flag w' k (o && a != 37) := by
  have hu := UInt8.toNat_lt a
  have hne := h.ne f (by decide)
  have he : a.toNat.toUInt8 = a := by simp
  have He := hide he
  clear he
  by_cases ha : a = 37
  · have hc : ((a.toNat : Int) == 37) = true := by simp [ha]
    have hf := f.cell
    have hfr := f.free
    have H := hide (h.flag f false)
    have F := hide (f.store false)
    have hsz : B ≤ (W.setCell ⟨k, 0, none⟩ (.bool false)).heap.size := by have := ((Below.refl 0 W).setCell (p := ⟨k, 0, none⟩) (Nat.zero_le _) (.bool false)).size; omega
    have Ha := hide ha
    clear ha h f
    go_enter Try.func39, Try.ntmps39
    go_wp2_with (first | (go_at_call 37; refine (wbyte B b l a.toNat _ _ H.out rfl hu hl hsz).mono ?_; rintro e w1 ⟨rfl, A⟩))
    refine bodyPost_end (v := .tuple #[]) (results_none Try.results39 _ _ _) rfl ⟨rfl, ?_⟩
    rw [He.out] at A
    refine ⟨A.bd, ((Below.refl _ _).setCell hBk _).trans A.bel, ?_⟩
    have e1 : (o && a != 37) = false := by simp [Ha.out]
    rw [e1]
    exact F.out.aft A hne
  · have hc : ((a.toNat : Int) == 37) = false := by
      have : a.toNat ≠ 37 := fun e => ha (UInt8.toNat_inj.1 e)
      simp; omega
    have H := hide h
    have F := hide f
    have Ha := hide ha
    clear ha h f
    go_enter Try.func39, Try.ntmps39
    go_wp2_with (first | (go_at_call 37; refine (wbyte B b l a.toNat _ _ H.out rfl hu hl hBw).mono ?_; rintro e w1 ⟨rfl, A⟩))
    refine bodyPost_end (v := .tuple #[]) (results_none Try.results39 _ _ _) rfl ⟨rfl, ?_⟩
    rw [He.out] at A
    refine ⟨A.bd, A.bel, ?_⟩
    have e1 : (o && a != 37) = o := by simp [Ha.out]
    rw [e1]
    exact F.out.aft A hne

/-- what Decode answers -/
def decR : Option (List UInt8) → Value
  | some x => .tuple #[.string ⟨x.toArray⟩, .bool true]
  | none => .tuple #[.string ⟨#[]⟩, .bool false]

/-- what the builder and the flag are, where r is left of l -/
def DecInv (l : List UInt8) (w : World) (r : List UInt8) (W : World) : Prop :=
  ∃ acc o, Bd w.heap.size w.heap.size acc W ∧ Flag W (w.heap.size + 1) o ∧ Below w.heap.size w W ∧ w.heap.size ≤ W.heap.size ∧ acc.length + r.length ≤ l.length ∧ (o = true → decL l = (decL r).map (acc ++ ·)) ∧ (o = false → decL l = none)

theorem DecInv.trip {l : List UInt8} {w W : World} {b c : UInt8} {r : List UInt8} {t : ByteArray} (hl : l.length ≤ 1000000) (h : DecInv l w (37 :: b :: c :: r) W) (hb : hexB b = true) (hc : hexB c = true) (ht : t.data.toList = [37, b, c]) :
    Calls Try.prog 36 #[.string t, .pointer (some ⟨w.heap.size, 0, none⟩)] W fun e w' => e = .returned (.tuple #[]) ∧ DecInv l w r w' := by
  obtain ⟨acc, o, h1, h2, h3, h4, h5, h6, h7⟩ := h
  simp only [List.length_cons] at h5
  refine (dec1_any _ _ acc t b c W h1 h4 (by omega) ht).mono ?_
  rintro e w' ⟨rfl, A⟩
  refine ⟨rfl, _, o, A.bd, h2.aft A (by omega), h3.trans A.bel, Nat.le_trans h4 A.bel.size, by simp; omega, ?_, h7⟩
  intro ho
  rw [h6 ho, dec_trip hb hc]
  cases decL r <;> simp
theorem DecInv.byte {l : List UInt8} {w W : World} {a : UInt8} {r : List UInt8} (hl : l.length ≤ 1000000) (h : DecInv l w (a :: r) W) (hb : tripB (a :: r) = false) :
    Calls Try.prog 39 #[.int .u8 (a.toNat : Int), .pointer (some ⟨w.heap.size + 1, 0, none⟩), .pointer (some ⟨w.heap.size, 0, none⟩)] W fun e w' => e = .returned (.tuple #[]) ∧ DecInv l w r w' := by
  obtain ⟨acc, o, h1, h2, h3, h4, h5, h6, h7⟩ := h
  simp only [List.length_cons] at h5
  refine (dec2_any _ _ _ acc a o W h1 h2 (by omega) h4 (by omega)).mono ?_
  rintro e w' ⟨rfl, A, B', C⟩
  refine ⟨rfl, _, _, A, C, h3.trans B', Nat.le_trans h4 B'.size, by simp; omega, ?_, ?_⟩
  · intro ho
    simp at ho
    rw [h6 ho.1, dec_byte ho.2]
    cases decL r <;> simp
  · intro ho
    by_cases ha : a = 37
    · cases o with
      | false => exact h7 rfl
      | true =>
        subst ha
        rw [h6 rfl, dec_bad hb]
        rfl
    · simp [ha] at ho
      exact h7 ho

theorem dec_start (s : ByteArray) (w : World) : DecInv s.data.toList w s.data.toList ((w.alloc (.cells #[.pointer none, .slice none 0 0] 64)).alloc (.cells #[.bool true] 4)) := by
  refine ⟨[], true, (Bd.made w).alloc _, ?_, (below_new w _).alloc (by simp) _, by simp; omega, by simp, ?_, ?_⟩
  · have := heap_alloc_new (w.alloc (.cells #[.pointer none, .slice none 0 0] 64)) (.cells #[.bool true] 4)
    simpa [Flag] using this
  · intro _; cases decL s.data.toList <;> simp
  · intro h; cases h

set_option maxRecDepth 20000 in
set_option maxHeartbeats 1000000 in
theorem dec_any (s : ByteArray) (w : World) (hs : s.size ≤ 1000000) :
    Calls Try.prog 17 #[.string s] w fun e w' => e = .returned (decR (decL s.data.toList)) ∧ Below w.heap.size w w' := by
  have hl : s.data.toList.length ≤ 1000000 := by simpa using hs
  have eg1 : ∀ args w, (callFunc 36 args).run Try.prog w = .ok (.enter 36 args) w := by intros; kernel_rfl
  have eg2 : ∀ args w, (callFunc 39 args).run Try.prog w = .ok (.enter 39 args) w := by intros; kernel_rfl
  have h0 := dec_start s w
  have Hk := hide (walk_any 36 39 #[.pointer (some ⟨w.heap.size, 0, none⟩)] #[.pointer (some ⟨w.heap.size + 1, 0, none⟩), .pointer (some ⟨w.heap.size, 0, none⟩)] eg1 eg2 s _ (DecInv s.data.toList w) h0 (fun b c r W t h hb hc ht => DecInv.trip hl h hb hc ht) (fun a r W h hb => DecInv.byte hl h hb))
  clear eg1 eg2 h0
  go_enter Try.func17, Try.ntmps17
  go_wp2_with (first | (go_at_call 35; refine Hk.out.mono ?_; rintro e w1 ⟨rfl, acc, o, h1, h2, h3, h4, h5, h6, h7⟩; have hf := h2.cell) | (go_at_call 40; refine (builder_String w.heap.size w.heap.size acc _ h1 h4).mono ?_; rintro e w2 ⟨rfl, g1, b2, g2⟩))
  · rename_i ho
    go_ret2
    refine ⟨?_, h3⟩
    rw [h7 (by simpa using ho)]
    rfl
  · rename_i ho
    go_ret2
    refine ⟨?_, h3.trans b2⟩
    rw [h6 (by simpa using ho)]
    simp [dec_nil, decR]

end Go.Proofs.Ytpfcfadbilaleaa
