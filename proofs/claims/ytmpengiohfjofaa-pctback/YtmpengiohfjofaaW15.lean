/-
  WALKS: the other closures of pct.Decode and Encode; Decode, Norm.
-/
import Derived.Test.YtmpengiohfjofaaW14
namespace Go.Proofs.Ytmpengiohfjofaa
open Go.RowKit

/-- a bool in a block of its own -/
def Flag (W : World) (k : Nat) (o : Bool) : Prop := W.heap[k]? = some (Obj.cells #[.bool o] 4 (0, 0))
theorem Flag.cell {W : World} {k : Nat} {o : Bool} (h : Flag W k o) : W.cell? ⟨k, 0, none⟩ = some (.bool o) := by unfold Flag at h; simp [World.cell?, h]
theorem Flag.free {W : World} {k : Nat} {o : Bool} (h : Flag W k o) : W.frozen? ⟨k, 0, none⟩ = false := by unfold Flag at h; simp [World.frozen?, h]
theorem Flag.store {W : World} {k : Nat} {o : Bool} (h : Flag W k o) (x : Bool) : Flag (W.setCell ⟨k, 0, none⟩ (.bool x)) k x := heap_setCell_same W k 0 _ _ (.bool x) h
theorem Flag.aft {B b k : Nat} {l : List UInt8} {o : Bool} {W V : World} (h : Flag W k o) (A : Aft B b l W V) (hk : k ≠ b) : Flag V k o := A.block h hk (by decide)
theorem Bd.flag {B b k : Nat} {l : List UInt8} {o : Bool} {W : World} (h : Bd B b l W) (f : Flag W k o) (x : Bool) : Bd B b l (W.setCell ⟨k, 0, none⟩ (.bool x)) := h.setOther f (h.ne f (by decide)) (by decide) _

set_option maxHeartbeats 1000000 in
theorem dec2_any (B b k : Nat) (l : List UInt8) (a : UInt8) (o : Bool) (W : World) (h : Bd B b l W) (f : Flag W k o) (hBk : B ≤ k) (hBw : B ≤ W.heap.size) (hl : l.length ≤ 1000000) :
    Calls Try.prog 30 #[.int .u8 (a.toNat : Int), .pointer (some ⟨k, 0, none⟩), .pointer (some ⟨b, 0, none⟩)] W fun e w' => e = .returned (.tuple #[]) ∧ Bd B b (l ++ [a]) w' ∧ Below B W w' ∧ Flag w' k (o && a != 37) := by
  have hu := UInt8.toNat_lt a
  have hne := h.ne f (by decide)
  have he : a.toNat.toUInt8 = a := by simp
  have He := hide he
  clear he
  by_cases ha : a = 37
  · have hc : ((a.toNat : Int) == 37) = true := by simp [ha]
    have hf := f.cell
    have hfr := f.free
    have H := hide (h.flag f false)
    have F := hide (f.store false)
    have hsz : B ≤ (W.setCell ⟨k, 0, none⟩ (.bool false)).heap.size := by have := ((Below.refl 0 W).setCell (p := ⟨k, 0, none⟩) (Nat.zero_le _) (.bool false)).size; omega
    have Ha := hide ha
    clear ha h f
    go_enter Try.func30, Try.ntmps30
    go_wp2_with (first | (go_at_call 28; refine (wbyte B b l a.toNat _ _ H.out rfl hu hl hsz).mono ?_; rintro e w1 ⟨rfl, A⟩))
    refine bodyPost_end (v := .tuple #[]) (results_none Try.results30 _ _ _) rfl ⟨rfl, ?_⟩
    rw [He.out] at A
    refine ⟨A.bd, ((Below.refl _ _).setCell hBk _).trans A.bel, ?_⟩
    have e1 : (o && a != 37) = false := by simp [Ha.out]
    rw [e1]
    exact F.out.aft A hne
  · have hc : ((a.toNat : Int) == 37) = false := by
      have : a.toNat ≠ 37 := fun e => ha (UInt8.toNat_inj.1 e)
      simp; omega
    have H := hide h
    have F := hide f
    have Ha := hide ha
    clear ha h f
    go_enter Try.func30, Try.ntmps30
    go_wp2_with (first | (go_at_call 28; refine (wbyte B b l a.toNat _ _ H.out rfl hu hl hBw).mono ?_; rintro e w1 ⟨rfl, A⟩))
    refine bodyPost_end (v := .tuple #[]) (results_none Try.results30 _ _ _) rfl ⟨rfl, ?_⟩
    rw [He.out] at A
    refine ⟨A.bd, A.bel, ?_⟩
    have e1 : (o && a != 37) = o := by simp [Ha.out]
    rw [e1]
    exact F.out.aft A hne

/-- what Decode answers -/
def decR : Option (List UInt8) → Value
  | some x => .tuple #[.string ⟨x.toArray⟩, .bool true]
  | none => .tuple #[.string ⟨#[]⟩, .bool false]

/-- what the builder and the flag are, where r is left of l -/
def DecInv (l : List UInt8) (w : World) (r : List UInt8) (W : World) : Prop :=
  ∃ acc o, Bd w.heap.size w.heap.size acc W ∧ Flag W (w.heap.size + 1) o ∧ Below w.heap.size w W ∧ w.heap.size ≤ W.heap.size ∧ acc.length + r.length ≤ l.length ∧ (o = true → decL l = (decL r).map (acc ++ ·)) ∧ (o = false → decL l = none)

theorem DecInv.trip {l : List UInt8} {w W : World} {b c : UInt8} {r : List UInt8} {t : ByteArray} (hl : l.length ≤ 1000000) (h : DecInv l w (37 :: b :: c :: r) W) (hb : hexB b = true) (hc : hexB c = true) (ht : t.data.toList = [37, b, c]) :
    Calls Try.prog 27 #[.string t, .pointer (some ⟨w.heap.size, 0, none⟩)] W fun e w' => e = .returned (.tuple #[]) ∧ DecInv l w r w' := by
  obtain ⟨acc, o, h1, h2, h3, h4, h5, h6, h7⟩ := h
  simp only [List.length_cons] at h5
  refine (dec1_any _ _ acc t b c W h1 h4 (by omega) ht).mono ?_
  rintro e w' ⟨rfl, A⟩
  refine ⟨rfl, _, o, A.bd, h2.aft A (by omega), h3.trans A.bel, Nat.le_trans h4 A.bel.size, by simp; omega, ?_, h7⟩
  intro ho
  rw [h6 ho, dec_trip hb hc]
  cases decL r <;> simp
theorem DecInv.byte {l : List UInt8} {w W : World} {a : UInt8} {r : List UInt8} (hl : l.length ≤ 1000000) (h : DecInv l w (a :: r) W) (hb : tripB (a :: r) = false) :
    Calls Try.prog 30 #[.int .u8 (a.toNat : Int), .pointer (some ⟨w.heap.size + 1, 0, none⟩), .pointer (some ⟨w.heap.size, 0, none⟩)] W fun e w' => e = .returned (.tuple #[]) ∧ DecInv l w r w' := by
  obtain ⟨acc, o, h1, h2, h3, h4, h5, h6, h7⟩ := h
  simp only [List.length_cons] at h5
  refine (dec2_any _ _ _ acc a o W h1 h2 (by omega) h4 (by omega)).mono ?_
  rintro e w' ⟨rfl, A, B', C⟩
  refine ⟨rfl, _, _, A, C, h3.trans B', Nat.le_trans h4 B'.size, by simp; omega, ?_, ?_⟩
  · intro ho
    simp at ho
    rw [h6 ho.1, dec_byte ho.2]
    cases decL r <;> simp
  · intro ho
    by_cases ha : a = 37
    · cases o with
      | false => exact h7 rfl
      | true =>
        subst ha
        rw [h6 rfl, dec_bad hb]
        rfl
    · simp [ha] at ho
      exact h7 ho

theorem dec_start (s : ByteArray) (w : World) : DecInv s.data.toList w s.data.toList ((w.alloc (.cells #[.pointer none, .slice none 0 0] 39)).alloc (.cells #[.bool true] 4)) := by
  refine ⟨[], true, (Bd.made w).alloc _, ?_, (below_new w _).alloc (by simp) _, by simp; omega, by simp, ?_, ?_⟩
  · have := heap_alloc_new (w.alloc (.cells #[.pointer none, .slice none 0 0] 39)) (.cells #[.bool true] 4)
    simpa [Flag] using this
  · intro _; cases decL s.data.toList <;> simp
  · intro h; cases h

set_option maxRecDepth 20000 in
set_option maxHeartbeats 1000000 in
theorem dec_any (s : ByteArray) (w : World) (hs : s.size ≤ 1000000) :
    Calls Try.prog 16 #[.string s] w fun e w' => e = .returned (decR (decL s.data.toList)) ∧ Below w.heap.size w w' := by
  have hl : s.data.toList.length ≤ 1000000 := by simpa using hs
  have eg1 : ∀ args w, (callFunc 27 args).run Try.prog w = .ok (.enter 27 args) w := by intros; kernel_rfl
  have eg2 : ∀ args w, (callFunc 30 args).run Try.prog w = .ok (.enter 30 args) w := by intros; kernel_rfl
  have h0 := dec_start s w
  have Hk := hide (walk_any 27 30 #[.pointer (some ⟨w.heap.size, 0, none⟩)] #[.pointer (some ⟨w.heap.size + 1, 0, none⟩), .pointer (some ⟨w.heap.size, 0, none⟩)] eg1 eg2 s _ (DecInv s.data.toList w) h0 (fun b c r W t h hb hc ht => DecInv.trip hl h hb hc ht) (fun a r W h hb => DecInv.byte hl h hb))
  clear eg1 eg2 h0
  go_enter Try.func16, Try.ntmps16
  go_wp2_with (first | (go_at_call 26; refine Hk.out.mono ?_; rintro e w1 ⟨rfl, acc, o, h1, h2, h3, h4, h5, h6, h7⟩; have hf := h2.cell) | (go_at_call 31; refine (builder_String w.heap.size w.heap.size acc _ h1 h4).mono ?_; rintro e w2 ⟨rfl, g1, b2, g2⟩))
  · rename_i ho
    go_ret2
    refine ⟨?_, h3⟩
    rw [h7 (by simpa using ho)]
    rfl
  · rename_i ho
    go_ret2
    refine ⟨?_, h3.trans b2⟩
    rw [h6 (by simpa using ho)]
    simp [dec_nil, decR]

theorem up_fin : ∀ n : Fin 256, hexN n.val = true → upN (digN n.val) = bigN n.val := by decide +kernel
theorem one_pair {b c : UInt8} (hb : hexB b = true) (hc : hexB c = true) : oneL (pairV b c) = [37, bigB b, bigB c] := by
  have h1 := up_fin ⟨b.toNat, UInt8.toNat_lt b⟩ hb
  have h2 := up_fin ⟨c.toNat, UInt8.toNat_lt c⟩ hc
  simp only at h1 h2
  have d1 := dig_le b.toNat
  have d2 := dig_le c.toNat
  unfold oneL pairV digV
  rw [u8_of _ (by omega), show (16 * digN b.toNat + digN c.toNat) / 16 = digN b.toNat by omega, show (16 * digN b.toNat + digN c.toNat) % 16 = digN c.toNat by omega, h1, h2]
  rfl

def NormInv (l : List UInt8) (w : World) (r : List UInt8) (W : World) : Prop :=
  ∃ acc, Bd w.heap.size w.heap.size acc W ∧ Below w.heap.size w W ∧ w.heap.size ≤ W.heap.size ∧ acc.length + r.length ≤ l.length ∧ normL l = acc ++ normL r
theorem NormInv.trip {l : List UInt8} {w W : World} {b c : UInt8} {r : List UInt8} {t : ByteArray} (hl : l.length ≤ 1000000) (h : NormInv l w (37 :: b :: c :: r) W) (hb : hexB b = true) (hc : hexB c = true) (ht : t.data.toList = [37, b, c]) :
    Calls Try.prog 40 #[.string t, .pointer (some ⟨w.heap.size, 0, none⟩)] W fun e w' => e = .returned (.tuple #[]) ∧ NormInv l w r w' := by
  obtain ⟨acc, h1, h3, h4, h5, h6⟩ := h
  simp only [List.length_cons] at h5
  refine (norm1_any _ _ acc t b c W h1 h4 (by omega) ht).mono ?_
  rintro e w' ⟨rfl, A⟩
  refine ⟨rfl, _, A.bd, h3.trans A.bel, Nat.le_trans h4 A.bel.size, by simp [oneL]; omega, ?_⟩
  rw [h6, norm_trip hb hc, one_pair hb hc]
  simp
theorem NormInv.byte {l : List UInt8} {w W : World} {a : UInt8} {r : List UInt8} (hl : l.length ≤ 1000000) (h : NormInv l w (a :: r) W) (hb : tripB (a :: r) = false) :
    Calls Try.prog 41 #[.int .u8 (a.toNat : Int), .pointer (some ⟨w.heap.size, 0, none⟩)] W fun e w' => e = .returned (.tuple #[]) ∧ NormInv l w r w' := by
  obtain ⟨acc, h1, h3, h4, h5, h6⟩ := h
  simp only [List.length_cons] at h5
  refine (norm2_any _ _ acc a W h1 h4 (by omega)).mono ?_
  rintro e w' ⟨rfl, A⟩
  refine ⟨rfl, _, A.bd, h3.trans A.bel, Nat.le_trans h4 A.bel.size, by simp; omega, ?_⟩
  rw [h6, norm_byte hb]
  simp
theorem norm_start (s : ByteArray) (w : World) : NormInv s.data.toList w s.data.toList (w.alloc (.cells #[.pointer none, .slice none 0 0] 39)) :=
  ⟨[], Bd.made w, below_new w _, by simp, by simp, by simp⟩

set_option maxRecDepth 20000 in
set_option maxHeartbeats 1000000 in
theorem norm_any (s : ByteArray) (w : World) (hs : s.size ≤ 1000000) :
    Calls Try.prog 20 #[.string s] w fun e w' => e = .returned (.string ⟨(normL s.data.toList).toArray⟩) ∧ Below w.heap.size w w' := by
  have hl : s.data.toList.length ≤ 1000000 := by simpa using hs
  have eg1 : ∀ args w, (callFunc 40 args).run Try.prog w = .ok (.enter 40 args) w := by intros; kernel_rfl
  have eg2 : ∀ args w, (callFunc 41 args).run Try.prog w = .ok (.enter 41 args) w := by intros; kernel_rfl
  have h0 := norm_start s w
  have Hk := hide (walk_any 40 41 #[.pointer (some ⟨w.heap.size, 0, none⟩)] #[.pointer (some ⟨w.heap.size, 0, none⟩)] eg1 eg2 s _ (NormInv s.data.toList w) h0 (fun b c r W t h hb hc ht => NormInv.trip hl h hb hc ht) (fun a r W h hb => NormInv.byte hl h hb))
  clear eg1 eg2 h0
  go_enter Try.func20, Try.ntmps20
  go_wp2_with (first | (go_at_call 26; refine Hk.out.mono ?_; rintro e w1 ⟨rfl, acc, h1, h3, h4, h5, h6⟩) | (go_at_call 31; refine (builder_String w.heap.size w.heap.size acc _ h1 h4).mono ?_; rintro e w2 ⟨rfl, g1, b2, g2⟩))
  go_ret
  refine ⟨?_, h3.trans b2⟩
  rw [h6, norm_nil, List.append_nil]
  rfl
end Go.Proofs.Ytmpengiohfjofaa
