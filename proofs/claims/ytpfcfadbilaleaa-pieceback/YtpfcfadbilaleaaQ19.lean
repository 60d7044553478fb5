/-
  TEXTS JOINED: CK15, K16.
-/
import Derived.Test.YtpfcfadbilaleaaQ09
import Derived.Test.YtpfcfadbilaleaaQ18
/-
  A SET IN A BLOCK, beside a builder (layer 3).
-/
namespace Go.Proofs.YtpfcfadbilaleaaC
open Go.RowKit
open Go.Proofs.Ytpfcfadbilaleaa (Aft)
theorem Box.aft {B b k : Nat} {l : List UInt8} {q : Q} {W V : World} (h : Box W k q) (A : Aft B b l W V) (hk : k ≠ b) : Box V k q := A.block h hk (by decide)
end Go.Proofs.YtpfcfadbilaleaaC
/-
  WALKS: pct.Encode.
-/
namespace Go.Proofs.Ytpfcfadbilaleaa
open Go.RowKit
open Go.Proofs.YtpfcfadbilaleaaC (Q Box put4 qv unresQ resQ orQ unres_ok res_ok or_ok unres_any res_any union2_is below_put has_is un_fin stay_fin)
theorem hasB (q : Q) (c : Int) (b : Bool) (w : World) (hq : q.ok) (h0 : 0 ≤ c) (h1 : c ≤ 255) (h : q.has c.toNat = b) :
    Calls Try.prog 65 #[.agg #[.int .u64 q.a, .int .u64 q.b, .int .u64 q.c, .int .u64 q.d], .int .u8 c] w fun e w' => e = .returned (.bool b) ∧ Below w.heap.size w w' := has_is q c b w hq h0 h1 h
theorem Bd.box {B b k : Nat} {l : List UInt8} {q : Q} {W : World} (h : Bd B b l W) (f : Box W k q) : k ≠ b := h.ne f (by decide)

/-- what a byte becomes -/
theorem piece_three (keep : Bool) (a : UInt8) : (pieceK keep a).length ≤ 3 := (piece_len keep a).2

set_option maxHeartbeats 1000000 in
theorem enc1_any (B b k : Nat) (l : List UInt8) (a : UInt8) (q : Q) (keep : Bool) (W : World) (h : Bd B b l W) (f : Box W k q) (hq : q.ok) (hst : q.has a.toNat = stayB keep a) (hBw : B ≤ W.heap.size) (hl : l.length ≤ 1000000) :
    Calls Try.prog 64 #[.int .u8 (a.toNat : Int), .pointer (some ⟨k, 0, none⟩), .pointer (some ⟨b, 0, none⟩)] W fun e w' => e = .returned (.tuple #[]) ∧ Aft B b (l ++ pieceK keep a) W w' := by
  have hu := UInt8.toNat_lt a
  have hi0 : (0 : Int) ≤ a.toNat := by omega
  have hi1 : (a.toNat : Int) ≤ 255 := by omega
  obtain ⟨c0, c1, c2, c3⟩ := f.cells
  have H := hide h
  have F := hide f
  clear h f
  unfold pieceK
  cases hb : stayB keep a with
  | true =>
    rw [hb] at hst
    have he : a.toNat.toUInt8 = a := by simp
    have He := hide he
    have Hst : Hid (q.has (a.toNat : Int).toNat = true) := by rw [Int.toNat_natCast]; exact hst
    clear he hst hb
    rw [if_pos rfl]
    go_enter Try.func64, Try.ntmps64
    go_wp2_with (first | (go_at_call 65; refine (hasB q _ true _ hq hi0 hi1 Hst.out).mono ?_; rintro e w1 ⟨rfl, bb⟩) | (go_at_call 37; refine (wbyte B b l a.toNat _ _ (H.out.later bb) rfl hu hl (Nat.le_trans hBw bb.size)).mono ?_; rintro e w2 ⟨rfl, A⟩))
    refine bodyPost_end (v := .tuple #[]) (results_none Try.results64 _ _ _) rfl ⟨rfl, ?_⟩
    rw [He.out] at A
    exact ((Aft.start H.out).later hBw bb).trans A
  | false =>
    rw [hb] at hst
    obtain ⟨m, hm⟩ : ∃ m : ByteArray, m = ⟨(oneN (a.toNat : Int).toNat).toArray⟩ := ⟨_, rfl⟩
    have he : m.data.toList = oneL a := by rw [hm, one_N]; rfl
    have He := hide he
    have Hm := hide hm
    have Hst : Hid (q.has (a.toNat : Int).toNat = false) := by rw [Int.toNat_natCast]; exact hst
    clear he hst hb hm
    rw [if_neg (by simp)]
    go_enter Try.func64, Try.ntmps64
    go_wp2_with (first | (go_at_call 65; refine (hasB q _ false _ hq hi0 hi1 Hst.out).mono ?_; rintro e w1 ⟨rfl, bb⟩) | (go_at_call 67; refine (one3_is _ m _ hi0 hi1 Hm.out).mono ?_; rintro e w2 ⟨rfl, b2⟩) | (go_at_call 66; refine (wtext B b l _ _ _ ((H.out.later bb).later b2) He.out (by simp [oneL]) hl (Nat.le_trans hBw (Nat.le_trans bb.size b2.size))).mono ?_; rintro e w3 ⟨rfl, A⟩))
    refine bodyPost_end (v := .tuple #[]) (results_none Try.results64 _ _ _) rfl ⟨rfl, ?_⟩
    exact (((Aft.start H.out).later hBw bb).later hBw b2).trans A

/-- a function in a block of its own -/
def FnAt (W : World) (k : Nat) (v : Value) : Prop := W.heap[k]? = some (Obj.cells #[v] 71 (0, 0))
theorem FnAt.cell {W : World} {k : Nat} {v : Value} (h : FnAt W k v) : W.cell? ⟨k, 0, none⟩ = some v := by unfold FnAt at h; simp [World.cell?, h]
theorem FnAt.aft {B b k : Nat} {l : List UInt8} {v : Value} {W V : World} (h : FnAt W k v) (A : Aft B b l W V) (hk : k ≠ b) : FnAt V k v := A.block h hk (by decide)
theorem Bd.fn {B b k : Nat} {l : List UInt8} {v : Value} {W : World} (h : Bd B b l W) (f : FnAt W k v) : k ≠ b := h.ne f (by decide)

theorem enc_snoc (l : List UInt8) (c : UInt8) : encL false (l ++ [c]) = encL false l ++ pieceK false c := by
  rw [enc_joins, enc_false_byte, enc_nil, List.append_nil]; rfl

set_option maxRecDepth 20000 in
set_option maxHeartbeats 1000000 in
theorem enc3_any (B b k k2 : Nat) (l : List UInt8) (t : ByteArray) (q : Q) (W : World) (h : Bd B b l W) (f : Box W k q) (f2 : FnAt W k2 (.func (.func 64) #[] #[.pointer (some ⟨k, 0, none⟩), .pointer (some ⟨b, 0, none⟩)])) (hq : q.ok) (hst : ∀ a : UInt8, q.has a.toNat = stayB false a) (hBw : B ≤ W.heap.size) (hl : l.length ≤ 900000) (ht : t.size ≤ 1000) :
    Calls Try.prog 69 #[.string t, .pointer (some ⟨k2, 0, none⟩)] W fun e w' => e = .returned (.tuple #[]) ∧ Aft B b (l ++ encL false t.data.toList) W w' := by
  have hkb := h.box f
  have hkb2 := h.fn f2
  have H0 : Hid (Aft B b (l ++ encL false (t.data.toList.take 0)) W W) := by
    show Aft B b (l ++ encL false (t.data.toList.take 0)) W W
    rw [List.take_zero, enc_nil, List.append_nil]; exact Aft.start h
  have F := hide f
  have F2 := hide f2
  have Hst := hide hst
  clear h f f2 hst
  go_enter Try.func69, Try.ntmps69
  go_wp2
  go_loopw [6] (fun i wr => ∃ j : Nat, j ≤ t.size ∧ i = .int .i64 j ∧ Aft B b (l ++ encL false (t.data.toList.take j)) W wr) (fun i _ => t.size - (intOf i).toNat)
  case atStart => exact ⟨0, Nat.zero_le _, rfl, H0.out⟩
  case round =>
    obtain ⟨j, hj, rfl, A⟩ := hrel
    by_cases hlt : j < t.size
    · have hts := take_snoc t j hlt
      have hfc := (F2.out.aft A hkb2).cell
      have hlen := (enc_len false (t.data.toList.take j)).2
      have hlen2 : (t.data.toList.take j).length ≤ j := List.length_take_le _ _
      have hll : (l ++ encL false (t.data.toList.take j)).length ≤ 1000000 := by rw [List.length_append]; omega
      have Hd := hide (enc1_any B b k _ t[j] q false wr.drew A.bd.drew (F.out.aft A hkb).drew hq (Hst.out _) (Nat.le_trans hBw A.bel.size) hll)
      have Hts := hide hts
      have HA := hide A
      clear hts A hlen hlen2 hll
      go_wp2
      go_region_with (first | (go_at_call 64; refine Hd.out.mono ?_; rintro e w1 ⟨rfl, A1⟩))
      all_goals
        have A2 : Aft B b (l ++ encL false (t.data.toList.take (j + 1))) W w1 := by
          rw [Hts.out, enc_snoc, ← List.append_assoc]; exact (HA.out.later hBw ((Below.refl _ _).drew)).trans A1
        have HA2 := hide A2
        clear A2 A1
        go_wp2
        go_roundw
        case rel => exact ⟨j + 1, by omega, by go_num, HA2.out⟩
        case measure => simp [intOf]; omega
    · have he : t.data.toList.take j = t.data.toList := List.take_of_length_le (by simp; omega)
      rw [he] at A
      have HA := hide A
      clear he A
      go_wp2
      exact bodyPost_end (v := .tuple #[]) (results_none Try.results69 _ _ _) rfl ⟨rfl, HA.out⟩

/-- the closure that the cell holds -/
def otherV (w : World) (k : Nat) : Value := .func (.func 64) #[] #[.pointer (some ⟨k, 0, none⟩), .pointer (some ⟨w.heap.size, 0, none⟩)]
def EncInv (keep : Bool) (l : List UInt8) (w : World) (k k2 : Nat) (q : Q) (r : List UInt8) (W : World) : Prop :=
  ∃ acc, Bd w.heap.size w.heap.size acc W ∧ Box W k q ∧ FnAt W k2 (otherV w k) ∧ Below w.heap.size w W ∧ w.heap.size ≤ W.heap.size ∧ acc.length + 3 * r.length ≤ 3 * l.length ∧ encL keep l = acc ++ encL keep r

theorem EncInv.keepT {l : List UInt8} {w W : World} {k k2 : Nat} {q : Q} {b c : UInt8} {r : List UInt8} {t : ByteArray} (hl : l.length ≤ 300000) (h : EncInv true l w k k2 q (37 :: b :: c :: r) W) (hb : hexB b = true) (hc : hexB c = true) (ht : t.data.toList = [37, b, c]) :
    Calls Try.prog 68 #[.string t, .pointer (some ⟨w.heap.size, 0, none⟩)] W fun e w' => e = .returned (.tuple #[]) ∧ EncInv true l w k k2 q r w' := by
  obtain ⟨acc, h1, h2, h2', h3, h4, h5, h6⟩ := h
  simp only [List.length_cons] at h5
  refine (enc2_any _ _ acc t _ W h1 h4 (by omega) ht (by simp)).mono ?_
  rintro e w' ⟨rfl, A⟩
  refine ⟨rfl, _, A.bd, h2.aft A (h1.box h2), h2'.aft A (h1.fn h2'), h3.trans A.bel, Nat.le_trans h4 A.bel.size, by simp; omega, ?_⟩
  rw [h6, enc_trip hb hc]
  simp
theorem EncInv.keepF {l : List UInt8} {w W : World} {k k2 : Nat} {q : Q} {b c : UInt8} {r : List UInt8} {t : ByteArray} (hl : l.length ≤ 300000) (hq : q.ok) (hst : ∀ a : UInt8, q.has a.toNat = stayB false a) (h : EncInv false l w k k2 q (37 :: b :: c :: r) W) (ht : t.data.toList = [37, b, c]) :
    Calls Try.prog 69 #[.string t, .pointer (some ⟨k2, 0, none⟩)] W fun e w' => e = .returned (.tuple #[]) ∧ EncInv false l w k k2 q r w' := by
  obtain ⟨acc, h1, h2, h2', h3, h4, h5, h6⟩ := h
  simp only [List.length_cons] at h5
  refine (enc3_any _ _ k k2 acc t q W h1 h2 h2' hq hst h4 (by omega) (by rw [size_three ht]; omega)).mono ?_
  rintro e w' ⟨rfl, A⟩
  rw [ht] at A
  have hlen := (enc_len false [37, b, c]).2
  simp only [List.length_cons, List.length_nil] at hlen
  refine ⟨rfl, _, A.bd, h2.aft A (h1.box h2), h2'.aft A (h1.fn h2'), h3.trans A.bel, Nat.le_trans h4 A.bel.size, by rw [List.length_append]; omega, ?_⟩
  rw [h6, show (37 :: b :: c :: r) = [37, b, c] ++ r from rfl, enc_joins, List.append_assoc]
theorem EncInv.byte {keep : Bool} {l : List UInt8} {w W : World} {k k2 : Nat} {q : Q} {a : UInt8} {r : List UInt8} (hl : l.length ≤ 300000) (hq : q.ok) (hst : ∀ a : UInt8, q.has a.toNat = stayB keep a) (h : EncInv keep l w k k2 q (a :: r) W) (hb : tripB (a :: r) = false) :
    Calls Try.prog 64 #[.int .u8 (a.toNat : Int), .pointer (some ⟨k, 0, none⟩), .pointer (some ⟨w.heap.size, 0, none⟩)] W fun e w' => e = .returned (.tuple #[]) ∧ EncInv keep l w k k2 q r w' := by
  obtain ⟨acc, h1, h2, h2', h3, h4, h5, h6⟩ := h
  simp only [List.length_cons] at h5
  refine (enc1_any _ _ k acc a q keep W h1 h2 hq (hst a) h4 (by omega)).mono ?_
  rintro e w' ⟨rfl, A⟩
  have hlen := piece_three keep a
  refine ⟨rfl, _, A.bd, h2.aft A (h1.box h2), h2'.aft A (h1.fn h2'), h3.trans A.bel, Nat.le_trans h4 A.bel.size, by rw [List.length_append]; omega, ?_⟩
  rw [h6, enc_byte (by rw [hb, Bool.and_false]), List.append_assoc]
  rfl

theorem eg35 : ∀ args w, (callFunc 64 args).run Try.prog w = .ok (.enter 64 args) w := by intros; kernel_rfl
theorem eg38 : ∀ args w, (callFunc 68 args).run Try.prog w = .ok (.enter 68 args) w := by intros; kernel_rfl
theorem eg39 : ∀ args w, (callFunc 69 args).run Try.prog w = .ok (.enter 69 args) w := by intros; kernel_rfl

theorem enc_walkT (s : ByteArray) (w W : World) (k k2 : Nat) (q : Q) (hs : s.size ≤ 300000) (hq : q.ok) (hst : ∀ a : UInt8, q.has a.toNat = stayB true a) (h : EncInv true s.data.toList w k k2 q s.data.toList W) :
    Calls Try.prog 35 #[.string s, .func (.func 68) #[] #[.pointer (some ⟨w.heap.size, 0, none⟩)], .func (.func 64) #[] #[.pointer (some ⟨k, 0, none⟩), .pointer (some ⟨w.heap.size, 0, none⟩)]] W fun e w' => e = .returned (.tuple #[]) ∧ EncInv true s.data.toList w k k2 q [] w' :=
  walk_any 68 64 _ _ eg38 eg35 s _ (EncInv true s.data.toList w k k2 q) h (fun _ _ _ _ _ h hb hc ht => EncInv.keepT (by simpa using hs) h hb hc ht) (fun _ _ _ h hb => EncInv.byte (by simpa using hs) hq hst h hb)
theorem enc_walkF (s : ByteArray) (w W : World) (k k2 : Nat) (q : Q) (hs : s.size ≤ 300000) (hq : q.ok) (hst : ∀ a : UInt8, q.has a.toNat = stayB false a) (h : EncInv false s.data.toList w k k2 q s.data.toList W) :
    Calls Try.prog 35 #[.string s, .func (.func 69) #[] #[.pointer (some ⟨k2, 0, none⟩)], .func (.func 64) #[] #[.pointer (some ⟨k, 0, none⟩), .pointer (some ⟨w.heap.size, 0, none⟩)]] W fun e w' => e = .returned (.tuple #[]) ∧ EncInv false s.data.toList w k k2 q [] w' :=
  walk_any 69 64 _ _ eg39 eg35 s _ (EncInv false s.data.toList w k k2 q) h (fun _ _ _ _ _ h _ _ ht => EncInv.keepF (by simpa using hs) hq hst h ht) (fun _ _ _ h hb => EncInv.byte (by simpa using hs) hq hst h hb)

theorem enc_start (keep : Bool) (l : List UInt8) (w V : World) (k : Nat) (q : Q) (hb : Bd w.heap.size w.heap.size [] V) (hx : Box V k q) (hB : Below w.heap.size w V) (hsz : w.heap.size ≤ V.heap.size) :
    EncInv keep l w k V.heap.size q l (V.alloc (.cells #[.func (.func 64) #[] #[.pointer (some ⟨k, 0, none⟩), .pointer (some ⟨w.heap.size, 0, none⟩)]] 71)) :=
  ⟨[], hb.alloc _, hx.later _, heap_alloc_new V _, hB.alloc hsz _, by simp; omega, by simp, by simp⟩

theorem stayF (a : UInt8) : unresQ.has a.toNat = stayB false a := by
  have := un_fin ⟨a.toNat, UInt8.toNat_lt a⟩
  simp only at this
  rw [this]; unfold stayB; simp
theorem stayT (a : UInt8) : (orQ unresQ resQ).has a.toNat = stayB true a := by
  have := stay_fin ⟨a.toNat, UInt8.toNat_lt a⟩
  simp only at this
  rw [this]; unfold stayB; simp
end Go.Proofs.Ytpfcfadbilaleaa
