/-
  TEXTS JOINED: CW4, CW5, CW6.
-/
import Derived.ChangeAlike
import Derived.Deep.RegionWith
import Derived.Laws.IdiomStrings
import Derived.OneCell
import Derived.OwnWalk
import Derived.RegionTactic
import Derived.Test.YtpfcfadbilaleaaQ16
/-
  WALKS: chars.Range, Of.
-/
namespace Go.Proofs.YtpfcfadbilaleaaC
open Go.RowKit

/-- a set in a block of its own -/
def Box (W : World) (b : Nat) (q : Q) : Prop := W.heap[b]? = some (.cells #[.int .u64 q.a, .int .u64 q.b, .int .u64 q.c, .int .u64 q.d] 95 (0, 0))
theorem Box.below {W W' : World} {b n : Nat} {q : Q} (h : Box W b q) (hb : Below n W W') (hn : b < n) : Box W' b q := (hb.block b hn).trans h
theorem Box.cells {W : World} {b : Nat} {q : Q} (h : Box W b q) : W.cell? ⟨b, 0, none⟩ = some (.int .u64 q.a) ∧ W.cell? ⟨b, 1, none⟩ = some (.int .u64 q.b) ∧ W.cell? ⟨b, 2, none⟩ = some (.int .u64 q.c) ∧ W.cell? ⟨b, 3, none⟩ = some (.int .u64 q.d) := by
  unfold Box at h
  simp [World.cell?, h]
theorem Box.free {W : World} {b : Nat} {q : Q} (h : Box W b q) (i : Nat) : W.frozen? ⟨b, i, none⟩ = false := by
  unfold Box at h
  simp [World.frozen?, h]
theorem Box.lt {W : World} {b : Nat} {q : Q} (h : Box W b q) : b < W.heap.size := lt_of_block h
theorem Box.store {W : World} {b : Nat} {q : Q} (h : Box W b q) (r : Q) : Box ((((W.setCell ⟨b, 0, none⟩ (.int .u64 r.a)).setCell ⟨b, 1, none⟩ (.int .u64 r.b)).setCell ⟨b, 2, none⟩ (.int .u64 r.c)).setCell ⟨b, 3, none⟩ (.int .u64 r.d)) b r := by
  unfold Box at h ⊢
  have h1 := heap_setCell_same W b 0 _ _ (.int .u64 r.a) h
  have h2 := heap_setCell_same _ b 1 _ _ (.int .u64 r.b) h1
  have h3 := heap_setCell_same _ b 2 _ _ (.int .u64 r.c) h2
  have h4 := heap_setCell_same _ b 3 _ _ (.int .u64 r.d) h3
  exact h4
theorem Box.made (W : World) (q : Q) : Box (W.alloc (.cells #[.int .u64 q.a, .int .u64 q.b, .int .u64 q.c, .int .u64 q.d] 95)) W.heap.size q := by
  show (W.heap.push _)[W.heap.size]? = _
  simp
theorem Box.later {W : World} {b : Nat} {q : Q} (h : Box W b q) (o : Obj) : Box (W.alloc o) b q := (Below.heap_alloc W o b h.lt).trans h
theorem Box.drew {W : World} {b : Nat} {q : Q} (h : Box W b q) : Box W.drew b q := h

/-- the world behind a store of a set -/
def put4 (W : World) (b : Nat) (r : Q) : World := (((W.setCell ⟨b, 0, none⟩ (.int .u64 r.a)).setCell ⟨b, 1, none⟩ (.int .u64 r.b)).setCell ⟨b, 2, none⟩ (.int .u64 r.c)).setCell ⟨b, 3, none⟩ (.int .u64 r.d)
theorem Box.other {W : World} {b k : Nat} {q : Q} (h : Box W b q) (hk : b ≠ k) (r : Q) : Box (put4 W k r) b q := by
  unfold Box put4 at *
  rw [heap_setCell_other _ _ _ _ hk, heap_setCell_other _ _ _ _ hk, heap_setCell_other _ _ _ _ hk, heap_setCell_other _ _ _ _ hk]
  exact h
theorem below_put {n : Nat} {w W : World} {b : Nat} (h : Below n w W) (hb : n ≤ b) (r : Q) : Below n w (put4 W b r) :=
  (((h.setCell (p := ⟨b, 0, none⟩) hb _).setCell (p := ⟨b, 1, none⟩) hb _).setCell (p := ⟨b, 2, none⟩) hb _).setCell (p := ⟨b, 3, none⟩) hb _
theorem below_two {n : Nat} {w wr w1 w2 : World} (hB : Below n w wr) (hn : n ≤ wr.heap.size) (b1 : Below wr.drew.heap.size wr.drew w1) (b2 : Below w1.heap.size w1 w2) : Below n w w2 :=
  (hB.drew.trans (b1.mono hn)).trans (b2.mono (Nat.le_trans hn b1.size))

theorem Box.put0 {W : World} {b : Nat} {q : Q} (h : Box W b q) (x : Nat) : Box (W.setCell ⟨b, 0, none⟩ (.int .u64 x)) b ⟨x, q.b, q.c, q.d⟩ := by
  unfold Box at h ⊢
  exact heap_setCell_same W b 0 _ _ _ h
theorem Box.put1 {W : World} {b : Nat} {q : Q} (h : Box W b q) (x : Nat) : Box (W.setCell ⟨b, 1, none⟩ (.int .u64 x)) b ⟨q.a, x, q.c, q.d⟩ := by
  unfold Box at h ⊢
  exact heap_setCell_same W b 1 _ _ _ h
theorem Box.put2 {W : World} {b : Nat} {q : Q} (h : Box W b q) (x : Nat) : Box (W.setCell ⟨b, 2, none⟩ (.int .u64 x)) b ⟨q.a, q.b, x, q.d⟩ := by
  unfold Box at h ⊢
  exact heap_setCell_same W b 2 _ _ _ h
theorem Box.put3 {W : World} {b : Nat} {q : Q} (h : Box W b q) (x : Nat) : Box (W.setCell ⟨b, 3, none⟩ (.int .u64 x)) b ⟨q.a, q.b, q.c, x⟩ := by
  unfold Box at h ⊢
  exact heap_setCell_same W b 3 _ _ _ h
theorem Box.elsewhere {W : World} {b k : Nat} {q : Q} (h : Box W b q) (hk : b ≠ k) (i : Nat) (v : Value) : Box (W.setCell ⟨k, i, none⟩ v) b q := by
  unfold Box at *
  rw [heap_setCell_other _ _ _ _ hk]
  exact h
theorem or_one0 (q : Q) (k : Nat) (h : k / 64 = 0) : orQ q (oneQ k) = ⟨q.a ||| 2 ^ (k % 64), q.b, q.c, q.d⟩ := by unfold orQ oneQ; simp [h]
theorem or_one1 (q : Q) (k : Nat) (h : k / 64 = 1) : orQ q (oneQ k) = ⟨q.a, q.b ||| 2 ^ (k % 64), q.c, q.d⟩ := by unfold orQ oneQ; simp [h]
theorem or_one2 (q : Q) (k : Nat) (h : k / 64 = 2) : orQ q (oneQ k) = ⟨q.a, q.b, q.c ||| 2 ^ (k % 64), q.d⟩ := by unfold orQ oneQ; simp [h]
theorem or_one3 (q : Q) (k : Nat) (h : k / 64 = 3) : orQ q (oneQ k) = ⟨q.a, q.b, q.c, q.d ||| 2 ^ (k % 64)⟩ := by unfold orQ oneQ; simp [h]

set_option maxHeartbeats 1000000 in
theorem range_any (lo hi : Int) (w : World) (h0 : 0 ≤ lo) (h1 : lo ≤ 255) (h2 : 0 ≤ hi) (h3 : hi ≤ 255) :
    Calls Try.prog 92 #[.int .u8 lo, .int .u8 hi] w fun e w' => e = .returned (qv (upQ lo.toNat (hi.toNat + 1))) ∧ Below w.heap.size w w' := by
  go_enter Try.func92, Try.ntmps92
  go_wp2
  go_loopw [6] (fun i wr => ∃ k : Nat, lo.toNat ≤ k ∧ (k ≤ hi.toNat + 1 ∨ k = lo.toNat) ∧ i = .int .i64 k ∧ Below w.heap.size w wr ∧ Box wr w.heap.size zeroQ ∧ Box wr (w.heap.size + 1) (upQ lo.toNat k)) (fun i _ => 256 - (intOf i).toNat)
  case atStart =>
    refine ⟨lo.toNat, Nat.le_refl _, .inr rfl, ?_, ((Below.refl _ _).alloc (Nat.le_refl _) _).alloc (by simp) _, ?_, ?_⟩
    · rw [show ((lo.toNat : Nat) : Int) = lo by omega]
    · exact (Box.made w zeroQ).later _
    · rw [up_nil _ _ (Nat.le_refl _)]
      have := Box.made (w.alloc (.cells #[.int .u64 0, .int .u64 0, .int .u64 0, .int .u64 0] 95)) zeroQ
      simpa [zeroQ] using this
  case round =>
    obtain ⟨k, hk1, hk2, rfl, hB, hR, hX⟩ := hrel
    obtain ⟨c0, c1, c2, c3⟩ := hX.cells
    have fr := hX.free
    by_cases hlt : (k : Int) ≤ hi
    · have hou := up_ok lo.toNat k
      have hsn := up_snoc lo.toNat k hk1
      have HSN := hide hsn
      clear hsn
      generalize upQ lo.toNat k = q at *
      obtain ⟨j, hj⟩ : ∃ j : Nat, k / 64 = j := ⟨_, rfl⟩
      have hd : j = 0 ∨ j = 1 ∨ j = 2 ∨ j = 3 := by omega
      have hp := pow_lt k
      have e1 : IntKind.u64.wrap (2 ^ (k % 64)) = ((2 ^ (k % 64) : Nat) : Int) := by
        have := pow_cast (k : Int) (by omega)
        rwa [show ((k : Int) % 64).toNat = k % 64 by omega, show ((k : Int)).toNat = k by omega] at this
      have oa := u64_or_nat q.a (2 ^ (k % 64)) hou.1 hp
      have ob := u64_or_nat q.b (2 ^ (k % 64)) hou.2.1 hp
      have oc := u64_or_nat q.c (2 ^ (k % 64)) hou.2.2.1 hp
      have od := u64_or_nat q.d (2 ^ (k % 64)) hou.2.2.2 hp
      have t1 : (k : Int).tmod 64 = ((k % 64 : Nat) : Int) := by rw [Int.tmod_eq_emod_of_nonneg (by omega)]; rfl
      generalize hP : (2 ^ (k % 64) : Nat) = p at *
      have HP := hide hP
      clear hP
      rcases hd with rfl | rfl | rfl | rfl
      all_goals
        have t0 : (k : Int).tdiv 64 = _ := (Int.tdiv_eq_ediv_of_nonneg (by omega)).trans (show (k : Int) / 64 = ((k / 64 : Nat) : Int) from rfl)
        rw [hj] at t0
        have wq : IntKind.i64.wrap ((k : Int).tdiv 64) = (k : Int).tdiv 64 := by rw [t0]; rfl
        have wr' : IntKind.i64.wrap ((k : Int).tmod 64) = (k : Int).tmod 64 := by rw [t1, IntKind.wrap_i64]; omega
        go_wp2
        go_region
        go_wp2
        go_roundw
        case rel =>
          refine ⟨k + 1, by omega, by omega, by go_num, (hB.setCell (p := ⟨w.heap.size + 1, _, none⟩) (Nat.le_succ _) _).drew, (hR.elsewhere (by omega) _ _).drew, ?_⟩
          rw [HSN.out]
          first
            | (rw [or_one0 _ _ hj, HP.out]; exact (hX.put0 _).drew)
            | (rw [or_one1 _ _ hj, HP.out]; exact (hX.put1 _).drew)
            | (rw [or_one2 _ _ hj, HP.out]; exact (hX.put2 _).drew)
            | (rw [or_one3 _ _ hj, HP.out]; exact (hX.put3 _).drew)
        case measure => simp [intOf]; omega
    · obtain ⟨r0, r1, r2, r3⟩ := hR.cells
      have frR := hR.free
      go_wp2
      have hfin : upQ lo.toNat k = upQ lo.toNat (hi.toNat + 1) := by
        rcases hk2 with h | h
        · rw [show k = hi.toNat + 1 by omega]
        · by_cases hh : k = hi.toNat + 1
          · rw [hh]
          · rw [up_nil _ _ (by omega), up_nil _ _ (by omega)]
      have hb' := below_put (b := w.heap.size) hB (Nat.le_refl _) (upQ lo.toNat k)
      obtain ⟨z0, z1, z2, z3⟩ := (hR.store (upQ lo.toNat k)).cells
      refine bodyPost_ret (v := qv (upQ lo.toNat k)) ?_ rfl ⟨by rw [hfin], hb'⟩
      simp [results, Try.results92, go_sem, qv, z0, z1, z2, z3]
end Go.Proofs.YtpfcfadbilaleaaC
/-
  WALKS: chars.Of; the reference's In.
-/
namespace Go.Proofs.YtpfcfadbilaleaaC
open Go.RowKit

theorem take_snoc (s : ByteArray) (k : Nat) (h : k < s.size) : s.data.toList.take (k + 1) = s.data.toList.take k ++ [s[k]] := by
  rw [List.take_succ_eq_append_getElem (by simpa using h)]; rfl

/-- a byte is in a text -/
def inB (l : List UInt8) (n : Nat) : Bool := l.any fun c => decide (n = c.toNat)
theorem in_snoc (l : List UInt8) (c : UInt8) (n : Nat) : inB (l ++ [c]) n = (inB l n || decide (n = c.toNat)) := by unfold inB; simp
theorem in_more (l : List UInt8) (k n : Nat) (h : inB (l.take k) n = true) : inB l n = true := by
  unfold inB at *
  rw [List.any_eq_true] at *
  obtain ⟨x, hx, hc⟩ := h
  exact ⟨x, List.mem_of_mem_take hx, hc⟩

end Go.Proofs.YtpfcfadbilaleaaC
/-
  WALKS: the reference's List.
-/
namespace Go.Proofs.YtpfcfadbilaleaaC
open Go.RowKit

/-- a set in four cells -/
def Cells4 (W : World) (b : Nat) (q : Q) : Prop := W.cell? ⟨b, 0, none⟩ = some (.int .u64 q.a) ∧ W.cell? ⟨b, 1, none⟩ = some (.int .u64 q.b) ∧ W.cell? ⟨b, 2, none⟩ = some (.int .u64 q.c) ∧ W.cell? ⟨b, 3, none⟩ = some (.int .u64 q.d)
theorem Cells4.below {W W' : World} {b n : Nat} {q : Q} (h : Cells4 W b q) (hb : Below n W W') (hn : b < n) : Cells4 W' b q := by
  obtain ⟨h0, h1, h2, h3⟩ := h
  exact ⟨(hb.cell (p := ⟨b, 0, none⟩) hn).trans h0, (hb.cell (p := ⟨b, 1, none⟩) hn).trans h1, (hb.cell (p := ⟨b, 2, none⟩) hn).trans h2, (hb.cell (p := ⟨b, 3, none⟩) hn).trans h3⟩
theorem Cells4.of {W : World} {b : Nat} {q : Q} {t : TypeId} (h : W.heap[b]? = some (.cells #[.int .u64 q.a, .int .u64 q.b, .int .u64 q.c, .int .u64 q.d] t (0, 0))) : Cells4 W b q := by
  unfold Cells4
  simp [World.cell?, h]
theorem Cells4.made (W : World) (q : Q) (t : TypeId) : Cells4 (W.alloc (.cells #[.int .u64 q.a, .int .u64 q.b, .int .u64 q.c, .int .u64 q.d] t)) W.heap.size q := by
  apply Cells4.of (t := t)
  show (W.heap.push _)[W.heap.size]? = _
  simp

theorem own_later {W w1 : World} {base : Nat} {v : Value} {n : Nat} {xs : List Value} {t : TypeId} (h : W.ownsRow base t 1 v n xs) (b : Below W.heap.size W w1) : w1.ownsRow base t 1 v n xs := by
  refine ⟨h.1, ?_⟩
  rcases h.2 with k | ⟨g, cap, cur, e1, e2, e3, e4⟩
  · exact .inl k
  · exact .inr ⟨g, cap, cur, e1, e2, (b.block g (lt_of_block e3)).trans e3, e4⟩
theorem has_is (q : Q) (c : Int) (b : Bool) (w : World) (hq : q.ok) (h0 : 0 ≤ c) (h1 : c ≤ 255) (h : q.has c.toNat = b) :
    Calls Try.prog 65 #[qv q, .int .u8 c] w fun e w' => e = .returned (.bool b) ∧ Below w.heap.size w w' := by
  subst h; exact has_any q c w hq h0 h1

end Go.Proofs.YtpfcfadbilaleaaC
