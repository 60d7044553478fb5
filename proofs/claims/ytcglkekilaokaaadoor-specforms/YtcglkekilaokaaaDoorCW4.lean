/-
  WALKS: chars.Range, Of.
-/
import Derived.Test.YtcglkekilaokaaaDoorCW3
import Derived.OneCell
import Derived.RegionTactic
import Derived.Deep.RegionWith
import Derived.ChangeAlike
namespace Go.Proofs.YtcglkekilaokaaaDoorC
open Go.RowKit

/-- a set in a block of its own -/
def Box (W : World) (b : Nat) (q : Q) : Prop := W.heap[b]? = some (.cells #[.int .u64 q.a, .int .u64 q.b, .int .u64 q.c, .int .u64 q.d] 62 (0, 0))
theorem Box.below {W W' : World} {b n : Nat} {q : Q} (h : Box W b q) (hb : Below n W W') (hn : b < n) : Box W' b q := (hb.block b hn).trans h
theorem Box.cells {W : World} {b : Nat} {q : Q} (h : Box W b q) : W.cell? ⟨b, 0, none⟩ = some (.int .u64 q.a) ∧ W.cell? ⟨b, 1, none⟩ = some (.int .u64 q.b) ∧ W.cell? ⟨b, 2, none⟩ = some (.int .u64 q.c) ∧ W.cell? ⟨b, 3, none⟩ = some (.int .u64 q.d) := by
  unfold Box at h
  simp [World.cell?, h]
theorem Box.free {W : World} {b : Nat} {q : Q} (h : Box W b q) (i : Nat) : W.frozen? ⟨b, i, none⟩ = false := by
  unfold Box at h
  simp [World.frozen?, h]
theorem Box.lt {W : World} {b : Nat} {q : Q} (h : Box W b q) : b < W.heap.size := lt_of_block h
theorem Box.store {W : World} {b : Nat} {q : Q} (h : Box W b q) (r : Q) : Box ((((W.setCell ⟨b, 0, none⟩ (.int .u64 r.a)).setCell ⟨b, 1, none⟩ (.int .u64 r.b)).setCell ⟨b, 2, none⟩ (.int .u64 r.c)).setCell ⟨b, 3, none⟩ (.int .u64 r.d)) b r := by
  unfold Box at h ⊢
  have h1 := heap_setCell_same W b 0 _ _ (.int .u64 r.a) h
  have h2 := heap_setCell_same _ b 1 _ _ (.int .u64 r.b) h1
  have h3 := heap_setCell_same _ b 2 _ _ (.int .u64 r.c) h2
  have h4 := heap_setCell_same _ b 3 _ _ (.int .u64 r.d) h3
  exact h4
theorem Box.made (W : World) (q : Q) : Box (W.alloc (.cells #[.int .u64 q.a, .int .u64 q.b, .int .u64 q.c, .int .u64 q.d] 62)) W.heap.size q := by
  show (W.heap.push _)[W.heap.size]? = _
  simp
theorem Box.later {W : World} {b : Nat} {q : Q} (h : Box W b q) (o : Obj) : Box (W.alloc o) b q := (Below.heap_alloc W o b h.lt).trans h
theorem Box.drew {W : World} {b : Nat} {q : Q} (h : Box W b q) : Box W.drew b q := h

/-- the world behind a store of a set -/
def put4 (W : World) (b : Nat) (r : Q) : World := (((W.setCell ⟨b, 0, none⟩ (.int .u64 r.a)).setCell ⟨b, 1, none⟩ (.int .u64 r.b)).setCell ⟨b, 2, none⟩ (.int .u64 r.c)).setCell ⟨b, 3, none⟩ (.int .u64 r.d)
theorem Box.other {W : World} {b k : Nat} {q : Q} (h : Box W b q) (hk : b ≠ k) (r : Q) : Box (put4 W k r) b q := by
  unfold Box put4 at *
  rw [heap_setCell_other _ _ _ _ hk, heap_setCell_other _ _ _ _ hk, heap_setCell_other _ _ _ _ hk, heap_setCell_other _ _ _ _ hk]
  exact h
theorem below_put {n : Nat} {w W : World} {b : Nat} (h : Below n w W) (hb : n ≤ b) (r : Q) : Below n w (put4 W b r) :=
  (((h.setCell (p := ⟨b, 0, none⟩) hb _).setCell (p := ⟨b, 1, none⟩) hb _).setCell (p := ⟨b, 2, none⟩) hb _).setCell (p := ⟨b, 3, none⟩) hb _
theorem below_two {n : Nat} {w wr w1 w2 : World} (hB : Below n w wr) (hn : n ≤ wr.heap.size) (b1 : Below wr.drew.heap.size wr.drew w1) (b2 : Below w1.heap.size w1 w2) : Below n w w2 :=
  (hB.drew.trans (b1.mono hn)).trans (b2.mono (Nat.le_trans hn b1.size))

theorem wrap_u8 (k : Nat) (h : k ≤ 255) : IntKind.u8.wrap (k : Int) = (k : Int) := by
  simp [IntKind.wrap, IntKind.bits, IntKind.signed]
  omega

set_option maxHeartbeats 1000000 in
theorem range_any (lo hi : Int) (w : World) (h0 : 0 ≤ lo) (h1 : lo ≤ 255) (h2 : 0 ≤ hi) (h3 : hi ≤ 255) :
    Calls Tryd.prog 50 #[.int .u8 lo, .int .u8 hi] w fun e w' => e = .returned (qv (upQ lo.toNat (hi.toNat + 1))) ∧ Below w.heap.size w w' := by
  go_enter Tryd.func50, Tryd.ntmps50
  go_wp2
  go_loopw [6] (fun i wr => ∃ k : Nat, lo.toNat ≤ k ∧ (k ≤ hi.toNat + 1 ∨ k = lo.toNat) ∧ i = .int .i64 k ∧ Below w.heap.size w wr ∧ Box wr w.heap.size zeroQ ∧ Box wr (w.heap.size + 1) (upQ lo.toNat k)) (fun i _ => 256 - (intOf i).toNat)
  case atStart =>
    refine ⟨lo.toNat, Nat.le_refl _, .inr rfl, ?_, ((Below.refl _ _).alloc (Nat.le_refl _) _).alloc (by simp) _, ?_, ?_⟩
    · rw [show ((lo.toNat : Nat) : Int) = lo by omega]
    · exact (Box.made w zeroQ).later _
    · rw [up_nil _ _ (Nat.le_refl _)]
      have := Box.made (w.alloc (.cells #[.int .u64 0, .int .u64 0, .int .u64 0, .int .u64 0] 62)) zeroQ
      simpa [zeroQ] using this
  case round =>
    obtain ⟨k, hk1, hk2, rfl, hB, hR, hX⟩ := hrel
    obtain ⟨c0, c1, c2, c3⟩ := hX.cells
    have fr := hX.free
    have hsz := hX.lt
    by_cases hlt : (k : Int) ≤ hi
    · have hwk := wrap_u8 k (by omega)
      have hk0 : (0 : Int) ≤ k := by omega
      have hk5 : (k : Int) ≤ 255 := by omega
      have hou := up_ok lo.toNat k
      have hoo := one_ok (k : Int).toNat
      go_wp2
      go_region_with (first | (go_at_call 57; refine (one_any _ _ hk0 hk5).mono ?_; rintro e w1 ⟨rfl, b1⟩; simp only [qv]; have X1 : Box w1 _ _ := (b1.block _ hsz).trans hX; have R1 : Box w1 _ _ := (b1.block _ hR.lt).trans hR; obtain ⟨d0, d1, d2, d3⟩ := X1.cells; have fr1 := X1.free) | (go_at_call 55; refine (union2 _ _ _ hou hoo).mono ?_; rintro e w2 ⟨rfl, b2⟩; simp only [qv]; have X2 : Box w2 _ _ := (b2.block _ X1.lt).trans X1; have R2 : Box w2 _ _ := (b2.block _ R1.lt).trans R1; obtain ⟨m0, m1, m2, m3⟩ := X2.cells; have fr2 := X2.free))
      all_goals
        go_wp2
        have hb := below_two hB (by omega) b1 b2
        have hx := (X2.store (orQ (upQ lo.toNat k) (oneQ (k : Int).toNat)))
        have hr := R2.other (k := w.heap.size + 1) (by omega) (orQ (upQ lo.toNat k) (oneQ (k : Int).toNat))
        have hb' := below_put (b := w.heap.size + 1) hb (by omega) (orQ (upQ lo.toNat k) (oneQ (k : Int).toNat))
        go_roundw
        case rel => exact ⟨k + 1, by omega, by omega, by go_num, hb', hr, by rw [up_snoc _ _ hk1]; exact hx⟩
        case measure => simp [intOf]; omega
    · obtain ⟨r0, r1, r2, r3⟩ := hR.cells
      have frR := hR.free
      go_wp2
      have hfin : upQ lo.toNat k = upQ lo.toNat (hi.toNat + 1) := by
        rcases hk2 with h | h
        · rw [show k = hi.toNat + 1 by omega]
        · by_cases hh : k = hi.toNat + 1
          · rw [hh]
          · rw [up_nil _ _ (by omega), up_nil _ _ (by omega)]
      have hb' := below_put (b := w.heap.size) hB (Nat.le_refl _) (upQ lo.toNat k)
      obtain ⟨z0, z1, z2, z3⟩ := (hR.store (upQ lo.toNat k)).cells
      refine bodyPost_ret (v := qv (upQ lo.toNat k)) ?_ rfl ⟨by rw [hfin], hb'⟩
      simp [results, Tryd.results50, go_sem, qv, z0, z1, z2, z3]
end Go.Proofs.YtcglkekilaokaaaDoorC
