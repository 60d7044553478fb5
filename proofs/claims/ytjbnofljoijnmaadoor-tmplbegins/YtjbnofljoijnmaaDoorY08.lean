/-
  Joined by program out of the texts CW4 CW5 CW6 CW7 CW8 CW9.
-/
import Derived.Test.YtjbnofljoijnmaaDoorY07
import Derived.OneCell
import Derived.RegionTactic
import Derived.Deep.RegionWith
import Derived.ChangeAlike
import Derived.OwnWalk
import Derived.Laws.IdiomStrings
import Derived.Laws.StructEq
import Derived.Deep.LoopGhost
/-
  WALKS: chars.Range, Of.
-/
namespace Go.Proofs.YtjbnofljoijnmaaDoorC
open Go.RowKit

/-- a set in a block of its own -/
def Box (W : World) (b : Nat) (q : Q) : Prop := W.heap[b]? = some (.cells #[.int .u64 q.a, .int .u64 q.b, .int .u64 q.c, .int .u64 q.d] 73 (0, 0))
theorem Box.below {W W' : World} {b n : Nat} {q : Q} (h : Box W b q) (hb : Below n W W') (hn : b < n) : Box W' b q := (hb.block b hn).trans h
theorem Box.cells {W : World} {b : Nat} {q : Q} (h : Box W b q) : W.cell? ⟨b, 0, none⟩ = some (.int .u64 q.a) ∧ W.cell? ⟨b, 1, none⟩ = some (.int .u64 q.b) ∧ W.cell? ⟨b, 2, none⟩ = some (.int .u64 q.c) ∧ W.cell? ⟨b, 3, none⟩ = some (.int .u64 q.d) := by
  unfold Box at h
  simp [World.cell?, h]
theorem Box.free {W : World} {b : Nat} {q : Q} (h : Box W b q) (i : Nat) : W.frozen? ⟨b, i, none⟩ = false := by
  unfold Box at h
  simp [World.frozen?, h]
theorem Box.lt {W : World} {b : Nat} {q : Q} (h : Box W b q) : b < W.heap.size := lt_of_block h
theorem Box.store {W : World} {b : Nat} {q : Q} (h : Box W b q) (r : Q) : Box ((((W.setCell ⟨b, 0, none⟩ (.int .u64 r.a)).setCell ⟨b, 1, none⟩ (.int .u64 r.b)).setCell ⟨b, 2, none⟩ (.int .u64 r.c)).setCell ⟨b, 3, none⟩ (.int .u64 r.d)) b r := by
  unfold Box at h ⊢
  have h1 := heap_setCell_same W b 0 _ _ (.int .u64 r.a) h
  have h2 := heap_setCell_same _ b 1 _ _ (.int .u64 r.b) h1
  have h3 := heap_setCell_same _ b 2 _ _ (.int .u64 r.c) h2
  have h4 := heap_setCell_same _ b 3 _ _ (.int .u64 r.d) h3
  exact h4
theorem Box.made (W : World) (q : Q) : Box (W.alloc (.cells #[.int .u64 q.a, .int .u64 q.b, .int .u64 q.c, .int .u64 q.d] 73)) W.heap.size q := by
  show (W.heap.push _)[W.heap.size]? = _
  simp
theorem Box.later {W : World} {b : Nat} {q : Q} (h : Box W b q) (o : Obj) : Box (W.alloc o) b q := (Below.heap_alloc W o b h.lt).trans h
theorem Box.drew {W : World} {b : Nat} {q : Q} (h : Box W b q) : Box W.drew b q := h

/-- the world behind a store of a set -/
def put4 (W : World) (b : Nat) (r : Q) : World := (((W.setCell ⟨b, 0, none⟩ (.int .u64 r.a)).setCell ⟨b, 1, none⟩ (.int .u64 r.b)).setCell ⟨b, 2, none⟩ (.int .u64 r.c)).setCell ⟨b, 3, none⟩ (.int .u64 r.d)
theorem Box.other {W : World} {b k : Nat} {q : Q} (h : Box W b q) (hk : b ≠ k) (r : Q) : Box (put4 W k r) b q := by
  unfold Box put4 at *
  rw [heap_setCell_other _ _ _ _ hk, heap_setCell_other _ _ _ _ hk, heap_setCell_other _ _ _ _ hk, heap_setCell_other _ _ _ _ hk]
  exact h
theorem below_put {n : Nat} {w W : World} {b : Nat} (h : Below n w W) (hb : n ≤ b) (r : Q) : Below n w (put4 W b r) :=
  (((h.setCell (p := ⟨b, 0, none⟩) hb _).setCell (p := ⟨b, 1, none⟩) hb _).setCell (p := ⟨b, 2, none⟩) hb _).setCell (p := ⟨b, 3, none⟩) hb _
theorem below_two {n : Nat} {w wr w1 w2 : World} (hB : Below n w wr) (hn : n ≤ wr.heap.size) (b1 : Below wr.drew.heap.size wr.drew w1) (b2 : Below w1.heap.size w1 w2) : Below n w w2 :=
  (hB.drew.trans (b1.mono hn)).trans (b2.mono (Nat.le_trans hn b1.size))

theorem wrap_u8 (k : Nat) (h : k ≤ 255) : IntKind.u8.wrap (k : Int) = (k : Int) := by
  simp [IntKind.wrap, IntKind.bits, IntKind.signed]
  omega

theorem Box.put0 {W : World} {b : Nat} {q : Q} (h : Box W b q) (x : Nat) : Box (W.setCell ⟨b, 0, none⟩ (.int .u64 x)) b ⟨x, q.b, q.c, q.d⟩ := by
  unfold Box at h ⊢
  exact heap_setCell_same W b 0 _ _ _ h
theorem Box.put1 {W : World} {b : Nat} {q : Q} (h : Box W b q) (x : Nat) : Box (W.setCell ⟨b, 1, none⟩ (.int .u64 x)) b ⟨q.a, x, q.c, q.d⟩ := by
  unfold Box at h ⊢
  exact heap_setCell_same W b 1 _ _ _ h
theorem Box.put2 {W : World} {b : Nat} {q : Q} (h : Box W b q) (x : Nat) : Box (W.setCell ⟨b, 2, none⟩ (.int .u64 x)) b ⟨q.a, q.b, x, q.d⟩ := by
  unfold Box at h ⊢
  exact heap_setCell_same W b 2 _ _ _ h
theorem Box.put3 {W : World} {b : Nat} {q : Q} (h : Box W b q) (x : Nat) : Box (W.setCell ⟨b, 3, none⟩ (.int .u64 x)) b ⟨q.a, q.b, q.c, x⟩ := by
  unfold Box at h ⊢
  exact heap_setCell_same W b 3 _ _ _ h
theorem Box.elsewhere {W : World} {b k : Nat} {q : Q} (h : Box W b q) (hk : b ≠ k) (i : Nat) (v : Value) : Box (W.setCell ⟨k, i, none⟩ v) b q := by
  unfold Box at *
  rw [heap_setCell_other _ _ _ _ hk]
  exact h
theorem or_one0 (q : Q) (k : Nat) (h : k / 64 = 0) : orQ q (oneQ k) = ⟨q.a ||| 2 ^ (k % 64), q.b, q.c, q.d⟩ := by unfold orQ oneQ; simp [h]
theorem or_one1 (q : Q) (k : Nat) (h : k / 64 = 1) : orQ q (oneQ k) = ⟨q.a, q.b ||| 2 ^ (k % 64), q.c, q.d⟩ := by unfold orQ oneQ; simp [h]
theorem or_one2 (q : Q) (k : Nat) (h : k / 64 = 2) : orQ q (oneQ k) = ⟨q.a, q.b, q.c ||| 2 ^ (k % 64), q.d⟩ := by unfold orQ oneQ; simp [h]
theorem or_one3 (q : Q) (k : Nat) (h : k / 64 = 3) : orQ q (oneQ k) = ⟨q.a, q.b, q.c, q.d ||| 2 ^ (k % 64)⟩ := by unfold orQ oneQ; simp [h]

set_option maxHeartbeats 1000000 in
theorem range_any (lo hi : Int) (w : World) (h0 : 0 ≤ lo) (h1 : lo ≤ 255) (h2 : 0 ≤ hi) (h3 : hi ≤ 255) :
    Calls Tryd.prog 49 #[.int .u8 lo, .int .u8 hi] w fun e w' => e = .returned (qv (upQ lo.toNat (hi.toNat + 1))) ∧ Below w.heap.size w w' := by
  go_enter Tryd.func49, Tryd.ntmps49
  go_wp2
  go_loopw [6] (fun i wr => ∃ k : Nat, lo.toNat ≤ k ∧ (k ≤ hi.toNat + 1 ∨ k = lo.toNat) ∧ i = .int .i64 k ∧ Below w.heap.size w wr ∧ Box wr w.heap.size zeroQ ∧ Box wr (w.heap.size + 1) (upQ lo.toNat k)) (fun i _ => 256 - (intOf i).toNat)
  case atStart =>
    refine ⟨lo.toNat, Nat.le_refl _, .inr rfl, ?_, ((Below.refl _ _).alloc (Nat.le_refl _) _).alloc (by simp) _, ?_, ?_⟩
    · rw [show ((lo.toNat : Nat) : Int) = lo by omega]
    · exact (Box.made w zeroQ).later _
    · rw [up_nil _ _ (Nat.le_refl _)]
      have := Box.made (w.alloc (.cells #[.int .u64 0, .int .u64 0, .int .u64 0, .int .u64 0] 73)) zeroQ
      simpa [zeroQ] using this
  case round =>
    obtain ⟨k, hk1, hk2, rfl, hB, hR, hX⟩ := hrel
    obtain ⟨c0, c1, c2, c3⟩ := hX.cells
    have fr := hX.free
    by_cases hlt : (k : Int) ≤ hi
    · have hou := up_ok lo.toNat k
      have hsn := up_snoc lo.toNat k hk1
      have HSN := hide hsn
      clear hsn
      generalize upQ lo.toNat k = q at *
      obtain ⟨j, hj⟩ : ∃ j : Nat, k / 64 = j := ⟨_, rfl⟩
      have hd : j = 0 ∨ j = 1 ∨ j = 2 ∨ j = 3 := by omega
      have hp := pow_lt k
      have e1 : IntKind.u64.wrap (2 ^ (k % 64)) = ((2 ^ (k % 64) : Nat) : Int) := by
        have := pow_cast (k : Int) (by omega)
        rwa [show ((k : Int) % 64).toNat = k % 64 by omega, show ((k : Int)).toNat = k by omega] at this
      have oa := u64_or_nat q.a (2 ^ (k % 64)) hou.1 hp
      have ob := u64_or_nat q.b (2 ^ (k % 64)) hou.2.1 hp
      have oc := u64_or_nat q.c (2 ^ (k % 64)) hou.2.2.1 hp
      have od := u64_or_nat q.d (2 ^ (k % 64)) hou.2.2.2 hp
      have t1 : (k : Int).tmod 64 = ((k % 64 : Nat) : Int) := by rw [Int.tmod_eq_emod_of_nonneg (by omega)]; rfl
      generalize hP : (2 ^ (k % 64) : Nat) = p at *
      have HP := hide hP
      clear hP
      rcases hd with rfl | rfl | rfl | rfl
      all_goals
        have t0 : (k : Int).tdiv 64 = _ := (Int.tdiv_eq_ediv_of_nonneg (by omega)).trans (show (k : Int) / 64 = ((k / 64 : Nat) : Int) from rfl)
        rw [hj] at t0
        have wq : IntKind.i64.wrap ((k : Int).tdiv 64) = (k : Int).tdiv 64 := by rw [t0]; rfl
        have wr' : IntKind.i64.wrap ((k : Int).tmod 64) = (k : Int).tmod 64 := by rw [t1, IntKind.wrap_i64]; omega
        go_wp2
        go_region
        go_wp2
        go_roundw
        case rel =>
          refine ⟨k + 1, by omega, by omega, by go_num, (hB.setCell (p := ⟨w.heap.size + 1, _, none⟩) (Nat.le_succ _) _).drew, (hR.elsewhere (by omega) _ _).drew, ?_⟩
          rw [HSN.out]
          first
            | (rw [or_one0 _ _ hj, HP.out]; exact (hX.put0 _).drew)
            | (rw [or_one1 _ _ hj, HP.out]; exact (hX.put1 _).drew)
            | (rw [or_one2 _ _ hj, HP.out]; exact (hX.put2 _).drew)
            | (rw [or_one3 _ _ hj, HP.out]; exact (hX.put3 _).drew)
        case measure => simp [intOf]; omega
    · obtain ⟨r0, r1, r2, r3⟩ := hR.cells
      have frR := hR.free
      go_wp2
      have hfin : upQ lo.toNat k = upQ lo.toNat (hi.toNat + 1) := by
        rcases hk2 with h | h
        · rw [show k = hi.toNat + 1 by omega]
        · by_cases hh : k = hi.toNat + 1
          · rw [hh]
          · rw [up_nil _ _ (by omega), up_nil _ _ (by omega)]
      have hb' := below_put (b := w.heap.size) hB (Nat.le_refl _) (upQ lo.toNat k)
      obtain ⟨z0, z1, z2, z3⟩ := (hR.store (upQ lo.toNat k)).cells
      refine bodyPost_ret (v := qv (upQ lo.toNat k)) ?_ rfl ⟨by rw [hfin], hb'⟩
      simp [results, Tryd.results49, go_sem, qv, z0, z1, z2, z3]
end Go.Proofs.YtjbnofljoijnmaaDoorC

/-
  WALKS: chars.Of; the reference's In.
-/
namespace Go.Proofs.YtjbnofljoijnmaaDoorC
open Go.RowKit

theorem take_snoc (s : ByteArray) (k : Nat) (h : k < s.size) : s.data.toList.take (k + 1) = s.data.toList.take k ++ [s[k]] := by
  rw [List.take_succ_eq_append_getElem (by simpa using h)]; rfl

/-- a byte is in a text -/
def inB (l : List UInt8) (n : Nat) : Bool := l.any fun c => decide (n = c.toNat)
theorem in_snoc (l : List UInt8) (c : UInt8) (n : Nat) : inB (l ++ [c]) n = (inB l n || decide (n = c.toNat)) := by unfold inB; simp
theorem in_more (l : List UInt8) (k n : Nat) (h : inB (l.take k) n = true) : inB l n = true := by
  unfold inB at *
  rw [List.any_eq_true] at *
  obtain ⟨x, hx, hc⟩ := h
  exact ⟨x, List.mem_of_mem_take hx, hc⟩

end Go.Proofs.YtjbnofljoijnmaaDoorC

/-
  WALKS: the reference's List.
-/
namespace Go.Proofs.YtjbnofljoijnmaaDoorC
open Go.RowKit

/-- a set in four cells -/
def Cells4 (W : World) (b : Nat) (q : Q) : Prop := W.cell? ⟨b, 0, none⟩ = some (.int .u64 q.a) ∧ W.cell? ⟨b, 1, none⟩ = some (.int .u64 q.b) ∧ W.cell? ⟨b, 2, none⟩ = some (.int .u64 q.c) ∧ W.cell? ⟨b, 3, none⟩ = some (.int .u64 q.d)
theorem Cells4.below {W W' : World} {b n : Nat} {q : Q} (h : Cells4 W b q) (hb : Below n W W') (hn : b < n) : Cells4 W' b q := by
  obtain ⟨h0, h1, h2, h3⟩ := h
  exact ⟨(hb.cell (p := ⟨b, 0, none⟩) hn).trans h0, (hb.cell (p := ⟨b, 1, none⟩) hn).trans h1, (hb.cell (p := ⟨b, 2, none⟩) hn).trans h2, (hb.cell (p := ⟨b, 3, none⟩) hn).trans h3⟩
theorem Cells4.of {W : World} {b : Nat} {q : Q} {t : TypeId} (h : W.heap[b]? = some (.cells #[.int .u64 q.a, .int .u64 q.b, .int .u64 q.c, .int .u64 q.d] t (0, 0))) : Cells4 W b q := by
  unfold Cells4
  simp [World.cell?, h]
theorem Cells4.made (W : World) (q : Q) (t : TypeId) : Cells4 (W.alloc (.cells #[.int .u64 q.a, .int .u64 q.b, .int .u64 q.c, .int .u64 q.d] t)) W.heap.size q := by
  apply Cells4.of (t := t)
  show (W.heap.push _)[W.heap.size]? = _
  simp

theorem info5 : (Tryd.prog.info? 5).map (fun i => (i.zero, i.size, i.bytes)) = some (some (.int .u8 0), 1, 1) := by kernel_rfl

/-- a text's bytes as cells -/
def cellsU (l : List UInt8) : List Value := l.map fun b => .int .u8 (b.toNat : Int)
theorem cellsU_len (l : List UInt8) : (cellsU l).length = l.length := by simp [cellsU]
theorem cellsU_snoc (l : List UInt8) (k : Nat) (h : k < 256) : cellsU (l ++ [k.toUInt8]) = cellsU l ++ [.int .u8 (k : Int)] := by
  unfold cellsU
  rw [List.map_append]
  simp
  omega

theorem own_later {W w1 : World} {base : Nat} {v : Value} {n : Nat} {xs : List Value} {t : TypeId} (h : W.ownsRow base t 1 v n xs) (b : Below W.heap.size W w1) : w1.ownsRow base t 1 v n xs := by
  refine ⟨h.1, ?_⟩
  rcases h.2 with k | ⟨g, cap, cur, e1, e2, e3, e4⟩
  · exact .inl k
  · exact .inr ⟨g, cap, cur, e1, e2, (b.block g (lt_of_block e3)).trans e3, e4⟩
theorem below_own {B n : Nat} {w W w1 : World} {v : Value} {m : Nat} {xs : List Value} {o : Obj} {t : TypeId} (hB : Below B w W) (hn : B ≤ n) (hw : B ≤ W.heap.size) (hown : W.ownsRow n t 1 v m xs) (hg : (W.alloc o).grownBy w1 v.ownBlock) : Below B w w1 :=
  (hB.alloc hw o).grown hg (by simp; omega) (fun k hk => Nat.le_trans hn (hown.lt k hk).1)

theorem nil_conv (W : World) : (convert 42 9 (.slice none 0 0)).run Tryd.prog W = .ok (.string ⟨#[]⟩) W := by kernel_rfl
/-- a slice of bytes as a text -/
theorem own_conv {W : World} {base : Nat} {v : Value} {l : List UInt8} (h : W.ownsRow base 5 1 v l.length (cellsU l)) : (convert 42 9 v).run Tryd.prog W = .ok (.string ⟨l.toArray⟩) W := by
  rcases h.2 with ⟨hv, hn⟩ | ⟨g, cap, cur, hv, _, e3, e4, e5, e6, e7⟩
  · have : l = [] := List.eq_nil_of_length_eq_zero hn
    rw [hv, this]
    exact nil_conv W
  · rw [hv]
    refine run_convert_bytes_back W 42 9 5 ⟨g, 0, none⟩ cap l Tryd.underlying42 Tryd.underlying5 Tryd.underlying9 ?_
    intro j hj
    have hc : (⟨g, 0, none⟩ : Addr).add j = ⟨g, j, none⟩ := by simp [Addr.add]; omega
    rw [hc]
    have h1 : cur.toList[j]? = some (.int .u8 (l[j].toNat : Int)) := by
      have : (cur.toList.take (l.length * 1))[j]? = (cellsU l)[j]? := by rw [e7]
      rw [List.getElem?_take, if_pos (by omega)] at this
      rw [this]
      simp [cellsU, hj]
    simp [World.cell?, e3]
    simpa using h1

theorem has_is (q : Q) (c : Int) (b : Bool) (w : World) (hq : q.ok) (h0 : 0 ≤ c) (h1 : c ≤ 255) (h : q.has c.toNat = b) :
    Calls Tryd.prog 36 #[qv q, .int .u8 c] w fun e w' => e = .returned (.bool b) ∧ Below w.heap.size w w' := by
  subst h; exact has_any q c w hq h0 h1

end Go.Proofs.YtjbnofljoijnmaaDoorC

/-
  WALKS: chars.List; two sets compared.
-/
namespace Go.Proofs.YtjbnofljoijnmaaDoorC
open Go.RowKit

theorem eq25 (a b c d a' b' c' d' : Int) (w : World) : (Op.equalIn 10000 73 (.agg #[.int .u64 a, .int .u64 b, .int .u64 c, .int .u64 d]) (.agg #[.int .u64 a', .int .u64 b', .int .u64 c', .int .u64 d'])).run Tryd.prog w = .ok (a == a' && b == b' && c == c' && d == d') w := by
  have u3 := Tryd.underlying71
  have a3 := Tryd.isAgg71
  have z3 := Tryd.sizeOf71
  rw [show (10000 : Nat) = 9999 + 1 from rfl, Op.equalIn]
  simp only [Sem.run_bind, run_underlying Tryd.underlying73, Result.andThen_ok]
  simp only [Std.Legacy.Range.forIn_eq_forIn_range', Std.Legacy.Range.size, Nat.sub_zero, Nat.add_sub_cancel, Nat.div_one, List.range'_succ, List.range'_zero, List.forIn_cons, List.forIn_nil]
  go_simp
  by_cases h1 : a = a' <;> by_cases h2 : b = b' <;> by_cases h3 : c = c' <;> by_cases h4 : d = d' <;> simp [h1, h2, h3, h4]
theorem beq_nat (x y : Nat) : ((x : Int) == (y : Int)) = (x == y) := by
  rw [Bool.eq_iff_iff]; simp; omega
theorem four_eq (q r : Q) : ((q.a : Int) == r.a && (q.b : Int) == r.b && (q.c : Int) == r.c && (q.d : Int) == r.d) = eqQ q r := by
  rw [beq_nat, beq_nat, beq_nat, beq_nat]
  rfl
theorem eqv (q r : Q) (w : World) : (Op.equalIn 10000 73 (.agg #[.int .u64 q.a, .int .u64 q.b, .int .u64 q.c, .int .u64 q.d]) (.agg #[.int .u64 r.a, .int .u64 r.b, .int .u64 r.c, .int .u64 r.d])).run Tryd.prog w = .ok (eqQ q r) w := by
  rw [eq25, four_eq]
theorem eqz (q : Q) (w : World) : (Op.equalIn 10000 73 (.agg #[.int .u64 q.a, .int .u64 q.b, .int .u64 q.c, .int .u64 q.d]) (.agg #[.int .u64 0, .int .u64 0, .int .u64 0, .int .u64 0])).run Tryd.prog w = .ok (eqQ q zeroQ) w := eqv q zeroQ w
theorem build25 (w : World) : (Instr.build 73 #[]).run Tryd.prog w = .ok (.agg #[.int .u64 0, .int .u64 0, .int .u64 0, .int .u64 0]) w := by kernel_rfl

theorem guard25 : Tryd.prog.eqGuardType Tryd.prog.depth 73 = false := by kernel_rfl
theorem own_put {W : World} {base : Nat} {v : Value} {n : Nat} {xs : List Value} {t : TypeId} {b : Nat} (h : W.ownsRow base t 1 v n xs) (hb : b < base) (r : Q) : (put4 W b r).ownsRow base t 1 v n xs :=
  ownsRow_setCell_below (ownsRow_setCell_below (ownsRow_setCell_below (ownsRow_setCell_below h (a := ⟨b, 0, none⟩) hb _) (a := ⟨b, 1, none⟩) hb _) (a := ⟨b, 2, none⟩) hb _) (a := ⟨b, 3, none⟩) hb _
theorem own_two {W w1 w2 : World} {base : Nat} {v : Value} {n : Nat} {xs : List Value} {t : TypeId} (h : W.ownsRow base t 1 v n xs) (b1 : Below W.drew.heap.size W.drew w1) (b2 : Below w1.heap.size w1 w2) : w2.ownsRow base t 1 v n xs :=
  own_later (own_later (W := W.drew) h b1) b2
theorem next_u8 (k : Nat) : IntKind.u8.wrap ((k : Int) + 1) = (((k + 1) % 256 : Nat) : Int) := by
  simp [IntKind.wrap, IntKind.bits, IntKind.signed]

end Go.Proofs.YtjbnofljoijnmaaDoorC

/-
  WALKS: the classes of chars.
-/
namespace Go.Proofs.YtjbnofljoijnmaaDoorC
open Go.RowKit

def digitQ : Q := upQ 48 58
def alphaQ : Q := orQ (upQ 65 91) (upQ 97 123)
def hexQ : Q := orQ (orQ digitQ (upQ 65 71)) (upQ 97 103)
def wordQ : Q := orQ (orQ alphaQ digitQ) (oneQ 95)
def unmarks : List UInt8 := [45, 46, 95, 126]
def remarks : List UInt8 := [58, 47, 63, 35, 91, 93, 64, 33, 36, 38, 39, 40, 41, 42, 43, 44, 59, 61]
def nomarks : List UInt8 := [34, 39, 37, 60, 62, 92, 94, 96, 123, 124, 125]
def unresQ : Q := orQ (orQ alphaQ digitQ) (ofQ unmarks)
def resQ : Q := ofQ remarks
def litQ : Q := minusQ (upQ 33 127) (ofQ nomarks)
theorem digit_ok : digitQ.ok := up_ok _ _
theorem alpha_ok : alphaQ.ok := or_ok (up_ok _ _) (up_ok _ _)
theorem hex_ok : hexQ.ok := or_ok (or_ok digit_ok (up_ok _ _)) (up_ok _ _)
theorem word_ok : wordQ.ok := or_ok (or_ok alpha_ok digit_ok) (one_ok _)
theorem unres_ok : unresQ.ok := or_ok (or_ok alpha_ok digit_ok) (of_ok _)
theorem res_ok : resQ.ok := of_ok _
theorem lit_ok : litQ.ok := minus_ok (up_ok _ _)

theorem range_is (lo hi : Int) (q : Q) (w : World) (h0 : 0 ≤ lo) (h1 : lo ≤ 255) (h2 : 0 ≤ hi) (h3 : hi ≤ 255) (hq : upQ lo.toNat (hi.toNat + 1) = q) :
    Calls Tryd.prog 49 #[.int .u8 lo, .int .u8 hi] w fun e w' => e = .returned (qv q) ∧ Below w.heap.size w w' := by
  subst hq; exact range_any lo hi w h0 h1 h2 h3
theorem one_is (c : Int) (n : Nat) (w : World) (h0 : 0 ≤ c) (h1 : c ≤ 255) (h : c.toNat = n) : Calls Tryd.prog 62 #[.int .u8 c] w fun e w' => e = .returned (qv (oneQ n)) ∧ Below w.heap.size w w' := by
  subst h; exact one_any c w h0 h1
theorem union2_is (q r s : Q) (w : World) (hq : q.ok) (hr : r.ok) (h : orQ q r = s) :
    Calls Tryd.prog 61 #[.slice (some ⟨w.heap.size, 0, none⟩) 2 2] (w.alloc (.cells #[.int .u64 q.a, .int .u64 q.b, .int .u64 q.c, .int .u64 q.d, .int .u64 r.a, .int .u64 r.b, .int .u64 r.c, .int .u64 r.d] 73)) fun e w' => e = .returned (qv s) ∧ Below w.heap.size w w' := by
  subst h; exact union2 q r w hq hr
theorem union3_is (q r t s : Q) (w : World) (hq : q.ok) (hr : r.ok) (ht : t.ok) (h : orQ (orQ q r) t = s) :
    Calls Tryd.prog 61 #[.slice (some ⟨w.heap.size, 0, none⟩) 3 3] (w.alloc (.cells #[.int .u64 q.a, .int .u64 q.b, .int .u64 q.c, .int .u64 q.d, .int .u64 r.a, .int .u64 r.b, .int .u64 r.c, .int .u64 r.d, .int .u64 t.a, .int .u64 t.b, .int .u64 t.c, .int .u64 t.d] 73)) fun e w' => e = .returned (qv s) ∧ Below w.heap.size w w' := by
  subst h; exact union3 q r t w hq hr ht
theorem box_new (w : World) : Box (w.alloc (.cells #[.int .u64 0, .int .u64 0, .int .u64 0, .int .u64 0] 73)) w.heap.size zeroQ := Box.made w zeroQ
theorem below_new (w : World) (o : Obj) : Below w.heap.size w (w.alloc o) := (Below.refl _ _).alloc (Nat.le_refl _) _

set_option maxHeartbeats 1000000 in
theorem digit_any (w : World) :
    Calls Tryd.prog 92 #[] w fun e w' => e = .returned (qv digitQ) ∧ Below w.heap.size w w' := by
  have R := box_new w
  have B := below_new w (.cells #[.int .u64 0, .int .u64 0, .int .u64 0, .int .u64 0] 73)
  go_enter Tryd.func92, Tryd.ntmps92
  go_wp2_with (first | (go_at_call 49; refine (range_is 48 57 digitQ _ (by decide) (by decide) (by decide) (by decide) rfl).mono ?_; rintro e w1 ⟨rfl, bb⟩; replace R : Box w1 _ _ := R.below bb R.lt; replace B := B.trans (bb.mono B.size); obtain ⟨r0, r1, r2, r3⟩ := R.cells; have fr := R.free; clear bb; simp only [qv]))
  have hb := below_put (b := w.heap.size) B (Nat.le_refl _) digitQ
  obtain ⟨z0, z1, z2, z3⟩ := (R.store digitQ).cells
  refine bodyPost_ret (v := qv digitQ) ?_ rfl ⟨rfl, hb⟩
  first | simp [results, Tryd.results92, go_sem, qv, z0, z1, z2, z3] | (simp [results, Tryd.results92, go_sem, qv]; exact ⟨z0, z1, z2, z3⟩)

set_option maxHeartbeats 1000000 in
theorem alpha_any (w : World) :
    Calls Tryd.prog 91 #[] w fun e w' => e = .returned (qv alphaQ) ∧ Below w.heap.size w w' := by
  have R := box_new w
  have B := below_new w (.cells #[.int .u64 0, .int .u64 0, .int .u64 0, .int .u64 0] 73)
  go_enter Tryd.func91, Tryd.ntmps91
  go_wp2_with (first | (go_at_call_of 49 (Value.int IntKind.u8 65); refine (range_is 65 90 (upQ 65 91) _ (by decide) (by decide) (by decide) (by decide) rfl).mono ?_; rintro e w1 ⟨rfl, bb⟩; replace R : Box w1 _ _ := R.below bb R.lt; replace B := B.trans (bb.mono B.size); obtain ⟨r0, r1, r2, r3⟩ := R.cells; have fr := R.free; clear bb; simp only [qv]) | (go_at_call_of 49 (Value.int IntKind.u8 97); refine (range_is 97 122 (upQ 97 123) _ (by decide) (by decide) (by decide) (by decide) rfl).mono ?_; rintro e w1 ⟨rfl, bb⟩; replace R : Box w1 _ _ := R.below bb R.lt; replace B := B.trans (bb.mono B.size); obtain ⟨r0, r1, r2, r3⟩ := R.cells; have fr := R.free; clear bb; simp only [qv]) | (go_at_call 61; refine (union2_is (upQ 65 91) (upQ 97 123) alphaQ _ (up_ok _ _) (up_ok _ _) rfl).mono ?_; rintro e w1 ⟨rfl, bb⟩; replace R : Box w1 _ _ := R.below bb R.lt; replace B := B.trans (bb.mono B.size); obtain ⟨r0, r1, r2, r3⟩ := R.cells; have fr := R.free; clear bb; simp only [qv]))
  have hb := below_put (b := w.heap.size) B (Nat.le_refl _) alphaQ
  obtain ⟨z0, z1, z2, z3⟩ := (R.store alphaQ).cells
  refine bodyPost_ret (v := qv alphaQ) ?_ rfl ⟨rfl, hb⟩
  first | simp [results, Tryd.results91, go_sem, qv, z0, z1, z2, z3] | (simp [results, Tryd.results91, go_sem, qv]; exact ⟨z0, z1, z2, z3⟩)

set_option maxHeartbeats 1000000 in
theorem word_any (w : World) :
    Calls Tryd.prog 78 #[] w fun e w' => e = .returned (qv wordQ) ∧ Below w.heap.size w w' := by
  have R := box_new w
  have B := below_new w (.cells #[.int .u64 0, .int .u64 0, .int .u64 0, .int .u64 0] 73)
  go_enter Tryd.func78, Tryd.ntmps78
  go_wp2_with (first | (go_at_call 91; refine (alpha_any _).mono ?_; rintro e w1 ⟨rfl, bb⟩; replace R : Box w1 _ _ := R.below bb R.lt; replace B := B.trans (bb.mono B.size); obtain ⟨r0, r1, r2, r3⟩ := R.cells; have fr := R.free; clear bb; simp only [qv]) | (go_at_call 92; refine (digit_any _).mono ?_; rintro e w1 ⟨rfl, bb⟩; replace R : Box w1 _ _ := R.below bb R.lt; replace B := B.trans (bb.mono B.size); obtain ⟨r0, r1, r2, r3⟩ := R.cells; have fr := R.free; clear bb; simp only [qv]) | (go_at_call 62; refine (one_is 95 95 _ (by decide) (by decide) rfl).mono ?_; rintro e w1 ⟨rfl, bb⟩; replace R : Box w1 _ _ := R.below bb R.lt; replace B := B.trans (bb.mono B.size); obtain ⟨r0, r1, r2, r3⟩ := R.cells; have fr := R.free; clear bb; simp only [qv]) | (go_at_call 61; refine (union3_is alphaQ digitQ (oneQ 95) wordQ _ alpha_ok digit_ok (one_ok _) rfl).mono ?_; rintro e w1 ⟨rfl, bb⟩; replace R : Box w1 _ _ := R.below bb R.lt; replace B := B.trans (bb.mono B.size); obtain ⟨r0, r1, r2, r3⟩ := R.cells; have fr := R.free; clear bb; simp only [qv]))
  have hb := below_put (b := w.heap.size) B (Nat.le_refl _) wordQ
  obtain ⟨z0, z1, z2, z3⟩ := (R.store wordQ).cells
  refine bodyPost_ret (v := qv wordQ) ?_ rfl ⟨rfl, hb⟩
  first | simp [results, Tryd.results78, go_sem, qv, z0, z1, z2, z3] | (simp [results, Tryd.results78, go_sem, qv]; exact ⟨z0, z1, z2, z3⟩)

end Go.Proofs.YtjbnofljoijnmaaDoorC

/-
  WALKS: chars.Of, Minus, Literal.
-/
namespace Go.Proofs.YtjbnofljoijnmaaDoorC
open Go.RowKit

set_option maxHeartbeats 1000000 in
theorem minus_any (q r : Q) (w : World) (hq : q.ok) (hr : r.ok) :
    Calls Tryd.prog 48 #[qv q, qv r] w fun e w' => e = .returned (qv (minusQ q r)) ∧ Below w.heap.size w w' := by
  obtain ⟨a, b, cc, d⟩ := q
  obtain ⟨g0, g1, g2, g3⟩ := hq
  simp only at g0 g1 g2 g3
  obtain ⟨a', b', cc', d'⟩ := r
  obtain ⟨k0, k1, k2, k3⟩ := hr
  simp only at k0 k1 k2 k3
  have i0 := idx0 a' b' cc' d'
  have i1 := idx1 a' b' cc' d'
  have i2 := idx2 a' b' cc' d'
  have i3 := idx3 a' b' cc' d'
  unfold qv
  go_enter Tryd.func48, Tryd.ntmps48
  go_wp2
  refine wp_loop_rounds 5 ?_
  rw [rounds_succ]; go_wp2
  rw [rounds_succ]; go_wp2
  rw [rounds_succ]; go_wp2
  rw [rounds_succ]; go_wp2
  rw [rounds_succ]; go_wp2
  refine bodyPost_ret (v := qv (minusQ ⟨a, b, cc, d⟩ ⟨a', b', cc', d'⟩)) ?_ rfl ⟨rfl, ?_⟩
  · simp [results, Tryd.results48, go_sem, qv, minusQ]
    exact ⟨u64_andNot_nat a a' g0 k0, u64_andNot_nat b b' g1 k1, u64_andNot_nat cc cc' g2 k2, u64_andNot_nat d d' g3 k3⟩
  · exact (((Below.refl _ _).alloc (Nat.le_refl _) _).alloc (by simp) _).alloc (by simp; omega) _

set_option maxHeartbeats 1000000 in
theorem of_any (s : ByteArray) (w : World) (hs : s.size ≤ maxLen) :
    Calls Tryd.prog 50 #[.string s] w fun e w' => e = .returned (qv (ofQ s.data.toList)) ∧ Below w.heap.size w w' := by
  unfold maxLen at hs
  go_enter Tryd.func50, Tryd.ntmps50
  go_wp2
  go_loopw [7] (fun i wr => ∃ k : Nat, k ≤ s.size ∧ i = .int .i64 k ∧ Below w.heap.size w wr ∧ Box wr w.heap.size zeroQ ∧ Box wr (w.heap.size + 1) (ofQ (s.data.toList.take k))) (fun i _ => s.size - (intOf i).toNat)
  case atStart =>
    refine ⟨0, Nat.zero_le _, rfl, ((Below.refl _ _).alloc (Nat.le_refl _) _).alloc (by simp) _, ?_, ?_⟩
    · exact (Box.made w zeroQ).later _
    · have := Box.made (w.alloc (.cells #[.int .u64 0, .int .u64 0, .int .u64 0, .int .u64 0] 73)) zeroQ
      simpa [zeroQ, ofQ] using this
  case round =>
    obtain ⟨k, hk1, rfl, hB, hR, hX⟩ := hrel
    obtain ⟨c0, c1, c2, c3⟩ := hX.cells
    have fr := hX.free
    have hsz := hX.lt
    by_cases hlt : k < s.size
    · have hlti : (k : Int) < (s.size : Int) := by omega
      have hts := take_snoc s k hlt
      have hu := UInt8.toNat_lt s[k]
      have hk0 : (0 : Int) ≤ s[k].toNat := by omega
      have hk5 : (s[k].toNat : Int) ≤ 255 := by omega
      have hou := of_ok (s.data.toList.take k)
      have hoo := one_ok (s[k].toNat : Int).toNat
      have Hts := hide hts
      clear hts
      go_wp2
      go_region_with (first | (go_at_call 62; refine (one_any _ _ hk0 hk5).mono ?_; rintro e w1 ⟨rfl, b1⟩; simp only [qv]; have X1 : Box w1 _ _ := (b1.block _ hsz).trans hX; have R1 : Box w1 _ _ := (b1.block _ hR.lt).trans hR; obtain ⟨d0, d1, d2, d3⟩ := X1.cells; have fr1 := X1.free) | (go_at_call 61; refine (union2 _ _ _ hou hoo).mono ?_; rintro e w2 ⟨rfl, b2⟩; simp only [qv]; have X2 : Box w2 _ _ := (b2.block _ X1.lt).trans X1; have R2 : Box w2 _ _ := (b2.block _ R1.lt).trans R1; obtain ⟨m0, m1, m2, m3⟩ := X2.cells; have fr2 := X2.free))
      all_goals
        go_wp2
        have hb := below_two hB (by omega) b1 b2
        have hx := (X2.store (orQ (ofQ (s.data.toList.take k)) (oneQ (s[k].toNat : Int).toNat)))
        have hr := R2.other (k := w.heap.size + 1) (by omega) (orQ (ofQ (s.data.toList.take k)) (oneQ (s[k].toNat : Int).toNat))
        have hb' := below_put (b := w.heap.size + 1) hb (by omega) (orQ (ofQ (s.data.toList.take k)) (oneQ (s[k].toNat : Int).toNat))
        go_roundw
        case rel => exact ⟨k + 1, by omega, by go_num, hb', hr, by rw [Hts.out, of_snoc]; exact hx⟩
        case measure => simp [intOf]; omega
    · obtain ⟨r0, r1, r2, r3⟩ := hR.cells
      have frR := hR.free
      have he : s.data.toList.take k = s.data.toList := List.take_of_length_le (by simp; omega)
      have He := hide he
      clear he
      go_wp2
      have hb' := below_put (b := w.heap.size) hB (Nat.le_refl _) (ofQ (s.data.toList.take k))
      obtain ⟨z0, z1, z2, z3⟩ := (hR.store (ofQ (s.data.toList.take k))).cells
      refine bodyPost_ret (v := qv (ofQ (s.data.toList.take k))) ?_ rfl ⟨by rw [He.out], hb'⟩
      simp [results, Tryd.results50, go_sem, qv, z0, z1, z2, z3]


theorem of_is (l : List UInt8) (q : Q) (a : Array UInt8) (w : World) (hl : a.toList = l) (hq : ofQ l = q) (hs : a.size ≤ 2000) :
    Calls Tryd.prog 50 #[.string ⟨a⟩] w fun e w' => e = .returned (qv q) ∧ Below w.heap.size w w' := by
  subst hl hq; exact of_any ⟨a⟩ w (by show a.size ≤ _; unfold maxLen; omega)
theorem minus_is (q r s : Q) (w : World) (hq : q.ok) (hr : r.ok) (h : minusQ q r = s) :
    Calls Tryd.prog 48 #[qv q, qv r] w fun e w' => e = .returned (qv s) ∧ Below w.heap.size w w' := by
  subst h; exact minus_any q r w hq hr
set_option maxHeartbeats 1000000 in
theorem lit_any (w : World) :
    Calls Tryd.prog 35 #[] w fun e w' => e = .returned (qv litQ) ∧ Below w.heap.size w w' := by
  have R := box_new w
  have B := below_new w (.cells #[.int .u64 0, .int .u64 0, .int .u64 0, .int .u64 0] 73)
  go_enter Tryd.func35, Tryd.ntmps35
  go_wp2_with (first | (go_at_call 49; refine (range_is 33 126 (upQ 33 127) _ (by decide) (by decide) (by decide) (by decide) rfl).mono ?_; rintro e w1 ⟨rfl, bb⟩; replace R : Box w1 _ _ := R.below bb R.lt; replace B := B.trans (bb.mono B.size); obtain ⟨r0, r1, r2, r3⟩ := R.cells; have fr := R.free; clear bb; simp only [qv]) | (go_at_call 50; refine (of_is nomarks (ofQ nomarks) _ _ rfl rfl (by decide)).mono ?_; rintro e w1 ⟨rfl, bb⟩; replace R : Box w1 _ _ := R.below bb R.lt; replace B := B.trans (bb.mono B.size); obtain ⟨r0, r1, r2, r3⟩ := R.cells; have fr := R.free; clear bb; simp only [qv]) | (go_at_call 48; refine (minus_is (upQ 33 127) (ofQ nomarks) litQ _ (up_ok _ _) (of_ok _) rfl).mono ?_; rintro e w1 ⟨rfl, bb⟩; replace R : Box w1 _ _ := R.below bb R.lt; replace B := B.trans (bb.mono B.size); obtain ⟨r0, r1, r2, r3⟩ := R.cells; have fr := R.free; clear bb; simp only [qv]))
  have hb := below_put (b := w.heap.size) B (Nat.le_refl _) litQ
  obtain ⟨z0, z1, z2, z3⟩ := (R.store litQ).cells
  refine bodyPost_ret (v := qv litQ) ?_ rfl ⟨rfl, hb⟩
  first | simp [results, Tryd.results35, go_sem, qv, z0, z1, z2, z3] | (simp [results, Tryd.results35, go_sem, qv]; exact ⟨z0, z1, z2, z3⟩)

end Go.Proofs.YtjbnofljoijnmaaDoorC
