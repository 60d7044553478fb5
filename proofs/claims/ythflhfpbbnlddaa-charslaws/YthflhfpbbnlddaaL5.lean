/-
  THE WALK of CharsLaws.
-/
import Derived.Test.YthflhfpbbnlddaaH
import Derived.Deep.RegionHeld3
namespace Go.Proofs.Ythflhfpbbnlddaa
open Go.RowKit

/-- the law's three sets -/
structure Triple (w W : World) (b1 b2 b3 : Nat) (q r s : Q) : Prop where
  below : Below w.heap.size w W
  first : Hold W b1 q
  second : Hold W b2 r
  third : Hold W b3 s
theorem Triple.next {w W W' : World} {b1 b2 b3 : Nat} {q r s : Q} (h : Triple w W b1 b2 b3 q r s) (bb : Below W.heap.size W W') : Triple w W' b1 b2 b3 q r s := ⟨h.below.trans (bb.mono h.below.size), h.first.next bb, h.second.next bb, h.third.next bb⟩
theorem triple_of {w w2 : World} {b1 b2 : Nat} {q r : Q} (P : Pair w w2 b1 b2 q r) : Triple w (w2.alloc (.cells #[.int .u64 (orQ q r).a, .int .u64 (orQ q r).b, .int .u64 (orQ q r).c, .int .u64 (orQ q r).d] 25)) b1 b2 w2.heap.size q r (orQ q r) :=
  ⟨P.below.alloc P.below.size _, P.first.alloc _, P.second.alloc _, Hold.made w2 (orQ q r) 25⟩
theorem Triple.alloc {w W : World} {b1 b2 b3 : Nat} {q r s : Q} (h : Triple w W b1 b2 b3 q r s) (o : Obj) : Triple w (W.alloc o) b1 b2 b3 q r s := h.next (below_new W o)
theorem Triple.drew {w W : World} {b1 b2 b3 : Nat} {q r s : Q} (h : Triple w W b1 b2 b3 q r s) : Triple w W.drew b1 b2 b3 q r s := ⟨h.below.drew, ⟨h.first.cells, h.first.lt⟩, ⟨h.second.cells, h.second.lt⟩, ⟨h.third.cells, h.third.lt⟩⟩
theorem Triple.all {w W : World} {b1 b2 b3 : Nat} {q r s : Q} (h : Triple w W b1 b2 b3 q r s) : W.cell? ⟨b1, 0, none⟩ = some (.int .u64 q.a) ∧ W.cell? ⟨b1, 1, none⟩ = some (.int .u64 q.b) ∧ W.cell? ⟨b1, 2, none⟩ = some (.int .u64 q.c) ∧ W.cell? ⟨b1, 3, none⟩ = some (.int .u64 q.d) ∧ W.cell? ⟨b2, 0, none⟩ = some (.int .u64 r.a) ∧ W.cell? ⟨b2, 1, none⟩ = some (.int .u64 r.b) ∧ W.cell? ⟨b2, 2, none⟩ = some (.int .u64 r.c) ∧ W.cell? ⟨b2, 3, none⟩ = some (.int .u64 r.d) ∧ W.cell? ⟨b3, 0, none⟩ = some (.int .u64 s.a) ∧ W.cell? ⟨b3, 1, none⟩ = some (.int .u64 s.b) ∧ W.cell? ⟨b3, 2, none⟩ = some (.int .u64 s.c) ∧ W.cell? ⟨b3, 3, none⟩ = some (.int .u64 s.d) :=
  ⟨h.first.cells.1, h.first.cells.2.1, h.first.cells.2.2.1, h.first.cells.2.2.2, h.second.cells.1, h.second.cells.2.1, h.second.cells.2.2.1, h.second.cells.2.2.2, h.third.cells.1, h.third.cells.2.1, h.third.cells.2.2.1, h.third.cells.2.2.2⟩
theorem union2_n (q r : Q) (w : World) (n : Nat) (hq : q.ok) (hr : r.ok) (hn : n = w.heap.size) :
    Calls Try.prog 18 #[.slice (some ⟨n, 0, none⟩) 2 2] (w.alloc (.cells #[.int .u64 q.a, .int .u64 q.b, .int .u64 q.c, .int .u64 q.d, .int .u64 r.a, .int .u64 r.b, .int .u64 r.c, .int .u64 r.d] 25)) fun e w' => e = .returned (qv (orQ q r)) ∧ Below w.heap.size w w' := by
  subst hn; exact union2 q r w hq hr
theorem size_two (w : World) (o o' : Obj) : w.heap.size + 1 + 1 = ((w.alloc o).alloc o').heap.size := by simp
theorem not_is (q s : Q) (w : World) (hq : q.ok) (h : notQ q = s) : Calls Try.prog 20 #[qv q] w fun e w' => e = .returned (qv s) ∧ Below w.heap.size w w' := by
  subst h; exact not_any q w hq
theorem len_bound (q : Q) : lenQ q ≤ 256 := by
  have a := pop_le q.a
  have b := pop_le q.b
  have c := pop_le q.c
  have d := pop_le q.d
  unfold lenQ
  omega

set_option maxHeartbeats 4000000 in
theorem laws_walk (q r : Q) (w : World) (hq : q.ok) (hr : r.ok) :
    Calls Try.prog 7 #[qv q, qv r] w fun e w' => e = .returned (.bool true) ∧ Below w.heap.size w w' := by
  have hgd := guard25
  have hbd := build25
  have hz : ∀ W, (Op.equalIn 10000 25 (.agg #[.int .u64 zeroQ.a, .int .u64 zeroQ.b, .int .u64 zeroQ.c, .int .u64 zeroQ.d]) (.agg #[.int .u64 0, .int .u64 0, .int .u64 0, .int .u64 0])).run Try.prog W = .ok true W := fun W => by rw [eqz, eqQ_self]
  have he : ∀ (s : Q) W, (Op.equalIn 10000 25 (.agg #[.int .u64 s.a, .int .u64 s.b, .int .u64 s.c, .int .u64 s.d]) (.agg #[.int .u64 s.a, .int .u64 s.b, .int .u64 s.c, .int .u64 s.d])).run Try.prog W = .ok true W := fun s W => by rw [eqv, eqQ_self]
  have S1 : Hid True := trivial
  have S2 : Hid True := trivial
  have hll : (listQ q).toArray.size ≤ 2000 := by
    have := bytes_len q 256
    show (listQ q).length ≤ 2000
    unfold listQ
    omega
  have hlen := len_both q r hr
  have l1 := len_bound (orQ q r)
  have l2 := len_bound (minusQ q (notQ r))
  have l3 := len_bound q
  have l4 := len_bound r
  obtain ⟨n1, e1⟩ : ∃ n : Int, (lenQ (orQ q r) : Int) = n := ⟨_, rfl⟩
  obtain ⟨n2, e2⟩ : ∃ n : Int, (lenQ (minusQ q (notQ r)) : Int) = n := ⟨_, rfl⟩
  obtain ⟨n3, e3⟩ : ∃ n : Int, (lenQ q : Int) = n := ⟨_, rfl⟩
  obtain ⟨n4, e4⟩ : ∃ n : Int, (lenQ r : Int) = n := ⟨_, rfl⟩
  have g1 : 0 ≤ n1 ∧ n1 ≤ 256 := by omega
  have g2 : 0 ≤ n2 ∧ n2 ≤ 256 := by omega
  have g3 : 0 ≤ n3 ∧ n3 ≤ 256 := by omega
  have g4 : 0 ≤ n4 ∧ n4 ≤ 256 := by omega
  have hs : n1 + n2 = n3 + n4 := by omega
  have E1 := hide e1
  have E2 := hide e2
  have E3 := hide e3
  have E4 := hide e4
  clear e1 e2 e3 e4 l1 l2 l3 l4 hlen
  unfold qv
  go_enter Try.func7, Try.ntmps7
  go_wp2_with (first | (go_at_call 9; refine (awake_any _).mono ?_; rintro e w1 ⟨rfl, bb⟩; obtain ⟨A, R, B⟩ := hold_args w w1 q r bb; clear bb; obtain ⟨a0, a1, a2, a3⟩ := A.cells; obtain ⟨r0, r1, r2, r3⟩ := (R.alloc (.cells #[.int .u64 q.a, .int .u64 q.b, .int .u64 q.c, .int .u64 q.d] 25)).cells; obtain ⟨X, Y⟩ := hold_sets w1 q r; replace B := (B.alloc B.size (.cells #[.int .u64 q.a, .int .u64 q.b, .int .u64 q.c, .int .u64 q.d] 25)).alloc (Nat.le_trans B.size (by simp)) (.cells #[.int .u64 r.a, .int .u64 r.b, .int .u64 r.c, .int .u64 r.d] 25); have P : Pair _ _ _ _ _ _ := ⟨B, X, Y⟩; obtain ⟨x0, x1, x2, x3⟩ := X.cells; obtain ⟨y0, y1, y2, y3⟩ := Y.cells; clear B X Y A R; have HN : Hid (w1.heap.size + 1 + 1 = ((w1.alloc (.cells #[.int .u64 q.a, .int .u64 q.b, .int .u64 q.c, .int .u64 q.d] 25)).alloc (.cells #[.int .u64 r.a, .int .u64 r.b, .int .u64 r.c, .int .u64 r.d] 25)).heap.size) := size_two _ _ _) | (go_at_call 18; have z := S1; refine (union2_n q r _ _ hq hr HN.out).mono ?_; rintro e w2 ⟨rfl, bb⟩; replace P := P.next bb; clear bb z S1; have T := triple_of P; obtain ⟨x0, x1, x2, x3⟩ := T.first.cells; obtain ⟨y0, y1, y2, y3⟩ := T.second.cells; obtain ⟨z0, z1, z2, z3⟩ := T.third.cells; clear P; simp only [qv]))
  dsimp only [List.append]
  go_region_held3 (fun W => W.cell? ⟨w1.heap.size, 0, none⟩ = some (.int .u64 q.a) ∧ W.cell? ⟨w1.heap.size, 1, none⟩ = some (.int .u64 q.b) ∧ W.cell? ⟨w1.heap.size, 2, none⟩ = some (.int .u64 q.c) ∧ W.cell? ⟨w1.heap.size, 3, none⟩ = some (.int .u64 q.d) ∧ W.cell? ⟨w1.heap.size + 1, 0, none⟩ = some (.int .u64 r.a) ∧ W.cell? ⟨w1.heap.size + 1, 1, none⟩ = some (.int .u64 r.b) ∧ W.cell? ⟨w1.heap.size + 1, 2, none⟩ = some (.int .u64 r.c) ∧ W.cell? ⟨w1.heap.size + 1, 3, none⟩ = some (.int .u64 r.d) ∧ W.cell? ⟨w2.heap.size, 0, none⟩ = some (.int .u64 (orQ q r).a) ∧ W.cell? ⟨w2.heap.size, 1, none⟩ = some (.int .u64 (orQ q r).b) ∧ W.cell? ⟨w2.heap.size, 2, none⟩ = some (.int .u64 (orQ q r).c) ∧ W.cell? ⟨w2.heap.size, 3, none⟩ = some (.int .u64 (orQ q r).d)) (first | exact T.all | exact T.drew.all | exact (T.alloc _).all)
    (first | (go_at_call 18; have z := S2; refine (union2_is r q (orQ q r) _ hr hq (or_comm' r q)).mono ?_; rintro e w2 ⟨rfl, bb⟩; (first | replace T := T.next bb | replace T := T.drew.next bb); clear bb; clear S2 z; simp only [qv]) | (go_at_call 18; refine (union2_is (minusQ q r) r (orQ q r) _ (minus_ok hq) hr (minus_or q r hq hr)).mono ?_; rintro e w2 ⟨rfl, bb⟩; (first | replace T := T.next bb | replace T := T.drew.next bb); clear bb; simp only [qv]) | (go_at_call_of 20 (notQ q).a; refine (not_is (notQ q) q _ not_ok (not_not q hq)).mono ?_; rintro e w2 ⟨rfl, bb⟩; (first | replace T := T.next bb | replace T := T.drew.next bb); clear bb; simp only [qv]) | (go_at_call_of 20 (orQ q r).a; refine (not_any (orQ q r) _ (or_ok hq hr)).mono ?_; rintro e w2 ⟨rfl, bb⟩; (first | replace T := T.next bb | replace T := T.drew.next bb); clear bb; simp only [qv]) | (go_at_call_of 20 q.a; refine (not_any q _ hq).mono ?_; rintro e w2 ⟨rfl, bb⟩; (first | replace T := T.next bb | replace T := T.drew.next bb); clear bb; simp only [qv]) | (go_at_call_of 20 r.a; refine (not_any r _ hr).mono ?_; rintro e w2 ⟨rfl, bb⟩; (first | replace T := T.next bb | replace T := T.drew.next bb); clear bb; simp only [qv]) | (go_at_call_of 19 (notQ q).a; refine (minus_is (notQ q) r (notQ (orQ q r)) _ not_ok hr (not_or q r hq hr).symm).mono ?_; rintro e w2 ⟨rfl, bb⟩; (first | replace T := T.next bb | replace T := T.drew.next bb); clear bb; simp only [qv]) | (go_at_call_of 19 (notQ r).a; refine (minus_any q (notQ r) _ hq not_ok).mono ?_; rintro e w2 ⟨rfl, bb⟩; (first | replace T := T.next bb | replace T := T.drew.next bb); clear bb; simp only [qv]) | (go_at_call_of 19 r.a; refine (minus_any q r _ hq hr).mono ?_; rintro e w2 ⟨rfl, bb⟩; (first | replace T := T.next bb | replace T := T.drew.next bb); clear bb; simp only [qv]) | (go_at_call 19; refine (minus_is q q zeroQ _ hq hq (minus_self q hq)).mono ?_; rintro e w2 ⟨rfl, bb⟩; (first | replace T := T.next bb | replace T := T.drew.next bb); clear bb; simp only [qv]) | (go_at_call 13; refine (list_any q _ hq).mono ?_; rintro e w2 ⟨rfl, bb⟩; (first | replace T := T.next bb | replace T := T.drew.next bb); clear bb) | (go_at_call 15; refine (of_is (listQ q) q (listQ q).toArray _ rfl (of_list q hq) hll).mono ?_; rintro e w2 ⟨rfl, bb⟩; (first | replace T := T.next bb | replace T := T.drew.next bb); clear bb; simp only [qv]) | (go_at_call_of 14 (orQ q r).a; refine (len_is (orQ q r) n1 _ (or_ok hq hr) E1.out).mono ?_; rintro e w2 ⟨rfl, bb⟩; (first | replace T := T.next bb | replace T := T.drew.next bb); clear bb) | (go_at_call_of 14 (minusQ q (notQ r)).a; refine (len_is (minusQ q (notQ r)) n2 _ (minus_ok hq) E2.out).mono ?_; rintro e w2 ⟨rfl, bb⟩; (first | replace T := T.next bb | replace T := T.drew.next bb); clear bb) | (go_at_call_of 14 q.a; refine (len_is q n3 _ hq E3.out).mono ?_; rintro e w2 ⟨rfl, bb⟩; (first | replace T := T.next bb | replace T := T.drew.next bb); clear bb) | (go_at_call_of 14 r.a; refine (len_is r n4 _ hr E4.out).mono ?_; rintro e w2 ⟨rfl, bb⟩; (first | replace T := T.next bb | replace T := T.drew.next bb); clear bb))
  all_goals go_wp2
  all_goals
    go_ret
    exact ⟨rfl, T.below⟩
end Go.Proofs.Ythflhfpbbnlddaa
