/-
  WALKS: chars.List; two sets compared.
-/
import Derived.Test.YtcglkekilaokaaaDoorCW6
import Derived.Laws.StructEq
import Derived.Deep.LoopGhost
namespace Go.Proofs.YtcglkekilaokaaaDoorC
open Go.RowKit

theorem eq25 (a b c d a' b' c' d' : Int) (w : World) : (Op.equalIn 10000 62 (.agg #[.int .u64 a, .int .u64 b, .int .u64 c, .int .u64 d]) (.agg #[.int .u64 a', .int .u64 b', .int .u64 c', .int .u64 d'])).run Tryd.prog w = .ok (a == a' && b == b' && c == c' && d == d') w := by
  have u3 := Tryd.underlying60
  have a3 := Tryd.isAgg60
  have z3 := Tryd.sizeOf60
  rw [show (10000 : Nat) = 9999 + 1 from rfl, Op.equalIn]
  simp only [Sem.run_bind, run_underlying Tryd.underlying62, Result.andThen_ok]
  simp only [Std.Legacy.Range.forIn_eq_forIn_range', Std.Legacy.Range.size, Nat.sub_zero, Nat.add_sub_cancel, Nat.div_one, List.range'_succ, List.range'_zero, List.forIn_cons, List.forIn_nil]
  go_simp
  by_cases h1 : a = a' <;> by_cases h2 : b = b' <;> by_cases h3 : c = c' <;> by_cases h4 : d = d' <;> simp [h1, h2, h3, h4]
theorem beq_nat (x y : Nat) : ((x : Int) == (y : Int)) = (x == y) := by
  rw [Bool.eq_iff_iff]; simp; omega
theorem four_eq (q r : Q) : ((q.a : Int) == r.a && (q.b : Int) == r.b && (q.c : Int) == r.c && (q.d : Int) == r.d) = eqQ q r := by
  rw [beq_nat, beq_nat, beq_nat, beq_nat]
  rfl
theorem eqv (q r : Q) (w : World) : (Op.equalIn 10000 62 (.agg #[.int .u64 q.a, .int .u64 q.b, .int .u64 q.c, .int .u64 q.d]) (.agg #[.int .u64 r.a, .int .u64 r.b, .int .u64 r.c, .int .u64 r.d])).run Tryd.prog w = .ok (eqQ q r) w := by
  rw [eq25, four_eq]
theorem eqz (q : Q) (w : World) : (Op.equalIn 10000 62 (.agg #[.int .u64 q.a, .int .u64 q.b, .int .u64 q.c, .int .u64 q.d]) (.agg #[.int .u64 0, .int .u64 0, .int .u64 0, .int .u64 0])).run Tryd.prog w = .ok (eqQ q zeroQ) w := eqv q zeroQ w
theorem build25 (w : World) : (Instr.build 62 #[]).run Tryd.prog w = .ok (.agg #[.int .u64 0, .int .u64 0, .int .u64 0, .int .u64 0]) w := by kernel_rfl

theorem guard25 : Tryd.prog.eqGuardType Tryd.prog.depth 62 = false := by kernel_rfl
theorem own_put {W : World} {base : Nat} {v : Value} {n : Nat} {xs : List Value} {t : TypeId} {b : Nat} (h : W.ownsRow base t 1 v n xs) (hb : b < base) (r : Q) : (put4 W b r).ownsRow base t 1 v n xs :=
  ownsRow_setCell_below (ownsRow_setCell_below (ownsRow_setCell_below (ownsRow_setCell_below h (a := ⟨b, 0, none⟩) hb _) (a := ⟨b, 1, none⟩) hb _) (a := ⟨b, 2, none⟩) hb _) (a := ⟨b, 3, none⟩) hb _
theorem own_two {W w1 w2 : World} {base : Nat} {v : Value} {n : Nat} {xs : List Value} {t : TypeId} (h : W.ownsRow base t 1 v n xs) (b1 : Below W.drew.heap.size W.drew w1) (b2 : Below w1.heap.size w1 w2) : w2.ownsRow base t 1 v n xs :=
  own_later (own_later (W := W.drew) h b1) b2
theorem next_u8 (k : Nat) : IntKind.u8.wrap ((k : Int) + 1) = (((k + 1) % 256 : Nat) : Int) := by
  simp [IntKind.wrap, IntKind.bits, IntKind.signed]

end Go.Proofs.YtcglkekilaokaaaDoorC
