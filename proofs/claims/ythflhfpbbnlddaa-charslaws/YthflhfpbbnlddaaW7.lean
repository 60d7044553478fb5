/-
  WALKS: chars.List; two sets compared.
-/
import Derived.Test.YthflhfpbbnlddaaW6
import Derived.Laws.StructEq
import Derived.Deep.LoopGhost
namespace Go.Proofs.Ythflhfpbbnlddaa
open Go.RowKit

theorem eq25 (a b c d a' b' c' d' : Int) (w : World) : (Op.equalIn 10000 25 (.agg #[.int .u64 a, .int .u64 b, .int .u64 c, .int .u64 d]) (.agg #[.int .u64 a', .int .u64 b', .int .u64 c', .int .u64 d'])).run Try.prog w = .ok (a == a' && b == b' && c == c' && d == d') w := by
  have u3 := Try.underlying22
  have a3 := Try.isAgg22
  have z3 := Try.sizeOf22
  rw [show (10000 : Nat) = 9999 + 1 from rfl, Op.equalIn]
  simp only [Sem.run_bind, run_underlying Try.underlying25, Result.andThen_ok]
  simp only [Std.Legacy.Range.forIn_eq_forIn_range', Std.Legacy.Range.size, Nat.sub_zero, Nat.add_sub_cancel, Nat.div_one, List.range'_succ, List.range'_zero, List.forIn_cons, List.forIn_nil]
  go_simp
  by_cases h1 : a = a' <;> by_cases h2 : b = b' <;> by_cases h3 : c = c' <;> by_cases h4 : d = d' <;> simp [h1, h2, h3, h4]
theorem beq_nat (x y : Nat) : ((x : Int) == (y : Int)) = (x == y) := by
  rw [Bool.eq_iff_iff]; simp; omega
theorem four_eq (q r : Q) : ((q.a : Int) == r.a && (q.b : Int) == r.b && (q.c : Int) == r.c && (q.d : Int) == r.d) = eqQ q r := by
  rw [beq_nat, beq_nat, beq_nat, beq_nat]
  rfl
theorem eqv (q r : Q) (w : World) : (Op.equalIn 10000 25 (.agg #[.int .u64 q.a, .int .u64 q.b, .int .u64 q.c, .int .u64 q.d]) (.agg #[.int .u64 r.a, .int .u64 r.b, .int .u64 r.c, .int .u64 r.d])).run Try.prog w = .ok (eqQ q r) w := by
  rw [eq25, four_eq]
theorem eqz (q : Q) (w : World) : (Op.equalIn 10000 25 (.agg #[.int .u64 q.a, .int .u64 q.b, .int .u64 q.c, .int .u64 q.d]) (.agg #[.int .u64 0, .int .u64 0, .int .u64 0, .int .u64 0])).run Try.prog w = .ok (eqQ q zeroQ) w := eqv q zeroQ w
theorem build25 (w : World) : (Instr.build 25 #[]).run Try.prog w = .ok (.agg #[.int .u64 0, .int .u64 0, .int .u64 0, .int .u64 0]) w := by kernel_rfl

theorem guard25 : Try.prog.eqGuardType Try.prog.depth 25 = false := by kernel_rfl
theorem own_put {W : World} {base : Nat} {v : Value} {n : Nat} {xs : List Value} {t : TypeId} {b : Nat} (h : W.ownsRow base t 1 v n xs) (hb : b < base) (r : Q) : (put4 W b r).ownsRow base t 1 v n xs :=
  ownsRow_setCell_below (ownsRow_setCell_below (ownsRow_setCell_below (ownsRow_setCell_below h (a := ⟨b, 0, none⟩) hb _) (a := ⟨b, 1, none⟩) hb _) (a := ⟨b, 2, none⟩) hb _) (a := ⟨b, 3, none⟩) hb _
theorem own_two {W w1 w2 : World} {base : Nat} {v : Value} {n : Nat} {xs : List Value} {t : TypeId} (h : W.ownsRow base t 1 v n xs) (b1 : Below W.drew.heap.size W.drew w1) (b2 : Below w1.heap.size w1 w2) : w2.ownsRow base t 1 v n xs :=
  own_later (own_later (W := W.drew) h b1) b2
theorem next_u8 (k : Nat) : IntKind.u8.wrap ((k : Int) + 1) = (((k + 1) % 256 : Nat) : Int) := by
  simp [IntKind.wrap, IntKind.bits, IntKind.signed]

set_option maxRecDepth 20000 in
set_option maxHeartbeats 2000000 in
theorem list_any (q : Q) (w : World) (hq : q.ok) :
    Calls Try.prog 13 #[qv q] w fun e w' => e = .returned (.string ⟨(listQ q).toArray⟩) ∧ Below w.heap.size w w' := by
  obtain ⟨i0, hi, hz0, hz1, hz2⟩ := info_parts info5
  unfold qv
  have hbd := build25
  have hgd := guard25
  go_enter Try.func13, Try.ntmps13
  go_wp2
  go_loopg [3, 4] 256 (fun n v i wr => ∃ (k : Nat) (vo : Option Addr) (vc : Nat), k + n = 256 ∧ v = .slice vo (bytesTo q k).length vc ∧ i = .int .u8 ((k % 256 : Nat) : Int) ∧ wr.ownsRow (w.heap.size + 1) 5 1 v (bytesTo q k).length (cellsU (bytesTo q k)) ∧ Below w.heap.size w wr ∧ Box wr w.heap.size (cutQ q k))
  case atStart => exact ⟨0, none, 0, by omega, rfl, rfl, World.ownsRow_nil _ _ _ _, (Below.refl _ _).alloc (Nat.le_refl _) _, by rw [cut_zero hq]; exact Box.made w q⟩
  case round =>
    obtain ⟨k, vo, vc, hk, rfl, rfl, hown, hB, hX⟩ := hrel
    obtain ⟨c0, c1, c2, c3⟩ := hX.cells
    have hsz := hX.lt
    have hbl := bytes_len q k
    by_cases he : cutQ q k = zeroQ
    · have hz : ∀ W, (Op.equalIn 10000 25 (.agg #[.int .u64 (cutQ q k).a, .int .u64 (cutQ q k).b, .int .u64 (cutQ q k).c, .int .u64 (cutQ q k).d]) (.agg #[.int .u64 0, .int .u64 0, .int .u64 0, .int .u64 0])).run Try.prog W = .ok true W := fun W => by rw [eqz, eqQ_iff.2 he]
      have hend := cut_end k (by omega) he
      have Hend := hide hend
      clear hend he
      have hcv := own_conv hown
      have Hown := hide hown
      clear hown
      go_wp2
      go_ret
      rw [Hend.out]
      exact ⟨rfl, hB⟩
    · have hk2 : k < 256 := by
        by_cases h : k = 256
        · exfalso; apply he; rw [h]; exact cut_all hq
        · omega
      have hz : ∀ W, (Op.equalIn 10000 25 (.agg #[.int .u64 (cutQ q k).a, .int .u64 (cutQ q k).b, .int .u64 (cutQ q k).c, .int .u64 (cutQ q k).d]) (.agg #[.int .u64 0, .int .u64 0, .int .u64 0, .int .u64 0])).run Try.prog W = .ok false W := fun W => by rw [eqz, eqQ_not he]
      clear he
      have ek : k % 256 = k := Nat.mod_eq_of_lt hk2
      rw [ek]
      have hinc := next_u8 k
      have hk0 : (0 : Int) ≤ k := by omega
      have hk5 : (k : Int) ≤ 255 := by omega
      have hbs := bytes_snoc q k
      have hoc := cut_ok hq k
      have hhk := has_cut_at q k hk2
      cases hb : q.has k with
      | true =>
        rw [hb] at hbs hhk
        simp only [if_true] at hbs
        have Hbs := hide hbs
        have Hb : Hid ((cutQ q k).has (k : Int).toNat = true) := hhk
        have hcy := cut_yes hq k hk2
        have Hcy := hide hcy
        clear hbs hb hhk hcy
        go_wp2_with (first | (go_at_call 11; refine (has_is (cutQ q k) _ true _ hoc hk0 hk5 Hb.out).mono ?_; rintro e w1 ⟨rfl, b1⟩; have hown1 := own_later hown b1; have X1 : Box w1 _ _ := hX.below b1 hsz; have hB1 := hB.trans (b1.mono hB.size)) | (at_builtin; refine wpList_append_own _ rfl _ _ 42 rfl (w.heap.size + 1) 5 i0 (.int .u8 0) 1 1 Try.underlying42 hi hz0 hz1 hz2 rfl (by decide) _ _ _ rfl (hown1.alloc _) ⟨w1.heap.size, 0, none⟩ 1 1 [.int .u8 (k : Int)] rfl rfl ?c1 ?c2 ?c3 ?c4 ?c5 ?_))
        case c1 =>
          intro j u hj
          match j, hj with
          | 0, hj => simp at hj; subst hj; simp [Addr.add]
        case c2 => intro u hu; simp at hu; subst hu; rfl
        case c3 => unfold maxLen; omega
        case c4 => omega
        case c5 => have := b1.size; simp; omega
        · intro v' w2 hown' hgrow _
          have hsz1 : w.heap.size < w1.heap.size := X1.lt
          have hB2 := below_own hB1 (by omega) (by omega) hown1 hgrow
          have hB3 := below_own (Below.refl (w.heap.size + 1) w1) (Nat.le_refl _) (by omega) hown1 hgrow
          have X2 : Box w2 _ _ := X1.below hB3 (by omega)
          have hsz2 := X2.lt
          have hvs' : ∃ a c', v' = .slice a ((bytesTo q k).length + 1) c' := by
            rcases hown'.2 with ⟨_, h⟩ | ⟨g, cap, cur, rfl, _⟩
            · omega
            · exact ⟨_, _, rfl⟩
          obtain ⟨va', vc', hv'⟩ := hvs'
          rw [hv'] at hown' ⊢
          clear hgrow hown hown1 hv'
          obtain ⟨d0, d1, d2, d3⟩ := X2.cells
          have hoo := one_ok (k : Int).toNat
          go_wp2
          go_region_with (first | (go_at_call 35; refine (one_any _ _ hk0 hk5).mono ?_; rintro e w3 ⟨rfl, b3⟩; simp only [qv]; have X3 : Box w3 _ _ := (b3.block _ hsz2).trans X2; obtain ⟨m0, m1, m2, m3⟩ := X3.cells) | (go_at_call 19; refine (minus_any _ _ _ hoc hoo).mono ?_; rintro e w4 ⟨rfl, b4⟩; simp only [qv]; have X4 : Box w4 _ _ := (b4.block _ X3.lt).trans X3; obtain ⟨p0, p1, p2, p3⟩ := X4.cells; have fr4 := X4.free))
          all_goals
            go_wp2
            have hb5 := below_put (b := w.heap.size) (below_two hB2 (by omega) b3 b4) (Nat.le_refl _) (minusQ (cutQ q k) (oneQ (k : Int).toNat))
            have hx5 := X4.store (minusQ (cutQ q k) (oneQ (k : Int).toNat))
            have ho5 := own_put (own_two hown' b3 b4) (b := w.heap.size) (by omega) (minusQ (cutQ q k) (oneQ (k : Int).toNat))
            go_roundg (255 - k)
            case rel => exact ⟨k + 1, va', vc', by omega, by rw [Hbs.out, List.length_append, List.length_singleton], by go_num, by rw [Hbs.out, cellsU_snoc _ _ hk2, List.length_append, List.length_singleton]; exact ho5, hb5, by rw [Hcy.out]; exact hx5⟩
            case measure => omega
      | false =>
        rw [hb] at hbs hhk
        simp only [Bool.false_eq_true, if_false, List.append_nil] at hbs
        have Hbs := hide hbs
        have Hb : Hid ((cutQ q k).has (k : Int).toNat = false) := hhk
        have hcn := cut_no hq k hk2 hb
        have Hcn := hide hcn
        clear hbs hb hhk hcn
        go_wp2_with (go_at_call 11; refine (has_is (cutQ q k) _ false _ hoc hk0 hk5 Hb.out).mono ?_; rintro e w1 ⟨rfl, b1⟩; have hown1 := own_later hown b1; have X1 : Box w1 _ _ := hX.below b1 hsz; have hB1 := hB.trans (b1.mono hB.size))
        go_roundg (255 - k)
        case rel => exact ⟨k + 1, vo, vc, by omega, by rw [Hbs.out], by go_num, by rw [Hbs.out]; exact hown1, hB1, by rw [Hcn.out]; exact X1⟩
        case measure => omega
end Go.Proofs.Ythflhfpbbnlddaa
