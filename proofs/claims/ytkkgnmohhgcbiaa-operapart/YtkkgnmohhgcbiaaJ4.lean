/-
  WALKS: the program's All: all operators, rising (layer 10); rules compared; what keeps the laws awake.
-/
import Derived.Test.YtkkgnmohhgcbiaaJ1
import Derived.Test.YtkkgnmohhgcbiaaJ3
import Derived.Laws.StructEq
import Derived.Laws.AppendOwn
import Derived.OwnWalk
namespace Go.Proofs.Ytkkgnmohhgcbiaa
open Go.RowKit

/-- the operators below a number -/
def opsTo (k : Nat) : List Nat := (List.range k).filter opZ
def cellsN (l : List Nat) : List Value := l.map fun n : Nat => .int .u8 (n : Int)
theorem ops_all : opsTo 256 = [0, 35, 38, 43, 46, 47, 59, 63] := by decide +kernel
theorem ops_yes {k : Nat} (h : opZ k = true) : opsTo (k + 1) = opsTo k ++ [k] := by simp [opsTo, List.range_succ, h]
theorem ops_no {k : Nat} (h : opZ k = false) : opsTo (k + 1) = opsTo k := by simp [opsTo, List.range_succ, h]
theorem ops_len (k : Nat) : (opsTo k).length ≤ k := by
  have := List.length_filter_le opZ (List.range k)
  simpa [opsTo] using this
theorem cellsN_snoc (l : List Nat) (k : Nat) : cellsN (l ++ [k]) = cellsN l ++ [.int .u8 (k : Int)] := by simp [cellsN]
theorem info5 : (Try.prog.info? 5).map (fun i => (i.zero, i.size, i.bytes)) = some (some (.int .u8 0), 1, 1) := by kernel_rfl
theorem wrap_u8 (k : Nat) (h : k < 256) : IntKind.u8.wrap (k : Int) = k := by
  simp [IntKind.wrap, IntKind.bits, IntKind.signed]; omega
theorem own_later {W w1 : World} {base : Nat} {v : Value} {n : Nat} {xs : List Value} {t : TypeId} (h : W.ownsRow base t 1 v n xs) (b : Below W.heap.size W w1) : w1.ownsRow base t 1 v n xs := by
  refine ⟨h.1, ?_⟩
  rcases h.2 with ⟨rfl, h0⟩ | ⟨g, cap, cur, rfl, h1, hb, hn, hm, hs, ht⟩
  · exact .inl ⟨rfl, h0⟩
  · exact .inr ⟨g, cap, cur, rfl, h1, (b.block g (lt_of_block hb)).trans hb, hn, hm, hs, ht⟩
/-- eight bytes in memory -/
def All8 (W : World) (g : Nat) : Prop :=
  W.cell? ⟨g, 0, none⟩ = some (.int .u8 0) ∧ W.cell? ⟨g, 1, none⟩ = some (.int .u8 35) ∧ W.cell? ⟨g, 2, none⟩ = some (.int .u8 38) ∧ W.cell? ⟨g, 3, none⟩ = some (.int .u8 43) ∧
  W.cell? ⟨g, 4, none⟩ = some (.int .u8 46) ∧ W.cell? ⟨g, 5, none⟩ = some (.int .u8 47) ∧ W.cell? ⟨g, 6, none⟩ = some (.int .u8 59) ∧ W.cell? ⟨g, 7, none⟩ = some (.int .u8 63)
theorem all8_of {W : World} {base : Nat} {v : Value} (h : W.ownsRow base 5 1 v 8 (cellsN [0, 35, 38, 43, 46, 47, 59, 63])) : ∃ g cap, v = .slice (some ⟨g, 0, none⟩) 8 cap ∧ All8 W g ∧ g < W.heap.size := by
  rcases h.2 with ⟨_, h0⟩ | ⟨g, cap, cur, hv, h1, hb, hn, hm, hs, ht⟩
  · simp at h0
  · refine ⟨g, cap, hv, ?_, lt_of_block hb⟩
    have hc := h.cells (g := g) (by rw [hv]; rfl)
    have at_ : ∀ (j : Nat) (u : Value), (cellsN [0, 35, 38, 43, 46, 47, 59, 63])[j]? = some u → W.cell? ⟨g, j, none⟩ = some u := fun j u hj => by
      have := hc j u hj
      rwa [show (⟨g, 0, none⟩ : Addr).add j = ⟨g, j, none⟩ by simp [Addr.add]; omega] at this
    exact ⟨at_ 0 _ rfl, at_ 1 _ rfl, at_ 2 _ rfl, at_ 3 _ rfl, at_ 4 _ rfl, at_ 5 _ rfl, at_ 6 _ rfl, at_ 7 _ rfl⟩
set_option maxRecDepth 20000 in
set_option maxHeartbeats 4000000 in
theorem all_row (w : World) : Calls Try.prog 11 #[] w fun e w' => ∃ v, e = .returned v ∧ w'.ownsRow w.heap.size 5 1 v 8 (cellsN [0, 35, 38, 43, 46, 47, 59, 63]) ∧ Below w.heap.size w w' := by
  obtain ⟨i0, hi, hz0, hz1, hz2⟩ := info_parts info5
  go_enter Try.func11, Try.ntmps11
  go_wp2
  go_loopw [1, 3] (fun v i wr => ∃ (k : Nat) (l : List Nat) (vo : Option Addr) (vc : Nat), k ≤ 256 ∧ i = .int .i64 k ∧ opsTo k = l ∧ v = .slice vo l.length vc ∧ wr.ownsRow w.heap.size 5 1 v l.length (cellsN l) ∧ Below w.heap.size w wr) (fun _ i _ => 256 - (intOf i).toNat)
  case atStart => exact ⟨0, [], none, 0, by omega, rfl, rfl, rfl, World.ownsRow_nil _ _ _ _, Below.refl _ _⟩
  case round =>
    obtain ⟨k, l, vo, vc, hk, rfl, hl, rfl, hown, hB⟩ := hrel
    have hlen := ops_len k
    rw [hl] at hlen
    by_cases hlt : k < 256
    · have hwk := wrap_u8 k hlt
      have hk0 : (0 : Int) ≤ k := by omega
      have hk5 : (k : Int) ≤ 255 := by omega
      cases hb : opZ k with
      | true =>
        have hn := ops_yes hb
        rw [hl] at hn
        have Hn := hide hn
        have Hb : Hid (opZ (k : Int).toNat = true) := hb
        clear hn hl hb
        go_wp2_with (first | (go_at_call 14; refine (poper_is k true _ hk0 hk5 Hb.out).mono ?_; rintro e w1 ⟨rfl, rfl⟩) | (at_builtin; refine wpList_append_own _ rfl _ _ 31 rfl w.heap.size 5 i0 (.int .u8 0) 1 1 Try.underlying31 hi hz0 hz1 hz2 rfl (by decide) _ _ _ rfl (hown.alloc _) ⟨_, 0, none⟩ 1 1 [.int .u8 (k : Int)] rfl rfl ?c1 ?c2 ?c3 ?c4 ?c5 ?_))
        case c1 =>
          intro j u hj
          match j, hj with
          | 0, hj => simp at hj; subst hj; simp [Addr.add]
        case c2 => intro u hu; simp at hu; subst hu; rfl
        case c3 => unfold maxLen; omega
        case c4 => omega
        case c5 => have := hB.size; simp; omega
        · intro v' w2 hown' hgrow _
          have ha := hown.alloc (.cells #[.int .u8 (k : Int)] 5)
          have hB2 := (hB.alloc hB.size (.cells #[.int .u8 (k : Int)] 5)).grown hgrow (by have := hB.size; simp; omega) (fun j hj => (ha.lt j hj).1)
          have hvs' : ∃ a c', v' = .slice a (l.length + 1) c' := by
            rcases hown'.2 with ⟨_, h⟩ | ⟨g, cap, cur, rfl, _⟩
            · omega
            · exact ⟨_, _, rfl⟩
          obtain ⟨va', vc', hv'⟩ := hvs'
          rw [hv'] at hown' ⊢
          clear hgrow hown ha hv'
          go_wp2
          go_round
          case rel => exact ⟨k + 1, l ++ [k], va', vc', by omega, by go_num, Hn.out, by simp, by rw [cellsN_snoc]; simpa using hown', hB2⟩
          case measure => simp [intOf]; omega
      | false =>
        have hn := ops_no hb
        rw [hl] at hn
        have Hn := hide hn
        have Hb : Hid (opZ (k : Int).toNat = false) := hb
        clear hn hl hb
        go_wp2_with (go_at_call 14; refine (poper_is k false _ hk0 hk5 Hb.out).mono ?_; rintro e w1 ⟨rfl, rfl⟩)
        go_round
        case rel => exact ⟨k + 1, l, vo, vc, by omega, by go_num, Hn.out, rfl, hown, hB⟩
        case measure => simp [intOf]; omega
    · obtain rfl : k = 256 := by omega
      rw [ops_all] at hl
      subst hl
      have ho : wr.ownsRow w.heap.size 5 1 (.slice vo 8 vc) 8 (cellsN [0, 35, 38, 43, 46, 47, 59, 63]) := hown
      clear hown
      go_wp2
      go_ret
      exact ⟨_, rfl, ho, hB⟩
theorem all_any (w : World) : Calls Try.prog 11 #[] w fun e w' => ∃ g cap, e = .returned (.slice (some ⟨g, 0, none⟩) 8 cap) ∧ All8 w' g ∧ Below w.heap.size w w' := by
  refine (all_row w).mono ?_
  rintro e w' ⟨v, rfl, h, b⟩
  obtain ⟨g, cap, rfl, h8, _⟩ := all8_of h
  exact ⟨g, cap, rfl, h8, b⟩
end Go.Proofs.Ytkkgnmohhgcbiaa
