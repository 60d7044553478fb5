/-
  THE WALK of UcsWhole.
-/
import Derived.Test.YtlhpmijhngojnaaDoorL3
namespace Go.Proofs.YtlhpmijhngojnaaDoor
open Go.RowKit
open Go.Lib (encodeRune)

/-- some byte below k fits behind -/
def anyB (l : List UInt8) (k : Nat) : Bool := (List.range k).any fun j => fitB (l ++ [j.toUInt8])
theorem any_next (l : List UInt8) (k : Nat) : anyB l (k + 1) = (anyB l k || fitB (l ++ [k.toUInt8])) := by
  unfold anyB; rw [List.range_succ, List.any_append]; simp
theorem any_all (l : List UInt8) (h : ∃ m, fitB (l ++ [m]) = true) : anyB l 256 = true := by
  obtain ⟨m, hm⟩ := h
  unfold anyB
  rw [List.any_eq_true]
  refine ⟨m.toNat, List.mem_range.2 (UInt8.toNat_lt m), ?_⟩
  rw [show m.toNat.toUInt8 = m by simp]; exact hm
theorem any_none (l : List UInt8) (h : ∀ m, fitB (l ++ [m]) = false) : anyB l 256 = false := by
  unfold anyB
  rw [List.any_eq_false]
  intro j _
  rw [h]; simp

set_option maxRecDepth 20000 in
set_option maxHeartbeats 2000000 in
theorem whole_loop (s : ByteArray) (w : World) (R : Ran w) (hs : s.size ≤ 1000) (hf : fitB s.data.toList = true) (n : Int) (a : Int) (S : Bool) (hS : anyB s.data.toList 256 = S) (ha : takeC s.data.toList = a) (hn : (takeN s.data.toList : Int) = n) (hfin : (S == (n == 0)) = true ∧ (n = 0 ∨ n = s.size)) :
    Calls Tryd.prog 6 #[.string s] w fun e w' => e = .returned (.bool true) ∧ Below w.heap.size w w' := by
  have B := Below.refl w.heap.size w
  have R1 := hide R
  clear R
  have hs2 : s.size ≤ 100000 := by omega
  obtain ⟨hS1, hn1⟩ := hfin
  have Hf := hide hf
  have HS := hide hS
  have Ha := hide ha
  have Hn := hide hn
  clear hf hS ha hn
  go_enter Tryd.func6, Tryd.ntmps6
  go_wp2_with (first
    | (go_at_call 9; refine (awake_any _ (R1.out.next B)).mono ?_; rintro e w1 ⟨rfl, bb⟩; replace B := B.trans (bb.mono B.size); clear bb)
    | (go_at_call 14; refine (pfits_is s true _ (R1.out.next B) Hf.out).mono ?_; rintro e w1 ⟨rfl, bb⟩; replace B := B.trans (bb.mono B.size); clear bb))
  go_loopw [4, 5] (fun o i wr => ∃ k : Nat, k ≤ 256 ∧ o = .bool (anyB s.data.toList k) ∧ i = .int .i64 k ∧ Below w.heap.size w wr) (fun _ i _ => 256 - (intOf i).toNat)
  case atStart => exact ⟨0, by omega, rfl, rfl, B⟩
  case round =>
    clear B
    obtain ⟨k, hk, rfl, rfl, B⟩ := hrel
    by_cases hlt : k < 256
    · have hnx := any_next s.data.toList k
      have hcv := fun W => conv_one W (k : Int) (by omega) (by omega)
      obtain ⟨o, ho⟩ : ∃ m : ByteArray, (⟨#[(k : Int).toNat.toUInt8]⟩ : ByteArray) = m := ⟨_, rfl⟩
      rw [ho] at hcv
      have hos : o.size = 1 := by rw [← ho]; rfl
      have hol : o.data.toList = [k.toUInt8] := by rw [← ho]; rfl
      obtain ⟨f, hff⟩ : ∃ f, fitB (s.data.toList ++ [k.toUInt8]) = f := ⟨_, rfl⟩
      rw [hff] at hnx
      have Hff : Hid (fitB (s ++ o).data.toList = f) := by show fitB (s ++ o).data.toList = f; rw [app_list, hol]; exact hff
      have hso : (s ++ o).size ≤ 100000 := by rw [ByteArray.size_append]; omega
      obtain ⟨x, hx⟩ : ∃ x, anyB s.data.toList k = x := ⟨_, rfl⟩
      rw [hx] at hnx ⊢
      have Hnx := hide hnx
      clear hnx ho hol hff hx
      cases x with
      | true =>
        go_wp2
        go_roundw
        case rel => exact ⟨k + 1, by omega, by rw [Hnx.out]; rfl, by go_num, B⟩
        case measure => simp [intOf]; omega
      | false =>
        go_wp2_with (first
          | (go_at_call 14; refine (pfits_is (s ++ o) f _ (R1.out.next (B.alloc B.size _)) Hff.out).mono ?_; rintro e w1 ⟨rfl, bb⟩; replace B := bel_alloc B bb; clear bb))
        go_roundw
        case rel => exact ⟨k + 1, by omega, by rw [Hnx.out]; rfl, by go_num, B⟩
        case measure => simp [intOf]; omega
    · have hk6 : k = 256 := by omega
      subst hk6
      rw [HS.out]
      rcases hn1 with rfl | rfl
      · have hS2 : S = true := by revert hS1; cases S <;> simp
        subst hS2
        go_wp2_with (first
          | (go_at_call 10; refine (ptake_is s a _ _ (R1.out.next B) hs2 Ha.out Hn.out).mono ?_; rintro e w1 ⟨rfl, bb⟩; replace B := B.trans (bb.mono B.size); clear bb))
        go_ret
        first | exact ⟨rfl, B⟩ | exact ⟨ret_bool (by simp; omega), B⟩
      · by_cases hz : s.size = 0
        · have hz0 : ((s.size : Int) == 0) = true := by rw [hz]; rfl
          have hS2 : S = true := by rw [hz0] at hS1; revert hS1; cases S <;> simp
          subst hS2
          clear hS1
          go_wp2_with (first
            | (go_at_call 10; refine (ptake_is s a _ _ (R1.out.next B) hs2 Ha.out Hn.out).mono ?_; rintro e w1 ⟨rfl, bb⟩; replace B := B.trans (bb.mono B.size); clear bb))
          go_ret
          first | exact ⟨rfl, B⟩ | exact ⟨ret_bool (by simp; omega), B⟩
        · have hz0 : ((s.size : Int) == 0) = false := beq_eq_false_iff_ne.2 (by omega)
          have hS2 : S = false := by rw [hz0] at hS1; revert hS1; cases S <;> simp
          subst hS2
          clear hS1
          go_wp2_with (first
            | (go_at_call 10; refine (ptake_is s a _ _ (R1.out.next B) hs2 Ha.out Hn.out).mono ?_; rintro e w1 ⟨rfl, bb⟩; replace B := B.trans (bb.mono B.size); clear bb))
          go_ret
          first | exact ⟨rfl, B⟩ | exact ⟨ret_bool (by simp; omega), B⟩
set_option maxRecDepth 20000 in
set_option maxHeartbeats 2000000 in
theorem whole_walk (s : ByteArray) (w : World) (R : Ran w) :
    Calls Tryd.prog 6 #[.string s] w fun e w' => e = .returned (.bool true) ∧ Below w.heap.size w w' := by
  have B := Below.refl w.heap.size w
  have R1 := hide R
  clear R
  by_cases hbig : 1000 < s.size
  · go_enter Tryd.func6, Tryd.ntmps6
    go_wp2_with (first
      | (go_at_call 9; refine (awake_any _ (R1.out.next B)).mono ?_; rintro e w1 ⟨rfl, bb⟩; replace B := B.trans (bb.mono B.size); clear bb))
    go_ret
    exact ⟨rfl, B⟩
  · have hs2 : s.size ≤ 100000 := by omega
    cases hf : fitB s.data.toList with
    | false =>
      have Hf := hide hf
      clear hf
      go_enter Tryd.func6, Tryd.ntmps6
      go_wp2_with (first
        | (go_at_call 9; refine (awake_any _ (R1.out.next B)).mono ?_; rintro e w1 ⟨rfl, bb⟩; replace B := B.trans (bb.mono B.size); clear bb)
        | (go_at_call 14; refine (pfits_is s false _ (R1.out.next B) Hf.out).mono ?_; rintro e w1 ⟨rfl, bb⟩; replace B := B.trans (bb.mono B.size); clear bb))
      go_ret
      exact ⟨rfl, B⟩
    | true =>
      clear B
      have hz : s.data.toList.length = s.size := by simp
      rcases fit_whole hf with ⟨c, hc, he, hno⟩ | ⟨hno, hsome⟩
      · have ht := take_enc c hc []
        rw [List.append_nil, ← he, hz] at ht
        have hp := (fit_iff _).1 hf
        have hpos : s.size ≠ 0 := fun e => hp.1 (List.eq_nil_of_length_eq_zero (by omega))
        exact whole_loop s w R1.out (by omega) hf s.size c false (any_none _ hno) ht.1 (by rw [ht.2]) ⟨by rw [beq_eq_false_iff_ne.2 (show (s.size : Int) ≠ 0 by omega)]; rfl, .inr rfl⟩
      · have ht := take_none hno
        exact whole_loop s w R1.out (by omega) hf 0 0 true (any_all _ hsome) ht.1 (by rw [ht.2]; rfl) ⟨rfl, .inl rfl⟩
end Go.Proofs.YtlhpmijhngojnaaDoor
