/-
  Joined by program out of the texts uC2 uC3 uR2 uR3.
-/
import Derived.Test.YtjbnofljoijnmaaDoorY03
import Derived.Test.YtjbnofljoijnmaaDoorY04
import Derived.Laws.BitsAllLaws
import Derived.OwnWalk
import Derived.Deep.QuietTactic
import Derived.BigQuiet
/-
  WALKS: ucs.lead, begun.
-/
namespace Go.Proofs.YtjbnofljoijnmaaDooru
open Go.RowKit

/-- the least number of a first byte's -/
def leastZ (c : Nat) : Nat := if sizeN c = 0 then 0 else leastN (sizeN c)
def leadZ (c : Nat) : Nat := if sizeN c = 0 then 0 else leadN (sizeN c) c
theorem ret_three {a b c a' b' c' : Int} (h1 : a = a') (h2 : b = b') (h3 : c = c') : Ending.returned (.tuple #[.int .i64 a, .int .i64 b, .int .i64 c]) = .returned (.tuple #[.int .i64 a', .int .i64 b', .int .i64 c']) := by rw [h1, h2, h3]
theorem lead_2 {c : Nat} (h : 192 ≤ c ∧ c < 224) : sizeN c = 2 ∧ leadZ c = c - 192 ∧ leastZ c = 128 := by
  have e : sizeN c = 2 := by unfold sizeN; (repeat' split) <;> omega
  refine ⟨e, ?_, ?_⟩
  · unfold leadZ leadN; rw [e]; simp
  · unfold leastZ leastN; rw [e]; simp
theorem lead_3 {c : Nat} (h : 224 ≤ c ∧ c < 240) : sizeN c = 3 ∧ leadZ c = c - 224 ∧ leastZ c = 2048 := by
  have e : sizeN c = 3 := by unfold sizeN; (repeat' split) <;> omega
  refine ⟨e, ?_, ?_⟩
  · unfold leadZ leadN; rw [e]; simp
  · unfold leastZ leastN; rw [e]; simp
theorem lead_4 {c : Nat} (h : 240 ≤ c ∧ c < 248) : sizeN c = 4 ∧ leadZ c = c - 240 ∧ leastZ c = 65536 := by
  have e : sizeN c = 4 := by unfold sizeN; (repeat' split) <;> omega
  refine ⟨e, ?_, ?_⟩
  · unfold leadZ leadN; rw [e]; simp
  · unfold leastZ leastN; rw [e]; simp
theorem lead_0 {c : Nat} (h : c < 192 ∨ 248 ≤ c) : sizeN c = 0 ∧ leadZ c = 0 ∧ leastZ c = 0 := by
  have e : sizeN c = 0 := by unfold sizeN; (repeat' split) <;> omega
  refine ⟨e, ?_, ?_⟩
  · unfold leadZ; rw [e]; simp
  · unfold leastZ; rw [e]; simp

set_option maxHeartbeats 1000000 in
theorem lead_any (c : Nat) (w : World) (h : c ≤ 255) :
    Calls Tryd.prog 98 #[.int .u8 c] w fun e w' => e = .returned (.tuple #[.int .i64 (sizeN c), .int .i64 (leadZ c), .int .i64 (leastZ c)]) ∧ w' = w := by
  go_enter Tryd.func98, Tryd.ntmps98
  go_wp2
  · rename_i h1
    go_ret3
    have h1 := beq_iff_eq.1 h1
    obtain ⟨e1, e2, e3⟩ := lead_2 (c := c) (by omega)
    exact ⟨ret_three (by omega) (by omega) (by omega), rfl⟩
  · rename_i h1 h2
    go_ret3
    have h2 := beq_iff_eq.1 h2
    obtain ⟨e1, e2, e3⟩ := lead_3 (c := c) (by omega)
    exact ⟨ret_three (by omega) (by omega) (by omega), rfl⟩
  · rename_i h1 h2 h3
    go_ret3
    have h3 := beq_iff_eq.1 h3
    obtain ⟨e1, e2, e3⟩ := lead_4 (c := c) (by omega)
    exact ⟨ret_three (by omega) (by omega) (by omega), rfl⟩
  · rename_i h1 h2 h3
    go_ret3
    have h1 := beq_eq_false_iff_ne.1 h1
    have h2 := beq_eq_false_iff_ne.1 h2
    have h3 := beq_eq_false_iff_ne.1 h3
    obtain ⟨e1, e2, e3⟩ := lead_0 (c := c) (by omega)
    exact ⟨ret_three (by omega) (by omega) (by omega), rfl⟩
theorem lead_is (c : Int) (z l m : Int) (w : World) (h0 : 0 ≤ c) (h : c ≤ 255) (hz : (sizeN c.toNat : Int) = z) (hl : (leadZ c.toNat : Int) = l) (hm : (leastZ c.toNat : Int) = m) :
    Calls Tryd.prog 98 #[.int .u8 c] w fun e w' => e = .returned (.tuple #[.int .i64 z, .int .i64 l, .int .i64 m]) ∧ w' = w := by
  subst hz hl hm
  have := lead_any c.toNat w (by omega)
  rwa [show ((c.toNat : Nat) : Int) = c by omega] at this
end Go.Proofs.YtjbnofljoijnmaaDooru

/-
  WALKS: ucs.begun.
-/
namespace Go.Proofs.YtjbnofljoijnmaaDooru
open Go.RowKit

theorem low_long (s : ByteArray) (h : 0 < s.size) (hz : sizeN s[0].toNat < s.size) : lowN s.data.toList = 0 ∧ highN s.data.toList = -1 := by
  have e := list_one s h
  have el : (s.data.toList.drop 1).length = s.size - 1 := by simp
  rw [e]
  generalize s.data.toList.drop 1 = t at *
  have hc : sizeN s[0].toNat < t.length + 1 ∨ t.all contB = false := .inl (by omega)
  exact ⟨by simp only [lowN]; rw [if_pos hc], by simp only [highN]; rw [if_pos hc]⟩
theorem low_cont (s : ByteArray) (j : Nat) (h1 : 1 ≤ j) (h : j < s.size) (hc : contB s[j] = false) : lowN s.data.toList = 0 ∧ highN s.data.toList = -1 := by
  have e := list_one s (by omega)
  have hall : (s.data.toList.drop 1).all contB = false := by
    rw [List.all_eq_false]
    refine ⟨s[j], ?_, by rw [hc]; simp⟩
    have := drop_snoc s j h1 h
    have hm : s[j] ∈ (s.data.toList.drop 1).take j := by rw [this]; simp
    exact List.mem_of_mem_take hm
  rw [e]
  generalize s.data.toList.drop 1 = t at *
  have hc : sizeN s[0].toNat < t.length + 1 ∨ t.all contB = false := .inr hall
  exact ⟨by simp only [lowN]; rw [if_pos hc], by simp only [highN]; rw [if_pos hc]⟩
theorem or_six (a y : Int) (h0 : 0 ≤ a) (h1 : a ≤ 100000000) (h2 : 0 ≤ y) (h3 : y < 64) : bits .or .i64 (a * 64) y = a * 64 + y :=
  bits_join .i64 40 (by decide) (fun n h0 h1 => by rw [IntKind.wrap_i64]; omega) 6 (a * 64) y (by omega) (by omega) (by omega) h2 (by omega) (by omega)

theorem low_all (s : ByteArray) (h : 0 < s.size) (hl : s.size ≤ sizeN s[0].toNat) (hc : (s.data.toList.drop 1).all contB = true) :
    lowN s.data.toList = max ((accN (leadZ s[0].toNat) (s.data.toList.drop 1) * 64 ^ (sizeN s[0].toNat - s.size) : Nat) : Int) (leastZ s[0].toNat : Nat) ∧ highN s.data.toList = ((accN (leadZ s[0].toNat) (s.data.toList.drop 1) * 64 ^ (sizeN s[0].toNat - s.size) + (64 ^ (sizeN s[0].toNat - s.size) - 1) : Nat) : Int) := by
  have e := list_one s h
  have el : (s.data.toList.drop 1).length = s.size - 1 := by simp
  have hz : sizeN s[0].toNat ≠ 0 := by omega
  have e1 : leadZ s[0].toNat = leadN (sizeN s[0].toNat) s[0].toNat := by unfold leadZ; rw [if_neg hz]
  have e2 : leastZ s[0].toNat = leastN (sizeN s[0].toNat) := by unfold leastZ; rw [if_neg hz]
  rw [e1, e2]
  generalize hX : s.data.toList = X at *
  rw [e]
  simp only [List.drop_succ_cons, List.drop_zero]
  generalize X.drop 1 = t at *
  have hn : ¬ (sizeN s[0].toNat < t.length + 1 ∨ t.all contB = false) := by rw [hc]; simp; omega
  have ez : s.size = t.length + 1 := by omega
  simp only [lowN, highN]
  rw [if_neg hn, if_neg hn, ez]
  exact ⟨rfl, rfl⟩
theorem three_below (w : World) (o p q : Obj) : Below w.heap.size w (((w.alloc o).alloc p).alloc q) :=
  (((Below.refl _ _).alloc (Nat.le_refl _) _).alloc (by simp) _).alloc (by simp; omega) _

set_option maxRecDepth 20000 in
set_option maxHeartbeats 2000000 in
theorem begun_long (s : ByteArray) (w : World) (h : 0 < s.size) (hz : sizeN s[0].toNat < s.size) :
    Calls Tryd.prog 89 #[.string s] w fun e w' => e = .returned (.agg #[.int .i64 (lowN s.data.toList), .int .i64 (highN s.data.toList)]) ∧ Below w.heap.size w w' := by
  have hb0 := UInt8.toNat_lt s[0]
  have hi0 : (0 : Int) ≤ s[0].toNat := by omega
  have hi1 : (s[0].toNat : Int) ≤ 255 := by omega
  obtain ⟨Z, hZ⟩ : ∃ z, sizeN s[0].toNat = z := ⟨_, rfl⟩
  obtain ⟨D, hD⟩ : ∃ z, leadZ s[0].toNat = z := ⟨_, rfl⟩
  obtain ⟨M, hM⟩ : ∃ z, leastZ s[0].toNat = z := ⟨_, rfl⟩
  have HZ : Hid ((sizeN ((s[0].toNat : Int)).toNat : Int) = Z) := by show _ = _; rw [Int.toNat_natCast, hZ]
  have HD : Hid ((leadZ ((s[0].toNat : Int)).toNat : Int) = D) := by show _ = _; rw [Int.toNat_natCast, hD]
  have HM : Hid ((leastZ ((s[0].toNat : Int)).toNat : Int) = M) := by show _ = _; rw [Int.toNat_natCast, hM]
  have hlo := low_long s h hz
  rw [hZ] at hz
  rw [hlo.1, hlo.2]
  clear hlo hZ hD hM
  go_enter Tryd.func89, Tryd.ntmps89
  go_wp2_with (go_at_call 98; refine (lead_is _ _ _ _ _ hi0 hi1 HZ.out HD.out HM.out).mono ?_; rintro e w' ⟨rfl, hw⟩; rw [hw])
  refine bodyPost_ret (v := .agg #[.int .i64 0, .int .i64 (-1)]) ?_ rfl ⟨rfl, ?_⟩
  · simp [results, Tryd.results89, go_sem]
  · exact ((Below.refl _ _).alloc (Nat.le_refl _) _).alloc (by simp) _

set_option maxRecDepth 20000 in
set_option maxHeartbeats 2000000 in
theorem begun_short (s : ByteArray) (w : World) (h : 0 < s.size) (hl : s.size ≤ sizeN s[0].toNat) :
    Calls Tryd.prog 89 #[.string s] w fun e w' => e = .returned (.agg #[.int .i64 (lowN s.data.toList), .int .i64 (highN s.data.toList)]) ∧ Below w.heap.size w w' := by
  have hb0 := UInt8.toNat_lt s[0]
  have hi0 : (0 : Int) ≤ s[0].toNat := by omega
  have hi1 : (s[0].toNat : Int) ≤ 255 := by omega
  have hz4 := size_is s[0].toNat
  obtain ⟨Z, hZ⟩ : ∃ z, sizeN s[0].toNat = z := ⟨_, rfl⟩
  obtain ⟨D, hD⟩ : ∃ z, leadZ s[0].toNat = z := ⟨_, rfl⟩
  obtain ⟨M, hM⟩ : ∃ z, leastZ s[0].toNat = z := ⟨_, rfl⟩
  have HZ : Hid ((sizeN ((s[0].toNat : Int)).toNat : Int) = Z) := by show _ = _; rw [Int.toNat_natCast, hZ]
  have HD : Hid ((leadZ ((s[0].toNat : Int)).toNat : Int) = D) := by show _ = _; rw [Int.toNat_natCast, hD]
  have HM : Hid ((leastZ ((s[0].toNat : Int)).toNat : Int) = M) := by show _ = _; rw [Int.toNat_natCast, hM]
  have hld : D ≤ 31 := by
    rw [← hD]
    unfold leadZ
    split
    · omega
    · rename_i hne
      exact lead_le rfl hne
  have hfa := fun hc => low_all s h hl hc
  rw [hZ, hD, hM] at hfa
  rw [hZ] at hl hz4
  have hZ4 : Z ≤ 4 := by omega
  have hlen : (s.data.toList.drop 1).length = s.size - 1 := by simp
  obtain ⟨L, hL⟩ : ∃ L, s.data.toList.drop 1 = L := ⟨_, rfl⟩
  rw [hL] at hlen hfa
  have hsn := fun j h1 h => drop_snoc s j h1 h
  rw [hL] at hsn
  have hfc := fun j h1 h hc => low_cont s j h1 h hc
  obtain ⟨RL, hRL⟩ : ∃ z, lowN s.data.toList = z := ⟨_, rfl⟩
  obtain ⟨RH, hRH⟩ : ∃ z, highN s.data.toList = z := ⟨_, rfl⟩
  rw [hRL, hRH] at hfc hfa ⊢
  have Hsn := hide hsn
  have Hfc := hide hfc
  have Hfa := hide hfa
  have HB := hide (three_below w)
  clear hsn hfc hfa hL hZ hD hM hz4 hRL hRH
  go_enter Tryd.func89, Tryd.ntmps89
  go_wp2_with (go_at_call 98; refine (lead_is _ _ _ _ _ hi0 hi1 HZ.out HD.out HM.out).mono ?_; rintro e w' ⟨rfl, hw⟩; rw [hw]; clear hw)
  go_loopw [8] (fun i wr => ∃ j : Nat, 1 ≤ j ∧ j ≤ s.size ∧ i = .int .i64 j ∧ (L.take (j - 1)).all contB = true ∧ wr = ((w.alloc (.cells #[.int .i64 0, .int .i64 0] 105)).alloc (.cells #[.int .i64 0, .int .i64 (-1)] 105)).alloc (.cells #[.int .i64 ((accN D (L.take (j - 1)) : Nat) : Int), .int .i64 ((accN D (L.take (j - 1)) : Nat) : Int)] 105)) (fun i _ => s.size - (intOf i).toNat)
  case atStart => exact ⟨1, Nat.le_refl _, by omega, rfl, rfl, rfl⟩
  case round =>
    obtain ⟨j, hj1, hj2, rfl, hall, rfl⟩ := hrel
    have hbd := acc_bd (l := L.take (j - 1)) hld (Nat.le_trans (List.length_take_le _ _) (by omega))
    by_cases hlt : j < s.size
    · have hbj := UInt8.toNat_lt s[j]
      cases hc : contB s[j] with
      | false =>
        have hcn := cont_no hc
        have Hf := hide (Hfc.out j hj1 hlt hc)
        have hq : ((s[j].toNat : Int) / 64 != 2) = true := by rw [bne_iff_ne]; omega
        clear hc hcn
        generalize accN D (L.take (j - 1)) = A at *
        go_wp2
        refine bodyPost_ret (v := .agg #[.int .i64 0, .int .i64 (-1)]) ?_ rfl ⟨by rw [Hf.out.1, Hf.out.2], HB.out _ _ _⟩
        simp [results, Tryd.results89, go_sem]
      | true =>
        rw [cont_iff] at hc
        obtain ⟨hc1, hc2⟩ := hc
        have hnx : accN D (L.take (j + 1 - 1)) = 64 * accN D (L.take (j - 1)) + (s[j].toNat - 128) := by
          rw [show j + 1 - 1 = j by omega, Hsn.out j hj1 hlt, acc_snoc]
        have hna : (L.take (j + 1 - 1)).all contB = true := by
          rw [show j + 1 - 1 = j by omega, Hsn.out j hj1 hlt, List.all_append, hall]
          simp [cont_iff, hc1, hc2]
        have Hnx := hide hnx
        have Hna := hide hna
        clear hnx hna hall
        generalize accN D (L.take (j - 1)) = A at *
        have hq : ((s[j].toNat : Int) / 64 != 2) = false := by rw [bne_eq_false_iff_eq]; omega
        have hor := or_six A (s[j].toNat % 64 : Int) (by omega) (by omega) (by omega) (by omega)
        go_wp2
        go_roundw
        case rel =>
          have e : ((A : Int) * 64 + (s[j].toNat : Int) % 64) = ((accN D (L.take (j + 1 - 1)) : Nat) : Int) := by rw [Hnx.out]; omega
          refine ⟨j + 1, by omega, by omega, by go_num, Hna.out, by rw [e]⟩
        case measure => simp [intOf]; omega
    · have htk : L.take (j - 1) = L := List.take_of_length_le (by omega)
      rw [htk] at hall hbd ⊢
      have hfa := Hfa.out hall
      have hpw : ∀ m, m ≤ Z - s.size → accN D L * 64 ^ m + 64 ^ m ≤ 9000000 := fun m hm => acc_pow hld (by omega)
      have Hpw := hide hpw
      have Hf := hide hfa
      clear Hfa Hfc Hsn hall hfa hpw htk
      generalize accN D L = A at *
      go_wp2
      go_loopw [58] (fun i wr => ∃ m : Nat, m ≤ Z - s.size ∧ i = .int .i64 m ∧ wr = ((w.alloc (.cells #[.int .i64 0, .int .i64 0] 105)).alloc (.cells #[.int .i64 0, .int .i64 (-1)] 105)).alloc (.cells #[.int .i64 ((A * 64 ^ m : Nat) : Int), .int .i64 ((A * 64 ^ m + (64 ^ m - 1) : Nat) : Int)] 105)) (fun i _ => Z - s.size - (intOf i).toNat)
      case atStart => exact ⟨0, by omega, rfl, by simp⟩
      case round =>
        obtain ⟨m, hm, rfl, rfl⟩ := hrel
        have hp := Hpw.out m hm
        have hpp : 0 < 64 ^ m := Nat.pow_pos (by decide)
        by_cases hlt : m < Z - s.size
        · have e1 : A * 64 ^ (m + 1) = A * 64 ^ m * 64 := by rw [Nat.pow_succ, Nat.mul_assoc]
          have e2 : A * 64 ^ (m + 1) + (64 ^ (m + 1) - 1) = (A * 64 ^ m + (64 ^ m - 1)) * 64 + 63 := by rw [e1, Nat.pow_succ]; omega
          have E1 := hide e1
          have E2 := hide e2
          clear e1 e2
          generalize A * 64 ^ m = a at *
          generalize 64 ^ m = b at *
          obtain ⟨c, hc⟩ : ∃ c, a + (b - 1) = c := ⟨_, rfl⟩
          rw [hc] at E2 ⊢
          have hor := or_six c 63 (by omega) (by omega) (by omega) (by omega)
          have hcb : c ≤ 9000000 := by omega
          have hab : a ≤ 9000000 := by omega
          clear hc
          have hlt2 : (m : Int) < Z - s.size := by omega
          go_wp2
          go_roundw
          case rel =>
            refine ⟨m + 1, by omega, by go_num, ?_⟩
            rw [E2.out, E1.out]
            simp
          case measure => simp [intOf]; omega
        · have hm : m = Z - s.size := by omega
          have Hm : Hid (m = Z - s.size) := hm
          rw [← hm] at Hf
          clear hm
          generalize A * 64 ^ m = a at *
          generalize 64 ^ m = b at *
          obtain ⟨c, hc⟩ : ∃ c, a + (b - 1) = c := ⟨_, rfl⟩
          rw [hc] at Hf ⊢
          have hcb : c ≤ 9000000 := by omega
          have hab : a ≤ 9000000 := by omega
          clear hc
          have hlt2 : ¬ (m : Int) < Z - s.size := by have := Hm.out; omega
          go_wp2
          case inl =>
            refine bodyPost_ret (v := .agg #[.int .i64 M, .int .i64 c]) ?_ rfl ⟨by rw [Hf.out.1, Hf.out.2, Int.max_eq_right (by omega)], HB.out _ _ _⟩
            simp [results, Tryd.results89, go_sem]
          case inr =>
            refine bodyPost_ret (v := .agg #[.int .i64 a, .int .i64 c]) ?_ rfl ⟨by rw [Hf.out.1, Hf.out.2, Int.max_eq_left (by omega)], HB.out _ _ _⟩
            simp [results, Tryd.results89, go_sem]
theorem begun_any (s : ByteArray) (w : World) (h : 0 < s.size) :
    Calls Tryd.prog 89 #[.string s] w fun e w' => e = .returned (.agg #[.int .i64 (lowN s.data.toList), .int .i64 (highN s.data.toList)]) ∧ Below w.heap.size w w' := by
  by_cases hz : sizeN s[0].toNat < s.size
  · exact begun_long s w h hz
  · exact begun_short s w h (by omega)
end Go.Proofs.YtjbnofljoijnmaaDooru

/-
  WALKS: the reference's Fits (layer 4), where the first byte begins 2.
-/
namespace Go.Proofs.YtjbnofljoijnmaaDooru
open Go.RowKit

end Go.Proofs.YtjbnofljoijnmaaDooru

/-
  WALKS: the reference's Fits (layer 4), where the first byte begins 3.
-/
namespace Go.Proofs.YtjbnofljoijnmaaDooru
open Go.RowKit

end Go.Proofs.YtjbnofljoijnmaaDooru
