/-
  WALKS: the law of all operators (layer 10).
-/
import Derived.Test.YtkkgnmohhgcbiaaL1
namespace Go.Proofs.Ytkkgnmohhgcbiaa
open Go.RowKit

def opAt (k : Nat) : Nat := ([0, 35, 38, 43, 46, 47, 59, 63] : List Nat).getD k 0
theorem opAt_fin : ∀ k : Fin 8, opZ (opAt k.val) = true ∧ opAt k.val ≤ 255 ∧ (0 < k.val → opAt (k.val - 1) < opAt k.val) := by decide +kernel
theorem All8.at {W : World} {g : Nat} (h : All8 W g) (k : Nat) (hk : k < 8) : W.cell? ⟨g, k, none⟩ = some (.int .u8 (opAt k : Int)) := by
  obtain ⟨h0, h1, h2, h3, h4, h5, h6, h7⟩ := h
  match k, hk with
  | 0, _ => exact h0
  | 1, _ => exact h1
  | 2, _ => exact h2
  | 3, _ => exact h3
  | 4, _ => exact h4
  | 5, _ => exact h5
  | 6, _ => exact h6
  | 7, _ => exact h7
/-- whether a byte is among the first ones -/
def amongK (n : Int) (k : Nat) : Bool := (List.range k).any fun j => decide ((opAt j : Int) = n)
theorem among_next (n : Int) (k : Nat) : amongK n (k + 1) = (amongK n k || decide ((opAt k : Int) = n)) := by simp [amongK, List.range_succ]
theorem among_fin : ∀ m : Fin 256, amongK (m.val : Int) 8 = opZ m.val := by decide +kernel
set_option maxRecDepth 20000 in
set_option maxHeartbeats 4000000 in
theorem all_walk (n : Int) (w : World) (h0 : 0 ≤ n) (h1 : n ≤ 255) : Calls Try.prog 4 #[.int .u8 n] w fun e w' => e = .returned (.bool true) ∧ Below w.heap.size w w' := by
  have hend : amongK n 8 = opZ n.toNat := by
    have := among_fin ⟨n.toNat, by omega⟩
    rwa [show ((n.toNat : Nat) : Int) = n by omega] at this
  have Hend := hide hend
  clear hend
  go_enter Try.func4, Try.ntmps4
  go_wp2_with (first
    | (go_at_call 8; refine (awake_any _).mono ?_; rintro e w1 ⟨rfl, bb⟩; have B := bb; clear bb)
    | (go_at_call 11; refine (all_any _).mono ?_; rintro e w2 ⟨g, cap, rfl, h8, bb⟩; replace B := b_then B bb; clear bb))
  have H8 := hide h8
  clear h8
  go_loopw [5, 6] (fun v i wr => ∃ (k : Nat) (b : Bool), k ≤ 8 ∧ i = .int .i64 k ∧ v = .bool b ∧ amongK n k = b ∧ Below w.heap.size w wr ∧ All8 wr g) (fun _ i _ => 8 - (intOf i).toNat)
  case atStart => exact ⟨0, false, by omega, rfl, rfl, rfl, B, H8.out⟩
  case round =>
    obtain ⟨k, b, hk, rfl, rfl, hb, hB, h8⟩ := hrel
    clear H8 B
    have H8 := hide h8
    clear h8
    have Hb := hide hb
    clear hb
    by_cases hlt : k < 8
    · obtain ⟨ho, hle, hup⟩ := opAt_fin ⟨k, hlt⟩
      simp only at ho hle hup
      have c0 := H8.out.at k hlt
      have hnx := among_next n k
      rw [Hb.out] at hnx
      obtain ⟨a, ha⟩ : ∃ a : Nat, opAt k = a := ⟨_, rfl⟩
      rw [ha] at ho hle hup c0 hnx
      have Ho : Hid (opZ (a : Int).toNat = true) := ho
      have ha0 : (0 : Int) ≤ (a : Int) := by omega
      have ha1 : (a : Int) ≤ 255 := by omega
      have hq : ((a : Int) == n) = decide ((a : Int) = n) := by rw [Bool.eq_iff_iff]; simp
      obtain ⟨q, hqq⟩ : ∃ q, decide ((a : Int) = n) = q := ⟨_, rfl⟩
      rw [hqq] at hq hnx
      have Hnx := hide hnx
      clear hnx ho hqq ha
      by_cases hz : k = 0
      · subst hz
        clear hup
        cases b <;> cases q
        all_goals
          go_wp2
          go_quiet ((go_at_call 12; exact Calls.quiet_of_same (roper_is (a : Int) true _ ha0 ha1 Ho.out)))
          go_wp2
          go_round
          case rel => exact ⟨0 + 1, _, by omega, by go_num, rfl, Hnx.out, ⟨hB.os, hB.tape, hB.output, hB.size, hB.block⟩, H8.out⟩
          case measure => simp [intOf]
      · obtain ⟨p, hp⟩ : ∃ p, opAt (k - 1) = p := ⟨_, rfl⟩
        have c1 := H8.out.at (k - 1) (by omega)
        have hpa := hup (by omega)
        rw [hp] at c1 hpa
        have hk1 : IntKind.i64.wrap ((k : Int) - 1) = ((k - 1 : Nat) : Int) := by
          simp [IntKind.wrap, IntKind.bits, IntKind.signed]; omega
        have hgt : 0 < k := by omega
        have hdt : decide (0 < k) = true := by simp [hgt]
        have hge : ¬ a ≤ p := by omega
        have hdg : decide (a ≤ p) = false := by simp [hge]
        clear hup hp
        cases b <;> cases q
        all_goals
          go_wp2
          go_quiet ((go_at_call 12; exact Calls.quiet_of_same (roper_is (a : Int) true _ ha0 ha1 Ho.out)))
          go_wp2
          go_round
          case rel => exact ⟨k + 1, _, by omega, by go_num, rfl, Hnx.out, ⟨hB.os, hB.tape, hB.output, hB.size, hB.block⟩, H8.out⟩
          case measure => simp [intOf]; omega
    · obtain rfl : k = 8 := by omega
      have Hz : Hid (opZ n.toNat = b) := by rw [← Hend.out]; exact Hb.out
      go_wp2_with (go_at_call 12; refine (roper_is n b _ h0 h1 Hz.out).mono ?_; rintro e w3 ⟨rfl, rfl⟩)
      all_goals go_ret
      all_goals exact ⟨ret_bool (by simp), hB⟩
end Go.Proofs.Ytkkgnmohhgcbiaa
