/-
  WALKS: the reference's Fits (layer 4), where the first byte begins 2.
-/
import Derived.Test.YtlhpmijhngojnaaDoorW9
import Derived.Deep.QuietTactic
import Derived.BigQuiet
namespace Go.Proofs.YtlhpmijhngojnaaDoor
open Go.RowKit

set_option maxRecDepth 20000 in
set_option maxHeartbeats 2000000 in
theorem rfits_2 (s : ByteArray) (w : World) (h : 0 < s.size) (hn : sizeN s[0].toNat = 2) (hl : s.size ≤ 2) :
    Calls Tryd.prog 15 #[.string s] w fun e w' => e = .returned (.bool (fitB s.data.toList)) ∧ Below w.heap.size w w' := by
  have hne := eq_some s h
  have hb0 := UInt8.toNat_lt s[0]
  have hi0 : (0 : Int) ≤ s[0].toNat := by omega
  have hi1 : (s[0].toNat : Int) ≤ 255 := by omega
  have hld := lead_le hn (by decide)
  have hlen : (s.data.toList.drop 1).length = s.size - 1 := by simp
  obtain ⟨L, hL⟩ : ∃ L, s.data.toList.drop 1 = L := ⟨_, rfl⟩
  rw [hL] at hlen
  have hsn := fun j h1 h => drop_snoc s j h1 h
  rw [hL] at hsn
  have hfa := fun hc => fit_all s h 2 hn (by decide) hl hc _ _ rfl rfl
  rw [hL] at hfa
  have hfc := fun j h1 h hc => fit_cont s j h1 h hc
  have Hsn := hide hsn
  have Hfa := hide hfa
  have Hfc := hide hfc
  have hsz : (sizeN (s[0].toNat : Int).toNat : Int) = 2 := by rw [Int.toNat_natCast, hn]; rfl
  have hB : Below w.heap.size w ((w.alloc (.cells #[.int .i64 0, .int .i64 0, .int .i64 128, .int .i64 2048, .int .i64 65536] 3)).alloc (.cells #[.int .i64 0, .int .i64 0, .int .i64 2047, .int .i64 65535, .int .i64 1114111] 3)) := (((Below.refl _ _).alloc (Nat.le_refl _) _).alloc (by simp) _)
  have HB := hide hB
  have hb3 := size_bounds hn
  clear hsn hfa hfc hL hB hn
  obtain ⟨D, hD⟩ : ∃ D, leadN 2 s[0].toNat = D := ⟨_, rfl⟩
  have hDi : (s[0].toNat : Int) - 192 = D := by
    have : leadN 2 s[0].toNat = s[0].toNat - 192 := rfl
    have := hb3.1 rfl
    omega
  rw [hD] at hld Hfa
  have Hsz := hide hsz
  clear hsz hD hb3
  go_enter Tryd.func15, Tryd.ntmps15
  go_wp2_with (go_at_call 22; refine (size_is' _ 2 _ hi0 hi1 Hsz.out).mono ?_; rintro e w' ⟨rfl, hw⟩; rw [hw])
  go_loop [6, 7] (fun c i => ∃ j : Nat, 1 ≤ j ∧ j ≤ s.size ∧ i = .int .i64 j ∧ c = .int .i64 ((accN D (L.take (j - 1)) : Nat) : Int) ∧ (L.take (j - 1)).all contB = true) (fun _ i => s.size - (intOf i).toNat)
  case atStart => exact ⟨1, Nat.le_refl _, by omega, rfl, rfl, rfl⟩
  case round =>
    obtain ⟨j, hj1, hj2, rfl, rfl, hall⟩ := hrel
    have hbd := acc_bd (l := L.take (j - 1)) hld (Nat.le_trans (List.length_take_le _ _) (by omega))
    by_cases hlt : j < s.size
    · have hbj := UInt8.toNat_lt s[j]
      cases hc : contB s[j] with
      | false =>
        have hcn := cont_no hc
        have Hf := hide (Hfc.out j hj1 hlt hc)
        clear hc
        rcases hcn with hcn | hcn
        all_goals
          generalize accN D (L.take (j - 1)) = A at *
          go_wp2
          go_ret
          exact ⟨ret_bool Hf.out.symm, HB.out⟩
      | true =>
        rw [cont_iff] at hc
        obtain ⟨hc1, hc2⟩ := hc
        have hnx : accN D (L.take (j + 1 - 1)) = 64 * accN D (L.take (j - 1)) + (s[j].toNat - 128) := by
          rw [show j + 1 - 1 = j by omega, Hsn.out j hj1 hlt, acc_snoc]
        have hna : (L.take (j + 1 - 1)).all contB = true := by
          rw [show j + 1 - 1 = j by omega, Hsn.out j hj1 hlt, List.all_append, hall]
          simp [cont_iff, hc1, hc2]
        have Hnx := hide hnx
        have Hna := hide hna
        clear hnx hna hall
        generalize accN D (L.take (j - 1)) = A at *
        go_wp2
        go_round
        case rel => exact ⟨j + 1, by omega, by omega, by go_num, congrArg (Value.int .i64) (by rw [Hnx.out]; omega), Hna.out⟩
        case measure => simp [intOf]; omega
    · have htk : L.take (j - 1) = L := List.take_of_length_le (by omega)
      rw [htk] at hall hbd ⊢
      have Hf := hide (Hfa.out hall)
      have Hp := hide (fun m (hm : L.length + m ≤ 3) => acc_pow (l := L) (m := m) hld hm)
      clear htk hall
      generalize accN D L = A at *
      go_wp2
      go_loop [6, 8, 9] (fun c hh i => ∃ m : Nat, s.size + m ≤ 2 ∧ i = .int .i64 ((s.size + m : Nat) : Int) ∧ c = .int .i64 ((A * 64 ^ m : Nat) : Int) ∧ hh = .int .i64 ((A * 64 ^ m + (64 ^ m - 1) : Nat) : Int)) (fun _ _ i => 2 - (intOf i).toNat)
      case atStart => exact ⟨0, by omega, rfl, congrArg (Value.int .i64) (by simp), congrArg (Value.int .i64) (by simp)⟩
      case round =>
        obtain ⟨m, hm, rfl, rfl, rfl⟩ := hrel
        have hbm := Hp.out m (by omega)
        have hpos : 0 < 64 ^ m := Nat.pow_pos (by decide)
        by_cases hlt2 : s.size + m < 2
        · have hnx := pow_next m
          have Hnx := hide hnx
          clear hnx
          have hmul : A * (64 * 64 ^ m) = 64 * (A * 64 ^ m) := by rw [Nat.mul_left_comm]
          have Hmul := hide hmul
          clear hmul
          obtain ⟨P, hP⟩ : ∃ P, 64 ^ m = P := ⟨_, rfl⟩
          obtain ⟨R, hR⟩ : ∃ R, A * 64 ^ m = R := ⟨_, rfl⟩
          have hn1 : A * 64 ^ (m + 1) = 64 * R := by rw [Hnx.out, Hmul.out, hR]
          have hn2 : 64 ^ (m + 1) = 64 * P := by rw [Hnx.out, hP]
          have Hn1 := hide hn1
          have Hn2 := hide hn2
          rw [hR, hP] at hbm ⊢
          rw [hP] at hpos
          clear hn1 hn2 hP hR
          go_wp2
          go_round
          case rel => exact ⟨m + 1, by omega, by go_num, congrArg (Value.int .i64) (by rw [Hn1.out]; omega), congrArg (Value.int .i64) (by rw [Hn1.out, Hn2.out]; omega)⟩
          case measure => simp [intOf]; omega
        · have hme : 2 - s.size = m := by omega
          have Hf2 : Hid (someU (max ((A * 64 ^ m : Nat) : Int) 128) (min ((A * 64 ^ m + (64 ^ m - 1) : Nat) : Int) 2047) = fitB s.data.toList) := by
            have := Hf.out
            rw [hme] at this
            exact this.symm
          have hb1 : (A * 64 ^ m : Nat) ≤ 9000000 := by omega
          generalize A * 64 ^ m + (64 ^ m - 1) = hi2 at *
          generalize A * 64 ^ m = lo2 at *
          have hg1 : (128 : Int) > (lo2 : Int) ∨ ¬ (128 : Int) > (lo2 : Int) := Decidable.em _
          have hg2 : (2047 : Int) < (hi2 : Int) ∨ ¬ (2047 : Int) < (hi2 : Int) := Decidable.em _
          rcases hg1 with hg1 | hg1 <;> rcases hg2 with hg2 | hg2
          all_goals
            obtain ⟨M, hM⟩ : ∃ M : Int, M = max (lo2 : Int) 128 := ⟨_, rfl⟩
            obtain ⟨N, hN⟩ : ∃ N : Int, N = min (hi2 : Int) 2047 := ⟨_, rfl⟩
            have Hq := hide (fun a b (e1 : a = M) (e2 : b = N) W => some_at a b _ _ _ W (e1.trans hM) (e2.trans hN) (by omega) (by omega) (by omega) Hf2.out)
            clear Hf2 Hfa Hfc Hsn Hf Hp
            go_wp2
            go_quiet ((go_at_call 23; exact Calls.quiet_of_same (Hq.out _ _ (by omega) (by omega) _)))
            go_wp2
            go_ret
            exact ⟨rfl, below_drewN HB.out _⟩
end Go.Proofs.YtlhpmijhngojnaaDoor
