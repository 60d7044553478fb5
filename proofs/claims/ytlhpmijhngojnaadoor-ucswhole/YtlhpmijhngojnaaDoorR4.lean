/-
  WALKS: the reference's Fits (layer 4), where the first byte begins 4.
-/
import Derived.Test.YtlhpmijhngojnaaDoorW9
import Derived.Deep.QuietTactic
import Derived.BigQuiet
namespace Go.Proofs.YtlhpmijhngojnaaDoor
open Go.RowKit

theorem tables_at (w : World) : ((w.alloc (.cells #[.int .i64 0, .int .i64 0, .int .i64 128, .int .i64 2048, .int .i64 65536] 3)).alloc (.cells #[.int .i64 0, .int .i64 0, .int .i64 2047, .int .i64 65535, .int .i64 1114111] 3)).cell? ⟨w.heap.size, 4, none⟩ = some (.int .i64 65536) ∧ ((w.alloc (.cells #[.int .i64 0, .int .i64 0, .int .i64 128, .int .i64 2048, .int .i64 65536] 3)).alloc (.cells #[.int .i64 0, .int .i64 0, .int .i64 2047, .int .i64 65535, .int .i64 1114111] 3)).cell? ⟨w.heap.size + 1, 4, none⟩ = some (.int .i64 1114111) := by
  constructor
  · have h1 := Below.heap_alloc (w.alloc (.cells #[.int .i64 0, .int .i64 0, .int .i64 128, .int .i64 2048, .int .i64 65536] 3)) (.cells #[.int .i64 0, .int .i64 0, .int .i64 2047, .int .i64 65535, .int .i64 1114111] 3) w.heap.size (by simp)
    have h2 := heap_alloc_new w (.cells #[.int .i64 0, .int .i64 0, .int .i64 128, .int .i64 2048, .int .i64 65536] 3)
    rw [h2] at h1
    simp only [World.cell?, h1]
    rfl
  · have h2 := heap_alloc_new (w.alloc (.cells #[.int .i64 0, .int .i64 0, .int .i64 128, .int .i64 2048, .int .i64 65536] 3)) (.cells #[.int .i64 0, .int .i64 0, .int .i64 2047, .int .i64 65535, .int .i64 1114111] 3)
    rw [show (w.alloc (.cells #[.int .i64 0, .int .i64 0, .int .i64 128, .int .i64 2048, .int .i64 65536] 3)).heap.size = w.heap.size + 1 by simp] at h2
    simp only [World.cell?, h2]
    rfl

set_option maxRecDepth 20000 in
set_option maxHeartbeats 2000000 in
theorem rfits_4 (s : ByteArray) (w : World) (h : 0 < s.size) (hn : sizeN s[0].toNat = 4) (hl : s.size ≤ 4) :
    Calls Tryd.prog 15 #[.string s] w fun e w' => e = .returned (.bool (fitB s.data.toList)) ∧ Below w.heap.size w w' := by
  have hne := eq_some s h
  have hb0 := UInt8.toNat_lt s[0]
  have hi0 : (0 : Int) ≤ s[0].toNat := by omega
  have hi1 : (s[0].toNat : Int) ≤ 255 := by omega
  have hld := lead_le hn (by decide)
  have hlen : (s.data.toList.drop 1).length = s.size - 1 := by simp
  obtain ⟨L, hL⟩ : ∃ L, s.data.toList.drop 1 = L := ⟨_, rfl⟩
  rw [hL] at hlen
  have hsn := fun j h1 h => drop_snoc s j h1 h
  rw [hL] at hsn
  have hfa := fun hc => fit_all s h 4 hn (by decide) hl hc _ _ rfl rfl
  rw [hL] at hfa
  have hfc := fun j h1 h hc => fit_cont s j h1 h hc
  have Hsn := hide hsn
  have Hfa := hide hfa
  have Hfc := hide hfc
  have hsz : (sizeN (s[0].toNat : Int).toNat : Int) = 4 := by rw [Int.toNat_natCast, hn]; rfl
  have hB : Below w.heap.size w ((w.alloc (.cells #[.int .i64 0, .int .i64 0, .int .i64 128, .int .i64 2048, .int .i64 65536] 3)).alloc (.cells #[.int .i64 0, .int .i64 0, .int .i64 2047, .int .i64 65535, .int .i64 1114111] 3)) := (((Below.refl _ _).alloc (Nat.le_refl _) _).alloc (by simp) _)
  have HB := hide hB
  have hb3 := size_bounds hn
  clear hsn hfa hfc hL hB hn
  obtain ⟨D, hD⟩ : ∃ D, leadN 4 s[0].toNat = D := ⟨_, rfl⟩
  have hDi : (s[0].toNat : Int) - 240 = D := by
    have : leadN 4 s[0].toNat = s[0].toNat - 240 := rfl
    have := hb3.2.2 rfl
    omega
  rw [hD] at hld Hfa
  have Hsz := hide hsz
  clear hsz hD hb3
  go_enter Tryd.func15, Tryd.ntmps15
  go_wp2_with (go_at_call 22; refine (size_is' _ 4 _ hi0 hi1 Hsz.out).mono ?_; rintro e w' ⟨rfl, hw⟩; rw [hw])
  go_loop [6, 7] (fun c i => ∃ j : Nat, 1 ≤ j ∧ j ≤ s.size ∧ i = .int .i64 j ∧ c = .int .i64 ((accN D (L.take (j - 1)) : Nat) : Int) ∧ (L.take (j - 1)).all contB = true) (fun _ i => s.size - (intOf i).toNat)
  case atStart => exact ⟨1, Nat.le_refl _, by omega, rfl, rfl, rfl⟩
  case round =>
    obtain ⟨j, hj1, hj2, rfl, rfl, hall⟩ := hrel
    have hbd := acc_bd (l := L.take (j - 1)) hld (Nat.le_trans (List.length_take_le _ _) (by omega))
    by_cases hlt : j < s.size
    · have hbj := UInt8.toNat_lt s[j]
      cases hc : contB s[j] with
      | false =>
        have hcn := cont_no hc
        have Hf := hide (Hfc.out j hj1 hlt hc)
        clear hc
        rcases hcn with hcn | hcn
        all_goals
          generalize accN D (L.take (j - 1)) = A at *
          go_wp2
          go_ret
          exact ⟨ret_bool Hf.out.symm, HB.out⟩
      | true =>
        rw [cont_iff] at hc
        obtain ⟨hc1, hc2⟩ := hc
        have hnx : accN D (L.take (j + 1 - 1)) = 64 * accN D (L.take (j - 1)) + (s[j].toNat - 128) := by
          rw [show j + 1 - 1 = j by omega, Hsn.out j hj1 hlt, acc_snoc]
        have hna : (L.take (j + 1 - 1)).all contB = true := by
          rw [show j + 1 - 1 = j by omega, Hsn.out j hj1 hlt, List.all_append, hall]
          simp [cont_iff, hc1, hc2]
        have Hnx := hide hnx
        have Hna := hide hna
        clear hnx hna hall
        generalize accN D (L.take (j - 1)) = A at *
        go_wp2
        go_round
        case rel => exact ⟨j + 1, by omega, by omega, by go_num, congrArg (Value.int .i64) (by rw [Hnx.out]; omega), Hna.out⟩
        case measure => simp [intOf]; omega
    · have htk : L.take (j - 1) = L := List.take_of_length_le (by omega)
      rw [htk] at hall hbd ⊢
      have Hf := hide (Hfa.out hall)
      have Hp := hide (fun m (hm : L.length + m ≤ 3) => acc_pow (l := L) (m := m) hld hm)
      clear htk hall
      generalize accN D L = A at *
      go_wp2
      go_loop [6, 8, 9] (fun c hh i => ∃ m : Nat, s.size + m ≤ 4 ∧ i = .int .i64 ((s.size + m : Nat) : Int) ∧ c = .int .i64 ((A * 64 ^ m : Nat) : Int) ∧ hh = .int .i64 ((A * 64 ^ m + (64 ^ m - 1) : Nat) : Int)) (fun _ _ i => 4 - (intOf i).toNat)
      case atStart => exact ⟨0, by omega, rfl, congrArg (Value.int .i64) (by simp), congrArg (Value.int .i64) (by simp)⟩
      case round =>
        obtain ⟨m, hm, rfl, rfl, rfl⟩ := hrel
        have hbm := Hp.out m (by omega)
        have hpos : 0 < 64 ^ m := Nat.pow_pos (by decide)
        by_cases hlt2 : s.size + m < 4
        · have hnx := pow_next m
          have Hnx := hide hnx
          clear hnx
          have hmul : A * (64 * 64 ^ m) = 64 * (A * 64 ^ m) := by rw [Nat.mul_left_comm]
          have Hmul := hide hmul
          clear hmul
          obtain ⟨P, hP⟩ : ∃ P, 64 ^ m = P := ⟨_, rfl⟩
          obtain ⟨R, hR⟩ : ∃ R, A * 64 ^ m = R := ⟨_, rfl⟩
          have hn1 : A * 64 ^ (m + 1) = 64 * R := by rw [Hnx.out, Hmul.out, hR]
          have hn2 : 64 ^ (m + 1) = 64 * P := by rw [Hnx.out, hP]
          have Hn1 := hide hn1
          have Hn2 := hide hn2
          rw [hR, hP] at hbm ⊢
          rw [hP] at hpos
          clear hn1 hn2 hP hR
          go_wp2
          go_round
          case rel => exact ⟨m + 1, by omega, by go_num, congrArg (Value.int .i64) (by rw [Hn1.out]; omega), congrArg (Value.int .i64) (by rw [Hn1.out, Hn2.out]; omega)⟩
          case measure => simp [intOf]; omega
        · have hme : 4 - s.size = m := by omega
          have Hf2 : Hid (someU (max ((A * 64 ^ m : Nat) : Int) 65536) (min ((A * 64 ^ m + (64 ^ m - 1) : Nat) : Int) 1114111) = fitB s.data.toList) := by
            have := Hf.out
            rw [hme] at this
            exact this.symm
          have hb1 : (A * 64 ^ m : Nat) ≤ 9000000 := by omega
          generalize A * 64 ^ m + (64 ^ m - 1) = hi2 at *
          generalize A * 64 ^ m = lo2 at *
          have hB2 := HB.out
          obtain ⟨hc1, hc2⟩ := tables_at w
          obtain ⟨Q1, hQ1⟩ : ∃ Q : Int, (65536 : Int) = Q := ⟨_, rfl⟩
          obtain ⟨Q2, hQ2⟩ : ∃ Q : Int, (1114111 : Int) = Q := ⟨_, rfl⟩
          obtain ⟨M, hM⟩ : ∃ M : Int, M = max (lo2 : Int) Q1 := ⟨_, rfl⟩
          obtain ⟨N, hN⟩ : ∃ N : Int, N = min (hi2 : Int) Q2 := ⟨_, rfl⟩
          have Hq := hide (fun a b (e1 : a = M) (e2 : b = N) W => some_at a b (max (lo2 : Int) 65536) (min (hi2 : Int) 1114111) _ W (by rw [e1, hM, hQ1]) (by rw [e2, hN, hQ2]) (by omega) (by omega) (by omega) Hf2.out)
          generalize ((w.alloc (.cells #[.int .i64 0, .int .i64 0, .int .i64 128, .int .i64 2048, .int .i64 65536] 3)).alloc (.cells #[.int .i64 0, .int .i64 0, .int .i64 2047, .int .i64 65535, .int .i64 1114111] 3)) = W0 at *
          rw [hQ1] at hc1
          rw [hQ2] at hc2
          clear Hf2 Hfa Hfc Hsn Hf Hp HB hQ1 hQ2
          have hg1 : Q1 > (lo2 : Int) ∨ ¬ Q1 > (lo2 : Int) := Decidable.em _
          have hg2 : Q2 < (hi2 : Int) ∨ ¬ Q2 < (hi2 : Int) := Decidable.em _
          rcases hg1 with hg1 | hg1 <;> rcases hg2 with hg2 | hg2
          all_goals
            go_wp2
            go_quiet ((go_at_call 23; exact Calls.quiet_of_same (Hq.out _ _ (by omega) (by omega) _)))
            go_wp2
            go_ret
            exact ⟨rfl, below_drewN hB2 _⟩
end Go.Proofs.YtlhpmijhngojnaaDoor
