/-
  Joined by program out of the texts uR4 uW10 uW11 uA1 uA2 uW12.
-/
import Derived.Test.YtjbnofljoijnmaaGreatDoorY04
import Derived.Deep.QuietTactic
import Derived.BigQuiet
import Derived.Test.YtjbnofljoijnmaaGreatDoorY05
import Derived.Test.YtjbnofljoijnmaaGreatDoorShelf
/-
  WALKS: the reference's Fits (layer 4), where the first byte begins 4.
-/
namespace Go.Proofs.YtjbnofljoijnmaaGreatDooru
open Go.RowKit

theorem tables_at (w : World) : ((w.alloc (.cells #[.int .i64 0, .int .i64 0, .int .i64 128, .int .i64 2048, .int .i64 65536] 3)).alloc (.cells #[.int .i64 0, .int .i64 0, .int .i64 2047, .int .i64 65535, .int .i64 1114111] 3)).cell? ⟨w.heap.size, 4, none⟩ = some (.int .i64 65536) ∧ ((w.alloc (.cells #[.int .i64 0, .int .i64 0, .int .i64 128, .int .i64 2048, .int .i64 65536] 3)).alloc (.cells #[.int .i64 0, .int .i64 0, .int .i64 2047, .int .i64 65535, .int .i64 1114111] 3)).cell? ⟨w.heap.size + 1, 4, none⟩ = some (.int .i64 1114111) := by
  constructor
  · have h1 := Below.heap_alloc (w.alloc (.cells #[.int .i64 0, .int .i64 0, .int .i64 128, .int .i64 2048, .int .i64 65536] 3)) (.cells #[.int .i64 0, .int .i64 0, .int .i64 2047, .int .i64 65535, .int .i64 1114111] 3) w.heap.size (by simp)
    have h2 := heap_alloc_new w (.cells #[.int .i64 0, .int .i64 0, .int .i64 128, .int .i64 2048, .int .i64 65536] 3)
    rw [h2] at h1
    simp only [World.cell?, h1]
    rfl
  · have h2 := heap_alloc_new (w.alloc (.cells #[.int .i64 0, .int .i64 0, .int .i64 128, .int .i64 2048, .int .i64 65536] 3)) (.cells #[.int .i64 0, .int .i64 0, .int .i64 2047, .int .i64 65535, .int .i64 1114111] 3)
    rw [show (w.alloc (.cells #[.int .i64 0, .int .i64 0, .int .i64 128, .int .i64 2048, .int .i64 65536] 3)).heap.size = w.heap.size + 1 by simp] at h2
    simp only [World.cell?, h2]
    rfl

set_option maxRecDepth 20000 in
set_option maxHeartbeats 2000000 in
theorem rfits_4 (s : ByteArray) (w : World) (h : 0 < s.size) (hn : sizeN s[0].toNat = 4) (hl : s.size ≤ 4) :
    Calls Tryz.prog 45 #[.string s] w fun e w' => e = .returned (.bool (fitB s.data.toList)) ∧ Below w.heap.size w w' := by
  have hne := eq_some s h
  have hb0 := UInt8.toNat_lt s[0]
  have hi0 : (0 : Int) ≤ s[0].toNat := by omega
  have hi1 : (s[0].toNat : Int) ≤ 255 := by omega
  have hld := lead_le hn (by decide)
  have hlen : (s.data.toList.drop 1).length = s.size - 1 := by simp
  obtain ⟨L, hL⟩ : ∃ L, s.data.toList.drop 1 = L := ⟨_, rfl⟩
  rw [hL] at hlen
  have hsn := fun j h1 h => drop_snoc s j h1 h
  rw [hL] at hsn
  have hfa := fun hc => fit_all s h 4 hn (by decide) hl hc _ _ rfl rfl
  rw [hL] at hfa
  have hfc := fun j h1 h hc => fit_cont s j h1 h hc
  have Hsn := hide hsn
  have Hfa := hide hfa
  have Hfc := hide hfc
  have hsz : (sizeN (s[0].toNat : Int).toNat : Int) = 4 := by rw [Int.toNat_natCast, hn]; rfl
  have hB : Below w.heap.size w ((w.alloc (.cells #[.int .i64 0, .int .i64 0, .int .i64 128, .int .i64 2048, .int .i64 65536] 3)).alloc (.cells #[.int .i64 0, .int .i64 0, .int .i64 2047, .int .i64 65535, .int .i64 1114111] 3)) := (((Below.refl _ _).alloc (Nat.le_refl _) _).alloc (by simp) _)
  have HB := hide hB
  have hb3 := size_bounds hn
  clear hsn hfa hfc hL hB hn
  obtain ⟨D, hD⟩ : ∃ D, leadN 4 s[0].toNat = D := ⟨_, rfl⟩
  have hDi : (s[0].toNat : Int) - 240 = D := by
    have : leadN 4 s[0].toNat = s[0].toNat - 240 := rfl
    have := hb3.2.2 rfl
    omega
  rw [hD] at hld Hfa
  have Hsz := hide hsz
  clear hsz hD hb3
  go_enter Tryz.func45, Tryz.ntmps45
  go_wp2_with (go_at_call 64; refine (size_is' _ 4 _ hi0 hi1 Hsz.out).mono ?_; rintro e w' ⟨rfl, hw⟩; rw [hw])
  go_loop [6, 7] (fun c i => ∃ j : Nat, 1 ≤ j ∧ j ≤ s.size ∧ i = .int .i64 j ∧ c = .int .i64 ((accN D (L.take (j - 1)) : Nat) : Int) ∧ (L.take (j - 1)).all contB = true) (fun _ i => s.size - (intOf i).toNat)
  case atStart => exact ⟨1, Nat.le_refl _, by omega, rfl, rfl, rfl⟩
  case round =>
    obtain ⟨j, hj1, hj2, rfl, rfl, hall⟩ := hrel
    have hbd := acc_bd (l := L.take (j - 1)) hld (Nat.le_trans (List.length_take_le _ _) (by omega))
    by_cases hlt : j < s.size
    · have hbj := UInt8.toNat_lt s[j]
      cases hc : contB s[j] with
      | false =>
        have hcn := cont_no hc
        have Hf := hide (Hfc.out j hj1 hlt hc)
        clear hc
        rcases hcn with hcn | hcn
        all_goals
          generalize accN D (L.take (j - 1)) = A at *
          go_wp2
          go_ret
          exact ⟨ret_bool Hf.out.symm, HB.out⟩
      | true =>
        rw [cont_iff] at hc
        obtain ⟨hc1, hc2⟩ := hc
        have hnx : accN D (L.take (j + 1 - 1)) = 64 * accN D (L.take (j - 1)) + (s[j].toNat - 128) := by
          rw [show j + 1 - 1 = j by omega, Hsn.out j hj1 hlt, acc_snoc]
        have hna : (L.take (j + 1 - 1)).all contB = true := by
          rw [show j + 1 - 1 = j by omega, Hsn.out j hj1 hlt, List.all_append, hall]
          simp [cont_iff, hc1, hc2]
        have Hnx := hide hnx
        have Hna := hide hna
        clear hnx hna hall
        generalize accN D (L.take (j - 1)) = A at *
        go_wp2
        go_round
        case rel => exact ⟨j + 1, by omega, by omega, by go_num, congrArg (Value.int .i64) (by rw [Hnx.out]; omega), Hna.out⟩
        case measure => simp [intOf]; omega
    · have htk : L.take (j - 1) = L := List.take_of_length_le (by omega)
      rw [htk] at hall hbd ⊢
      have Hf := hide (Hfa.out hall)
      have Hp := hide (fun m (hm : L.length + m ≤ 3) => acc_pow (l := L) (m := m) hld hm)
      clear htk hall
      generalize accN D L = A at *
      go_wp2
      go_loop [6, 8, 9] (fun c hh i => ∃ m : Nat, s.size + m ≤ 4 ∧ i = .int .i64 ((s.size + m : Nat) : Int) ∧ c = .int .i64 ((A * 64 ^ m : Nat) : Int) ∧ hh = .int .i64 ((A * 64 ^ m + (64 ^ m - 1) : Nat) : Int)) (fun _ _ i => 4 - (intOf i).toNat)
      case atStart => exact ⟨0, by omega, rfl, congrArg (Value.int .i64) (by simp), congrArg (Value.int .i64) (by simp)⟩
      case round =>
        obtain ⟨m, hm, rfl, rfl, rfl⟩ := hrel
        have hbm := Hp.out m (by omega)
        have hpos : 0 < 64 ^ m := Nat.pow_pos (by decide)
        by_cases hlt2 : s.size + m < 4
        · have hnx := pow_next m
          have Hnx := hide hnx
          clear hnx
          have hmul : A * (64 * 64 ^ m) = 64 * (A * 64 ^ m) := by rw [Nat.mul_left_comm]
          have Hmul := hide hmul
          clear hmul
          obtain ⟨P, hP⟩ : ∃ P, 64 ^ m = P := ⟨_, rfl⟩
          obtain ⟨R, hR⟩ : ∃ R, A * 64 ^ m = R := ⟨_, rfl⟩
          have hn1 : A * 64 ^ (m + 1) = 64 * R := by rw [Hnx.out, Hmul.out, hR]
          have hn2 : 64 ^ (m + 1) = 64 * P := by rw [Hnx.out, hP]
          have Hn1 := hide hn1
          have Hn2 := hide hn2
          rw [hR, hP] at hbm ⊢
          rw [hP] at hpos
          clear hn1 hn2 hP hR
          go_wp2
          go_round
          case rel => exact ⟨m + 1, by omega, by go_num, congrArg (Value.int .i64) (by rw [Hn1.out]; omega), congrArg (Value.int .i64) (by rw [Hn1.out, Hn2.out]; omega)⟩
          case measure => simp [intOf]; omega
        · have hme : 4 - s.size = m := by omega
          have Hf2 : Hid (someU (max ((A * 64 ^ m : Nat) : Int) 65536) (min ((A * 64 ^ m + (64 ^ m - 1) : Nat) : Int) 1114111) = fitB s.data.toList) := by
            have := Hf.out
            rw [hme] at this
            exact this.symm
          have hb1 : (A * 64 ^ m : Nat) ≤ 9000000 := by omega
          generalize A * 64 ^ m + (64 ^ m - 1) = hi2 at *
          generalize A * 64 ^ m = lo2 at *
          have hB2 := HB.out
          obtain ⟨hc1, hc2⟩ := tables_at w
          obtain ⟨Q1, hQ1⟩ : ∃ Q : Int, (65536 : Int) = Q := ⟨_, rfl⟩
          obtain ⟨Q2, hQ2⟩ : ∃ Q : Int, (1114111 : Int) = Q := ⟨_, rfl⟩
          obtain ⟨M, hM⟩ : ∃ M : Int, M = max (lo2 : Int) Q1 := ⟨_, rfl⟩
          obtain ⟨N, hN⟩ : ∃ N : Int, N = min (hi2 : Int) Q2 := ⟨_, rfl⟩
          have Hq := hide (fun a b (e1 : a = M) (e2 : b = N) W => some_at a b (max (lo2 : Int) 65536) (min (hi2 : Int) 1114111) _ W (by rw [e1, hM, hQ1]) (by rw [e2, hN, hQ2]) (by omega) (by omega) (by omega) Hf2.out)
          generalize ((w.alloc (.cells #[.int .i64 0, .int .i64 0, .int .i64 128, .int .i64 2048, .int .i64 65536] 3)).alloc (.cells #[.int .i64 0, .int .i64 0, .int .i64 2047, .int .i64 65535, .int .i64 1114111] 3)) = W0 at *
          rw [hQ1] at hc1
          rw [hQ2] at hc2
          clear Hf2 Hfa Hfc Hsn Hf Hp HB hQ1 hQ2
          have hg1 : Q1 > (lo2 : Int) ∨ ¬ Q1 > (lo2 : Int) := Decidable.em _
          have hg2 : Q2 < (hi2 : Int) ∨ ¬ Q2 < (hi2 : Int) := Decidable.em _
          rcases hg1 with hg1 | hg1 <;> rcases hg2 with hg2 | hg2
          all_goals
            go_wp2
            go_quiet ((go_at_call 65; exact Calls.quiet_of_same (Hq.out _ _ (by omega) (by omega) _)))
            go_wp2
            go_ret
            exact ⟨rfl, below_drewN hB2 _⟩
end Go.Proofs.YtjbnofljoijnmaaGreatDooru

/-
  WALKS: the reference's Fits (layer 4).
-/
namespace Go.Proofs.YtjbnofljoijnmaaGreatDooru
open Go.RowKit

set_option maxRecDepth 20000 in
set_option maxHeartbeats 2000000 in
theorem rfits_any (s : ByteArray) (w : World) :
    Calls Tryz.prog 45 #[.string s] w fun e w' => e = .returned (.bool (fitB s.data.toList)) ∧ Below w.heap.size w w' := by
  by_cases h : 0 < s.size
  · have hb0 := UInt8.toNat_lt s[0]
    have hi0 : (0 : Int) ≤ s[0].toNat := by omega
    have hi1 : (s[0].toNat : Int) ≤ 255 := by omega
    have hne := eq_some s h
    obtain ⟨n, hn⟩ : ∃ n, sizeN s[0].toNat = n := ⟨_, rfl⟩
    by_cases h0 : n = 0
    · have Hf := hide (fit_size0 s h (by omega))
      have Hsz : Hid ((sizeN (s[0].toNat : Int).toNat : Int) = 0) := by show (sizeN (s[0].toNat : Int).toNat : Int) = 0; rw [Int.toNat_natCast, hn, h0]; rfl
      clear hn h0
      go_enter Tryz.func45, Tryz.ntmps45
      go_wp2_with (go_at_call 64; refine (size_is' _ 0 _ hi0 hi1 Hsz.out).mono ?_; rintro e w' ⟨rfl, hw⟩; rw [hw])
      go_ret
      exact ⟨ret_bool Hf.out.symm, Below.refl _ _⟩
    · by_cases hl : s.size ≤ n
      · have h234 := size_is s[0].toNat
        rw [hn] at h234
        rcases h234 with rfl | rfl | rfl | rfl
        · exact absurd rfl h0
        · exact rfits_2 s w h hn hl
        · exact rfits_3 s w h hn hl
        · exact rfits_4 s w h hn hl
      · have Hf := hide (fit_long s h (by omega))
        have Hsz : Hid ((sizeN (s[0].toNat : Int).toNat : Int) = n) := by show (sizeN (s[0].toNat : Int).toNat : Int) = n; rw [Int.toNat_natCast, hn]
        have hn4 : n ≤ 4 := by have := size_is s[0].toNat; omega
        have hn0 : ((n : Int) == 0) = false := by simp; omega
        clear hn h0
        go_enter Tryz.func45, Tryz.ntmps45
        go_wp2_with (go_at_call 64; refine (size_is' _ n _ hi0 hi1 Hsz.out).mono ?_; rintro e w' ⟨rfl, hw⟩; rw [hw])
        go_ret
        exact ⟨ret_bool Hf.out.symm, Below.refl _ _⟩
  · have hne := eq_none s h
    have Hf := hide (fit_empty s h)
    go_enter Tryz.func45, Tryz.ntmps45
    go_wp2
    go_ret
    exact ⟨ret_bool Hf.out.symm, Below.refl _ _⟩
theorem rfits_is (s : ByteArray) (b : Bool) (w : World) (h : fitB s.data.toList = b) :
    Calls Tryz.prog 45 #[.string s] w fun e w' => e = .returned (.bool b) ∧ Below w.heap.size w w' := by
  subst h; exact rfits_any s w
end Go.Proofs.YtjbnofljoijnmaaGreatDooru

/-
  WALKS: what the laws of layer 4 need beside the program's own functions: One of a number that is no character; bytes made a text; the document's answers in their short forms.
-/
namespace Go.Proofs.YtjbnofljoijnmaaGreatDooru
open Go.RowKit Go.Lib YtjbnofljoijnmaaGreatDoor

/-- bytes of a new block as a text -/
theorem conv_bytes (w : World) (l : List UInt8) (C : Array Value) (n : Nat) (hC : C = (byteCells l).toArray) (hn : n = l.length) :
    (convert 39 9 (.slice (some ⟨w.heap.size, 0, none⟩) n n)).run Tryz.prog (w.alloc (.cells C 5)) = .ok (.string ⟨l.toArray⟩) (w.alloc (.cells C 5)) := by
  subst hn hC
  refine run_convert_bytes_back _ 39 9 5 ⟨w.heap.size, 0, none⟩ _ l Tryz.underlying39 Tryz.underlying5 Tryz.underlying9 ?_
  intro j hj
  rw [show (⟨w.heap.size, 0, none⟩ : Addr).add j = ⟨w.heap.size, j, none⟩ by simp [Addr.add]; omega, World.cell?_alloc_mark]
  simp [byteCells, hj]
/-- one byte made a text -/
theorem conv_one (w : World) (x : Int) (h0 : 0 ≤ x) (h1 : x ≤ 255) :
    (convert 39 9 (.slice (some ⟨w.heap.size, 0, none⟩) 1 1)).run Tryz.prog (w.alloc (.cells #[.int .u8 x] 5)) = .ok (.string ⟨#[x.toNat.toUInt8]⟩) (w.alloc (.cells #[.int .u8 x] 5)) := by
  refine conv_bytes w [x.toNat.toUInt8] _ 1 ?_ rfl
  have : x.toNat.toUInt8.toNat = x.toNat := u8 _ (by omega)
  simp only [byteCells, List.map_cons, List.map_nil, this]
  rw [show ((x.toNat : Nat) : Int) = x by omega]

/-- One of a surrogate's number -/
def surL (c : Int) : List UInt8 := [(224 + c / 4096).toNat.toUInt8, (128 + c / 64 % 64).toNat.toUInt8, (128 + c % 64).toNat.toUInt8]
/-! ### What is taken -/
theorem take_enc (c : Int) (h : mayU c = true) (t : List UInt8) : YtjbnofljoijnmaaGreatDoor.takeC (encodeRune c ++ t) = c ∧ takeN (encodeRune c ++ t) = (encodeRune c).length := by
  have hb := (mayU_may h).1
  have hd := dec_enc c hb t
  have hg := not_bad_enc c hb t
  have hne : encodeRune c ++ t ≠ [] := by simp [enc_ne c]
  have h0 := (mayB_iff c).1 hb
  have f1 : firstC (encodeRune c ++ t) = c := by unfold firstC; rw [if_neg (by simp [hne, hg]), hd]; simp; omega
  have f2 : firstN (encodeRune c ++ t) = (encodeRune c).length := by unfold firstN; rw [if_neg (by simp [hne, hg]), hd]
  have h3 := (enc_len c).1
  unfold YtjbnofljoijnmaaGreatDoor.takeC takeN
  have hn : ¬ ((encodeRune c).length = 0 ∨ mayU c = false) := by
    intro hh
    rcases hh with hh | hh
    · omega
    · rw [h] at hh; cases hh
  rw [f1, f2, if_neg hn, if_neg hn]
  exact ⟨rfl, rfl⟩
theorem take_none {l : List UInt8} (h : ∀ c t, mayB c = true → l ≠ encodeRune c ++ t) : YtjbnofljoijnmaaGreatDoor.takeC l = 0 ∧ takeN l = 0 := by
  have hb : l = [] ∨ badL l = true := by
    apply Classical.byContradiction
    intro hn
    have hne : l ≠ [] := fun e => hn (.inl e)
    have hg : badL l = false := by cases hh : badL l with | false => rfl | true => exact absurd (.inr hh) hn
    exact h _ _ (dec_may l) (dec_good l hne hg).1
  unfold YtjbnofljoijnmaaGreatDoor.takeC takeN firstN
  rw [if_pos hb]
  simp
end Go.Proofs.YtjbnofljoijnmaaGreatDooru

/-
  WALKS: utf.May and the reference's May; utf.broken; utf.each, whatever closure it is handed.
-/
namespace Go.Proofs.YtjbnofljoijnmaaGreatDooru
open Go.RowKit YtjbnofljoijnmaaGreatDoor

set_option maxHeartbeats 400000 in
theorem broken_any (c : Int) (s : ByteArray) (w : World) :
    Calls Tryz.prog 116 #[.int .i32 c, .string s] w fun e w' => e = .returned (.bool (brokenB c s.data.toList)) ∧ w' = w := by
  have hx : (s.extract 0 3).toList = s.data.toList.take 3 := by rw [Lib.extract_toList]; rfl
  have hl : s.data.toList.length = s.size := by simp
  go_enter Tryz.func116, Tryz.ntmps116
  go_wp2
  · go_ret
    refine ⟨ret_bool ?_, rfl⟩
    unfold brokenB
    rw [Bool.eq_iff_iff]
    simp [*]
  · go_ret
    refine ⟨ret_bool ?_, rfl⟩
    unfold brokenB
    have : s.data.toList.take 3 ≠ [239, 191, 189] := by
      intro h
      have := congrArg List.length h
      simp at this
      omega
    simp [this]
  · go_ret
    refine ⟨ret_bool ?_, rfl⟩
    unfold brokenB
    simp
    intro h
    simp [h] at *



theorem broken_is (c : Int) (s : ByteArray) (w : World) (b : Bool) (h : brokenB c s.data.toList = b) :
    Calls Tryz.prog 116 #[.int .i32 c, .string s] w fun e w' => e = .returned (.bool b) ∧ w' = w := by
  subst h
  exact broken_any c s w


set_option maxHeartbeats 1000000 in
/-- utf.each over any closure: 'Inv cs W': what the world is like when just the characters cs have been taken; 'Stop cs c W': when behind them c was refused. -/
theorem each_any (g : Nat) (lb : Array Value) (eg : ∀ args w, (callFunc g args).run Tryz.prog w = .ok (.enter g args) w) (s : ByteArray) (w : World)
    (Inv : List Int → World → Prop) (Stop : List Int → Int → World → Prop)
    (h0 : Inv [] (w.iter s 0))
    (hmove : ∀ cs W pos pos', Inv cs W → W.heap[w.heap.size]? = some (.stringIter s pos) → Inv cs (W.iterAt w.heap.size s pos'))
    (hstep : ∀ cs c W pos, Inv cs W → W.heap[w.heap.size]? = some (.stringIter s pos) → mayB c = true → cs.length < s.size →
      Calls Tryz.prog g (#[.int .i32 c] ++ lb) W fun e w' => ∃ b, e = .returned (.bool b) ∧ w'.heap[w.heap.size]? = some (.stringIter s pos) ∧ (b = true → Inv (cs ++ [c]) w') ∧ (b = false → Stop cs c w')) :
    Calls Tryz.prog 103 #[.string s, .func (.func g) #[] lb] w fun e w' =>
      (e = .returned (.int .i64 (blen s.data.toList)) ∧ Inv (chars s.data.toList) w') ∨
      (∃ cs c r, chars s.data.toList = cs ++ c :: r ∧ e = .returned (.int .i64 (textL cs).length) ∧ Stop cs c w') := by
  have Hm := hide hmove
  have Hs := hide hstep
  clear hmove hstep
  go_enter Tryz.func103, Tryz.ntmps103
  go_wp2
  go_loopw [] (fun wr => ∃ (cs : List Int) (t : List UInt8), wr.heap[w.heap.size]? = some (.stringIter s (textL cs).length) ∧ s.data.toList = textL cs ++ t ∧ allMay cs = true ∧ Inv cs wr) (fun wr => s.size - wr.iterPos (w.heap.size))
  case atStart => exact ⟨[], s.data.toList, World.iter_heap w s 0, rfl, rfl, h0⟩
  case round =>
    obtain ⟨cs, t, hit, hst, hm, hI⟩ := hrel
    have hlen : s.size = (textL cs).length + t.length := by
      have := congrArg List.length hst
      simpa using this
    have hcl := (textL_len cs).1
    generalize hpe : (textL cs).length = pos at hit hlen hcl
    have hdr : s.data.toList.drop pos = t := by rw [hst, ← hpe, List.drop_left]
    have hdd : Lib.decodeL t = Utf8.decode s pos := by rw [← hdr]; exact Lib.decodeL_drop s pos
    have hrest : (s.extract pos s.size).data.toList = t := by rw [extract_rest, hdr]
    have Hst := hide hst
    have Hpe := hide hpe
    have Hdd := hide hdd
    have Hrest := hide hrest
    have Hlen := hide hlen
    have hm1 := dec_may t
    rw [hdd] at hm1
    have Hm1 := hide hm1
    clear hst hdr hpe hdd hrest hlen hm1
    by_cases hp : pos < s.size
    · have hne : t ≠ [] := by intro h; have := Hlen.out; rw [h] at this; simp at this; omega
      have hbr := broken_eq t hne
      rw [Hdd.out] at hbr
      have Hbr := hide hbr
      have Hne := hide hne
      clear hbr hne
      have hnx : ∀ ty, (Instr.next (.pointer (some ⟨w.heap.size, 0, none⟩)) true ty).run Tryz.prog wr = _ := fun ty => Lib.run_next_any_at wr (w.heap.size) s pos ty hit hp
      have hit2 := Lib.iterAt_heap wr w.heap.size s pos (pos + (Utf8.decode s pos).2) hit
      have hI2 := Hm.out cs wr pos (pos + (Utf8.decode s pos).2) hI hit
      cases hb : badL t with
      | true =>
        have Hb := hide hb
        clear hb
        go_wp2_with (go_at_call 116; refine (broken_is _ _ _ true (by rw [Hrest.out, Hbr.out]; exact Hb.out)).mono ?_; rintro e w' ⟨rfl, hw⟩; rw [hw])
        go_ret
        obtain ⟨hc1, hc2⟩ := chars_at Hst.out hm (.inr Hb.out)
        exact .inl ⟨by rw [hc2, Hpe.out]; rfl, by rw [hc1]; exact hI2⟩
      | false =>
        have Hb := hide hb
        clear hb
        go_wp2_with (first | (go_at_call 116; refine (broken_is _ _ _ false (by rw [Hrest.out, Hbr.out]; exact Hb.out)).mono ?_; rintro e w' ⟨rfl, hw⟩; rw [hw]) | (go_at_fn g; refine (Hs.out cs _ _ _ hI2 hit2 Hm1.out (by omega)).mono ?_))
        rintro e w1 ⟨b, rfl, hit3, hT, hF⟩
        have hg := dec_good t Hne.out Hb.out
        rw [Hdd.out] at hg
        have hst2 : s.data.toList = textL (cs ++ [((Utf8.decode s pos).1 : Int)]) ++ t.drop (Utf8.decode s pos).2 := by
          rw [textL_append, textL_one, List.append_assoc, ← hg.1]; exact Hst.out
        have hm2 : allMay (cs ++ [((Utf8.decode s pos).1 : Int)]) = true := by
          rw [allMay_append, hm, allMay_cons, Hm1.out]; rfl
        have hpos2 : (textL (cs ++ [((Utf8.decode s pos).1 : Int)])).length = pos + (Utf8.decode s pos).2 := by
          rw [textL_append, textL_one, List.length_append, Hpe.out, hg.2]
        have hwd := Lib.width_pos s pos
        have Hst2 := hide hst2
        have Hpos2 := hide hpos2
        clear hst2 hpos2 hg
        cases b with
        | true =>
          have hI3 := hT rfl
          clear hT hF
          go_wp2
          go_roundw
          case rel => exact ⟨_, _, by rw [Hpos2.out]; exact hit3, Hst2.out, hm2, hI3⟩
          case measure =>
            simp only [World.iterPos, hit3, hit]
            omega
        | false =>
          have hS := hF rfl
          clear hT hF
          go_wp2
          go_ret
          refine .inr ⟨cs, ((Utf8.decode s pos).1 : Int), chars (t.drop (Utf8.decode s pos).2), ?_, by rw [Hpe.out]; rfl, hS⟩
          have := (chars_append _ (t.drop (Utf8.decode s pos).2) hm2).1
          rw [← Hst2.out] at this
          rw [this]
          simp
    · have hnx : ∀ ty, (Instr.next (.pointer (some ⟨w.heap.size, 0, none⟩)) true ty).run Tryz.prog wr = _ := fun ty => Lib.run_next_end_at wr (w.heap.size) s pos ty hit hp
      have ht : t = [] := List.eq_nil_of_length_eq_zero (by have := Hlen.out; omega)
      obtain ⟨hc1, hc2⟩ := chars_at Hst.out hm (.inl ht)
      have e1 : s.size = pos := by have := Hlen.out; rw [ht] at this; simpa using this
      have He := hide e1
      have Ht := hide ht
      have Hc1 := hide hc1
      have Hc2 := hide hc2
      clear e1 ht hc1 hc2
      go_wp2
      go_ret
      exact .inl ⟨by rw [Hc2.out, Hpe.out]; exact ret_int (by rw [He.out]), by rw [Hc1.out]; exact hI⟩
end Go.Proofs.YtjbnofljoijnmaaGreatDooru

/-
  WALKS: the four closures that utf.each is handed; utf.Bad, Valid, Count, Prefix, Chars.
-/
namespace Go.Proofs.YtjbnofljoijnmaaGreatDooru
open Go.RowKit YtjbnofljoijnmaaGreatDoor

theorem enters24 : ∀ args w, (callFunc 105 args).run Tryz.prog w = .ok (.enter 105 args) w := enters_of Tryz.func105 (by kernel_rfl) rfl
theorem enters28 : ∀ args w, (callFunc 104 args).run Tryz.prog w = .ok (.enter 104 args) w := enters_of Tryz.func104 (by kernel_rfl) rfl

theorem box_iterAt {W : World} {b k : Nat} {o : Obj} {s : ByteArray} {pos : Nat} (h : W.heap[b]? = some o) (hbk : b ≠ k) : (W.iterAt k s pos).heap[b]? = some o := by
  rw [Lib.iterAt_other W k b s pos hbk]; exact h

/-! ### utf.Bad, utf.Valid -/
/-- a text is valid -/
def validB (l : List UInt8) : Bool := decide (blen l = l.length)

/-! ### utf.Count -/
theorem new_box (w : World) (v : Value) (t : TypeId) : (w.alloc (.cells #[v] t)).heap[w.heap.size]? = some (.cells #[v] t (0, 0)) := by
  show (w.heap.push _)[w.heap.size]? = _
  simp

/-! ### utf.Prefix -/
set_option maxHeartbeats 400000 in
theorem prefix1 (c : Int) (b a : Nat) (n : Nat) (m : Int) (w : World) (hb : w.heap[b]? = some (.cells #[.int .i64 n] 3 (0, 0))) (ha : w.heap[a]? = some (.cells #[.int .i64 m] 3 (0, 0))) (hab : a ≠ b) (hn : n < 9223372036854775807) :
    Calls Tryz.prog 104 #[.int .i32 c, .pointer (some ⟨b, 0, none⟩), .pointer (some ⟨a, 0, none⟩)] w fun e w' => e = .returned (.bool (decide ((n + 1 : Nat) ≤ m))) ∧ w' = w.setCell ⟨b, 0, none⟩ (.int .i64 (n + 1 : Nat)) := by
  have h1 := cell_of_one hb
  have h2 := free_of_one hb
  have h3 := cell_of_one ha
  have h4 : (w.setCell ⟨b, 0, none⟩ (.int .i64 (n + 1))).cell? ⟨a, 0, none⟩ = some (.int .i64 m) := (World.cell?_of_block (w := w) (a := ⟨a, 0, none⟩) (Below.heap_setCell w ⟨b, 0, none⟩ _ a hab)).trans h3
  go_enter Tryz.func104, Tryz.ntmps104
  go_wp2
  all_goals go_ret
  all_goals exact ⟨rfl, rfl⟩

/-- the two blocks behind so many characters: how many may be taken, how many were -/
def PrefixInv (w : World) (m : Int) (cs : List Int) (W : World) : Prop :=
  Below w.heap.size w W ∧ W.heap[w.heap.size]? = some (.cells #[.int .i64 m] 3 (0, 0)) ∧ W.heap[w.heap.size + 1]? = some (.cells #[.int .i64 cs.length] 3 (0, 0)) ∧ (cs = [] ∨ (cs.length : Int) ≤ m)

theorem take_pre {cs : List Int} {c : Int} {r l : List Int} {m : Int} (h : l = cs ++ c :: r) (h1 : cs = [] ∨ (cs.length : Int) ≤ m) (h2 : ¬ ((cs.length + 1 : Nat) : Int) ≤ m) : l.take m.toNat = cs := by
  have e : m.toNat = cs.length := by
    rcases h1 with rfl | h1
    · simp at h2 ⊢; omega
    · omega
  rw [h, e]
  simp
theorem take_all {cs : List Int} {m : Int} (h1 : cs = [] ∨ (cs.length : Int) ≤ m) : cs.take m.toNat = cs := by
  rcases h1 with rfl | h1
  · simp
  · apply List.take_of_length_le; omega

theorem each_prefix (s : ByteArray) (m : Int) (w : World) (hs : s.size ≤ 9223372036854775807) :
    Calls Tryz.prog 103 #[.string s, .func (.func 104) #[] #[.pointer (some ⟨w.heap.size + 1, 0, none⟩), .pointer (some ⟨w.heap.size, 0, none⟩)]] ((w.alloc (.cells #[.int .i64 m] 3)).alloc (.cells #[.int .i64 0] 3)) fun e w' => e = .returned (.int .i64 (textL ((chars s.data.toList).take m.toNat)).length) ∧ Below w.heap.size w w' := by
  have hz : ((w.alloc (.cells #[.int .i64 m] 3)).alloc (.cells #[.int .i64 0] 3)).heap.size = w.heap.size + 2 := by simp
  have hz1 : (w.alloc (.cells #[.int .i64 m] 3)).heap.size = w.heap.size + 1 := by simp
  refine (each_any 104 _ enters28 s _ (PrefixInv w m) (fun cs _ W => ¬ ((cs.length + 1 : Nat) : Int) ≤ m ∧ (cs = [] ∨ (cs.length : Int) ≤ m) ∧ Below w.heap.size w W) ?_ ?_ ?_).mono ?_
  · refine ⟨(((Below.refl _ _).alloc (Nat.le_refl _) _).alloc (by simp) _).alloc (by omega) _, ?_, ?_, .inl rfl⟩
    · show (((w.alloc (.cells #[.int .i64 m] 3)).alloc (.cells #[.int .i64 0] 3)).alloc (.stringIter s 0)).heap[w.heap.size]? = _
      rw [Below.heap_alloc _ _ _ (by omega), Below.heap_alloc _ _ _ (by omega)]
      exact new_box w _ _
    · show (((w.alloc (.cells #[.int .i64 m] 3)).alloc (.cells #[.int .i64 0] 3)).alloc (.stringIter s 0)).heap[w.heap.size + 1]? = _
      rw [Below.heap_alloc _ _ _ (by omega), ← hz1]
      exact new_box _ _ _
  · intro cs W pos pos' h hit
    rw [hz] at hit ⊢
    exact ⟨Lib.below_iterAt h.1 (by omega) s pos', box_iterAt h.2.1 (by omega), box_iterAt h.2.2.1 (by omega), h.2.2.2⟩
  · intro cs c W pos h hit _ hlt
    rw [hz] at hit ⊢
    refine (prefix1 c (w.heap.size + 1) w.heap.size cs.length m W h.2.2.1 h.2.1 (by omega) (by omega)).mono ?_
    rintro e w' ⟨rfl, rfl⟩
    refine ⟨_, rfl, ?_, fun hd => ⟨h.1.setCell (by simp) _, ?_, ?_, .inr ?_⟩, fun hd => ⟨by simpa using hd, h.2.2.2, h.1.setCell (by simp) _⟩⟩
    · rw [Below.heap_setCell _ _ _ _ (by simp)]; exact hit
    · rw [Below.heap_setCell _ _ _ _ (by simp)]; exact h.2.1
    · rw [one_setCell h.2.2.1]; simp
    · simpa using hd
  · rintro e w' (⟨rfl, h⟩ | ⟨cs, c, r, hc, rfl, h1, h2, h3⟩)
    · refine ⟨?_, h.1⟩
      rw [take_all h.2.2.2]
      obtain ⟨t, _, _, _, hl⟩ := chars_split s.data.toList
      rw [hl]
    · exact ⟨by rw [take_pre hc h2 h1], h3⟩

theorem text_take (l : List UInt8) (k : Nat) : textL ((chars l).take k) = l.take (textL ((chars l).take k)).length := by
  obtain ⟨t, e, _, _, _⟩ := chars_split l
  have e2 : l = textL ((chars l).take k) ++ (textL ((chars l).drop k) ++ t) := by
    rw [← List.append_assoc, ← textL_append, List.take_append_drop]; exact e
  have h := congrArg (List.take (textL ((chars l).take k)).length) e2
  rw [List.take_left' rfl] at h
  exact h.symm

/-- a text's first characters -/
def prefL (l : List UInt8) (m : Int) : List UInt8 := textL ((chars l).take m.toNat)
theorem prefL_le (l : List UInt8) (m : Int) : (prefL l m).length ≤ l.length := by
  unfold prefL
  rw [text_take, List.length_take]
  omega
theorem extract_pref (s : ByteArray) (m : Int) : s.extract 0 (textL ((chars s.data.toList).take m.toNat)).length = ⟨(prefL s.data.toList m).toArray⟩ := by
  apply ByteArray.ext
  apply Array.toList_inj.1
  rw [← Lib.toList_data, Lib.extract_toList]
  show _ = prefL s.data.toList m
  unfold prefL
  conv => rhs; rw [text_take]
  simp

set_option maxHeartbeats 400000 in
theorem clone_any (s : ByteArray) (w : World) (hlim : s.size ≤ 281474976710656) :
    Calls Tryz.prog 36 #[.string s] w fun e w' => e = .returned (.string s) ∧ Below w.heap.size w w' := by
  go_enter Tryz.func36, Tryz.ntmps36
  go_wp2_with (go_at_call 52; refine (stringslite_Clone _ _ hlim).mono ?_)
  rintro e w' ⟨rfl, h⟩
  go_wp2
  go_ret
  exact ⟨rfl, h⟩

set_option maxHeartbeats 400000 in
theorem prefix_any (s : ByteArray) (m : Int) (w : World) (hs : s.size ≤ 281474976710656) :
    Calls Tryz.prog 87 #[.string s, .int .i64 m] w fun e w' => e = .returned (.string ⟨(prefL s.data.toList m).toArray⟩) ∧ Below w.heap.size w w' := by
  have hle := prefL_le s.data.toList m
  have hle2 : (textL ((chars s.data.toList).take m.toNat)).length ≤ s.size := by
    have : s.data.toList.length = s.size := by simp
    unfold prefL at hle
    omega
  have He := hide (extract_pref s m)
  have hsz : (s.extract 0 (textL ((chars s.data.toList).take m.toNat)).length).size ≤ 281474976710656 := by simp; omega
  clear hle
  go_enter Tryz.func87, Tryz.ntmps87
  go_wp2_with (go_at_call 103; refine (each_prefix _ _ _ (by omega)).mono ?_)
  rintro e w1 ⟨rfl, h⟩
  go_wp2_with (go_at_call 36; refine (clone_any _ _ hsz).mono ?_)
  rintro e w2 ⟨rfl, h2⟩
  go_wp2
  go_ret
  exact ⟨by rw [← He.out]; rfl, h.trans (h2.mono h.size)⟩

/-! ### utf.Chars -/
theorem info3 : (Tryz.prog.info? 3).map (fun i => (i.zero, i.size, i.bytes)) = some (some (.int .i64 0), 1, 8) := by kernel_rfl
theorem mapsnoc (cs : List Int) (c : Int) : (cs ++ [c]).map (Value.int .i64) = cs.map (Value.int .i64) ++ [.int .i64 c] := by simp

/-- the slice's block behind so many characters, and what it owns -/
def CharsInv (w : World) (cs : List Int) (W : World) : Prop :=
  Below w.heap.size w W ∧ w.heap.size + 1 < W.heap.size ∧ ∃ v, W.heap[w.heap.size]? = some (.cells #[v] 91 (0, 0)) ∧ W.ownsRow (w.heap.size + 2) 3 1 v cs.length (cs.map (Value.int .i64))

theorem chars_step {w W w1 : World} {cs : List Int} {c : Int} {v v' : Value} {s : ByteArray} {pos : Nat} {o : Obj} (hb : Below w.heap.size w W) (hsz : w.heap.size + 1 < W.heap.size) (hbox : W.heap[w.heap.size]? = some (.cells #[v] 91 (0, 0)))
    (hit : W.heap[w.heap.size + 1]? = some (.stringIter s pos)) (hown : W.ownsRow (w.heap.size + 2) 3 1 v cs.length (cs.map (Value.int .i64)))
    (hown' : w1.ownsRow (w.heap.size + 2) 3 1 v' (cs.length + 1) (cs.map (Value.int .i64) ++ [.int .i64 c])) (hg : (W.alloc o).grownBy w1 v.ownBlock) :
    w1.heap[w.heap.size]? = some (.cells #[v] 91 (0, 0)) ∧ CharsInv w (cs ++ [c]) (w1.setCell ⟨w.heap.size, 0, none⟩ v') ∧ (w1.setCell ⟨w.heap.size, 0, none⟩ v').heap[w.heap.size + 1]? = some (.stringIter s pos) := by
  have hr : ∀ k, v.ownBlock = some k → w.heap.size + 2 ≤ k := fun k hk => (hown.lt k hk).1
  have hza : (W.alloc o).heap.size = W.heap.size + 1 := by simp
  have e0 : w1.heap[w.heap.size]? = some (.cells #[v] 91 (0, 0)) := by
    rw [hg.block _ (by omega) (fun h => by have := hr _ h.symm; omega), Below.heap_alloc _ _ _ (by omega)]; exact hbox
  have e1 : w1.heap[w.heap.size + 1]? = some (.stringIter s pos) := by
    rw [hg.block _ (by omega) (fun h => by have := hr _ h.symm; omega), Below.heap_alloc _ _ _ (by omega)]; exact hit
  have hb1 : Below w.heap.size w w1 := (hb.alloc (by omega) o).grown hg (by omega) (fun k hk => by have := hr k hk; omega)
  have hsz1 : w.heap.size + 1 < (w1.setCell ⟨w.heap.size, 0, none⟩ v').heap.size := by have := hg.size; simp; omega
  refine ⟨e0, ⟨hb1.setCell (Nat.le_refl _) _, hsz1, v', one_setCell e0, ?_⟩, ?_⟩
  · rw [mapsnoc, List.length_append, List.length_singleton]
    exact ownsRow_setCell_below hown' (by simp) _
  · rw [Below.heap_setCell _ _ _ _ (by simp)]; exact e1

set_option maxHeartbeats 400000 in
theorem chars1 (c : Int) (s : ByteArray) (pos : Nat) (cs : List Int) (w W : World) (hI : CharsInv w cs W) (hit : W.heap[w.heap.size + 1]? = some (.stringIter s pos)) (hc : 0 ≤ c ∧ c ≤ 1114111) (hn : cs.length < 17592186044415) :
    Calls Tryz.prog 105 #[.int .i32 c, .pointer (some ⟨w.heap.size, 0, none⟩)] W fun e w' => e = .returned (.bool true) ∧ CharsInv w (cs ++ [c]) w' ∧ w'.heap[w.heap.size + 1]? = some (.stringIter s pos) := by
  obtain ⟨i0, hi, hz0, hz1, hz2⟩ := info_parts info3
  obtain ⟨hb, hsz, v, hbox, hown⟩ := hI
  have h1 := cell_of_one hbox
  have h2 := free_of_one hbox
  have Hbox := hide hbox
  have Hit := hide hit
  clear hbox hit
  have hvs : ∃ a n c', v = .slice a n c' := by
    rcases hown.2 with ⟨rfl, _⟩ | ⟨g, cap, cur, rfl, _⟩
    · exact ⟨_, _, _, rfl⟩
    · exact ⟨_, _, _, rfl⟩
  obtain ⟨va, vn, vc, hv⟩ := hvs
  subst hv
  go_enter Tryz.func105, Tryz.ntmps105
  go_wp2_with (first
    | (at_builtin; refine wpList_append_own _ rfl _ _ 91 rfl (w.heap.size + 2) 3 i0 (.int .i64 0) 1 8 Tryz.underlying91 hi hz0 hz1 hz2 rfl (by decide) _ _ _ rfl (hown.alloc _) ⟨W.heap.size, 0, none⟩ 1 1 [.int .i64 c] rfl rfl ?c1 ?c2 ?c3 ?c4 ?c5 ?_))
  case c1 =>
    intro j u hj
    match j, hj with
    | 0, hj => simp at hj; subst hj; simp [Addr.add]
  case c2 => intro u hu; simp at hu; subst hu; rfl
  case c3 => unfold maxLen; omega
  case c4 => omega
  case c5 => simp; omega
  · intro v' w1 hown' hgrow _
    obtain ⟨k1, k2, k3⟩ := chars_step hb hsz Hbox.out Hit.out hown hown' hgrow
    have hvs' : ∃ a n c', v' = .slice a n c' := by
      rcases hown'.2 with ⟨rfl, _⟩ | ⟨g, cap, cur, rfl, _⟩
      · exact ⟨_, _, _, rfl⟩
      · exact ⟨_, _, _, rfl⟩
    obtain ⟨va', vn', vc', hv'⟩ := hvs'
    rw [hv'] at k2 k3 ⊢
    clear hown' hgrow hown hv'
    have h3 := cell_of_one k1
    have h4 := free_of_one k1
    go_wp2
    go_ret
    exact ⟨rfl, k2, k3⟩

theorem each_chars (s : ByteArray) (w : World) (hs : s.size ≤ 17592186044415) :
    Calls Tryz.prog 103 #[.string s, .func (.func 105) #[] #[.pointer (some ⟨w.heap.size, 0, none⟩)]] (w.alloc (.cells #[.slice none 0 0] 91)) fun e w' => e = .returned (.int .i64 (blen s.data.toList)) ∧ CharsInv w (chars s.data.toList) w' := by
  have hz : (w.alloc (.cells #[.slice none 0 0] 91)).heap.size = w.heap.size + 1 := by simp
  refine (each_any 105 _ enters24 s _ (CharsInv w) (fun _ _ _ => False) ?_ ?_ ?_).mono ?_
  · refine ⟨((Below.refl _ _).alloc (Nat.le_refl _) _).alloc (by simp) _, ?_, .slice none 0 0, ?_, World.ownsRow_nil _ _ _ _⟩
    · show _ < ((w.alloc (.cells #[.slice none 0 0] 91)).alloc (.stringIter s 0)).heap.size
      simp
    · show ((w.alloc (.cells #[.slice none 0 0] 91)).alloc (.stringIter s 0)).heap[w.heap.size]? = _
      rw [Below.heap_alloc _ _ _ (by simp)]
      exact new_box w _ _
  · intro cs W pos pos' h hit
    rw [hz] at hit ⊢
    obtain ⟨v, h1, h2⟩ := h.2.2
    exact ⟨Lib.below_iterAt h.1 (by omega) s pos', by rw [Lib.iterAt_size]; exact h.2.1, v, box_iterAt h1 (by omega), ownsRow_iterAt h2 (by omega) s pos'⟩
  · intro cs c W pos h hit hm hlt
    rw [hz] at hit ⊢
    have hm' := (mayB_iff c).1 hm
    refine (chars1 c s pos cs w W h hit (by omega) (by omega)).mono ?_
    rintro e w' ⟨rfl, h1, h2⟩
    exact ⟨true, rfl, h2, fun _ => h1, fun h => by cases h⟩
  · rintro e w' (⟨rfl, h⟩ | ⟨_, _, _, _, _, h⟩)
    · exact ⟨rfl, h⟩
    · exact h.elim

set_option maxHeartbeats 400000 in
theorem chars_yes (s : ByteArray) (w : World) (hs : s.size ≤ 17592186044415) (hv : validB s.data.toList = true) :
    Calls Tryz.prog 88 #[.string s] w fun e w' => ∃ v, e = .returned (.tuple #[v, .bool true]) ∧ w'.ownsRow w.heap.size 3 1 v (chars s.data.toList).length ((chars s.data.toList).map (Value.int .i64)) ∧ Below w.heap.size w w' := by
  have hb : blen s.data.toList = s.size := by simpa [validB] using hv
  have Hb := hide hb
  have hle : s.size ≤ blen s.data.toList := by omega
  clear hb hv
  go_enter Tryz.func88, Tryz.ntmps88
  go_wp2_with (go_at_call 103; refine (each_chars _ _ hs).mono ?_)
  rintro e w1 ⟨rfl, h, _, v, hbox, hown⟩
  have h1 := cell_of_one hbox
  have hown2 : w1.ownsRow w.heap.size 3 1 v (chars s.data.toList).length ((chars s.data.toList).map (Value.int .i64)) := by
    refine ⟨hown.1, ?_⟩
    rcases hown.2 with h | ⟨g, cap, cur, h1, h2, h3⟩
    · exact .inl h
    · exact .inr ⟨g, cap, cur, h1, by omega, h3⟩
  have Hown := hide hown2
  have hvs : ∃ a n c', v = .slice a n c' := by
    rcases hown.2 with ⟨rfl, _⟩ | ⟨g, cap, cur, rfl, _⟩
    · exact ⟨_, _, _, rfl⟩
    · exact ⟨_, _, _, rfl⟩
  obtain ⟨va, vn, vc, hv⟩ := hvs
  subst hv
  clear hown hown2 hbox
  go_wp2
  go_ret2
  exact ⟨_, rfl, Hown.out, h⟩

set_option maxHeartbeats 400000 in
theorem chars_no (s : ByteArray) (w : World) (hs : s.size ≤ 17592186044415) (hv : validB s.data.toList = false) :
    Calls Tryz.prog 88 #[.string s] w fun e w' => e = .returned (.tuple #[.slice none 0 0, .bool false]) ∧ Below w.heap.size w w' := by
  have hb : blen s.data.toList ≠ s.size := by simpa [validB] using hv
  have hle : blen s.data.toList < s.size := by have := blen_le s.data.toList; simp at this; omega
  clear hb hv
  go_enter Tryz.func88, Tryz.ntmps88
  go_wp2_with (go_at_call 103; refine (each_chars _ _ hs).mono ?_)
  rintro e w1 ⟨rfl, h, _⟩
  go_wp2
  go_ret2
  exact ⟨rfl, h⟩
end Go.Proofs.YtjbnofljoijnmaaGreatDooru

/-
  WALKS: the program's May, Take and Fits, in the forms that the laws use: where the ranges lie in memory.
-/
namespace Go.Proofs.YtjbnofljoijnmaaGreatDooru
open Go.RowKit YtjbnofljoijnmaaGreatDoor
open Go.Lib (encodeRune)

theorem smay_is (lo hi : Int) (b : Bool) (w : World) (R : Ran w) (h : anyR lo hi = b) :
    Calls Tryz.prog 106 #[.agg #[.int .i64 lo, .int .i64 hi]] w fun e w' => e = .returned (.bool b) ∧ Below w.heap.size w w' := by
  subst h; exact smay_any lo hi w R
set_option maxHeartbeats 400000 in
theorem pmay_is (c : Int) (b : Bool) (w : World) (R : Ran w) (h : mayU c = b) : Calls Tryz.prog 89 #[.int .i64 c] w fun e w' => e = .returned (.bool b) ∧ Below w.heap.size w w' := by
  have H := hide ((any_may c).trans h)
  have R1 := hide R
  clear h R
  go_enter Tryz.func89, Tryz.ntmps89
  go_wp2_with (go_at_call 106; refine (smay_is _ _ b _ R1.out H.out).mono ?_; rintro e w1 ⟨rfl, bb⟩)
  go_ret
  exact ⟨rfl, bb⟩
theorem begun_is (s : ByteArray) (w : World) (h : 0 < s.size) (lo hi : Int) (hlo : lowN s.data.toList = lo) (hhi : highN s.data.toList = hi) :
    Calls Tryz.prog 115 #[.string s] w fun e w' => e = .returned (.agg #[.int .i64 lo, .int .i64 hi]) ∧ Below w.heap.size w w' := by
  subst hlo hhi; exact begun_any s w h
set_option maxHeartbeats 400000 in
theorem pfits_is (s : ByteArray) (b : Bool) (w : World) (R : Ran w) (h : fitB s.data.toList = b) :
    Calls Tryz.prog 100 #[.string s] w fun e w' => e = .returned (.bool b) ∧ Below w.heap.size w w' := by
  have R1 := hide R
  clear R
  by_cases hz : 0 < s.size
  · have hne := eq_some s hz
    have hn : s.data.toList ≠ [] := by
      rw [list_one s hz]; simp
    obtain ⟨lo, hlo⟩ : ∃ z, lowN s.data.toList = z := ⟨_, rfl⟩
    obtain ⟨hi, hhi⟩ : ∃ z, highN s.data.toList = z := ⟨_, rfl⟩
    have hs := any_fit s.data.toList hn
    rw [hlo, hhi, h] at hs
    have Hs := hide hs
    have Hlo := hide hlo
    have Hhi := hide hhi
    clear hs hlo hhi h hn
    go_enter Tryz.func100, Tryz.ntmps100
    go_wp2_with (first
      | (go_at_call 115; refine (begun_is _ _ hz lo hi Hlo.out Hhi.out).mono ?_; rintro e w1 ⟨rfl, bb⟩)
      | (go_at_call 106; refine (smay_is _ _ b _ (R1.out.next bb) Hs.out).mono ?_; rintro e w2 ⟨rfl, bb2⟩))
    go_ret
    exact ⟨rfl, bb.trans (bb2.mono bb.size)⟩
  · have hne := eq_none s hz
    rw [fit_empty s hz] at h
    subst h
    go_enter Tryz.func100, Tryz.ntmps100
    go_wp2
    go_ret
    exact ⟨rfl, Below.refl _ _⟩

/-! ### Take -/
theorem take_nil {l : List UInt8} (h : chars l = []) : YtjbnofljoijnmaaGreatDoor.takeC l = 0 ∧ takeN l = 0 ∧ prefL l 1 = [] := by
  obtain ⟨t, e, _, ht, _⟩ := chars_split l
  rw [h] at e
  have e : l = t := by simpa [textL] using e
  rw [← e] at ht
  have hf : firstN l = 0 := by unfold firstN; rw [if_pos ht]
  unfold YtjbnofljoijnmaaGreatDoor.takeC takeN
  rw [hf, if_pos (.inl rfl), if_pos (.inl rfl)]
  refine ⟨rfl, rfl, ?_⟩
  unfold prefL
  rw [h]; rfl
theorem take_cons {l : List UInt8} {c : Int} {r : List Int} (h : chars l = c :: r) : mayB c = true ∧ firstC l = c ∧ firstN l = (encodeRune c).length ∧ prefL l 1 = encodeRune c := by
  obtain ⟨t, e, hm, ht, _⟩ := chars_split l
  rw [h] at e hm
  rw [allMay_cons, Bool.and_eq_true] at hm
  have hb := hm.1
  have e2 : l = encodeRune c ++ (textL r ++ t) := by rw [e]; simp [textL]
  have hd := dec_enc c hb (textL r ++ t)
  have hg := not_bad_enc c hb (textL r ++ t)
  have hne : encodeRune c ++ (textL r ++ t) ≠ [] := by simp [enc_ne c]
  have h0 := (mayB_iff c).1 hb
  refine ⟨hb, ?_, ?_, ?_⟩
  · rw [e2]; unfold firstC; rw [if_neg (by simp [hne, hg]), hd]; simp; omega
  · rw [e2]; unfold firstN; rw [if_neg (by simp [hne, hg]), hd]
  · unfold prefL; rw [h]; simp [textL]

theorem prefix_is (s f : ByteArray) (w : World) (hs : s.size ≤ 281474976710656) (h : f = ⟨(prefL s.data.toList 1).toArray⟩) :
    Calls Tryz.prog 87 #[.string s, .int .i64 1] w fun e w' => e = .returned (.string f) ∧ Below w.heap.size w w' := by
  subst h; exact prefix_any s 1 w hs
theorem chars_none (f : ByteArray) (w : World) (hf : f.data.toList = []) :
    Calls Tryz.prog 88 #[.string f] w fun e w' => ∃ a cap, e = .returned (.tuple #[.slice a 0 cap, .bool true]) ∧ Below w.heap.size w w' := by
  have hz : f.size = 0 := by have : f.data.toList.length = f.size := by simp
                             rw [hf] at this; simpa using this.symm
  have ha : allMay [] = true := rfl
  have hc := chars_text [] ha
  refine (chars_yes f w (by omega) (by rw [hf]; decide)).mono ?_
  rintro e w' ⟨v, rfl, ho, b⟩
  rw [hf, show chars ([] : List UInt8) = [] from hc.1] at ho
  rcases ho.2 with ⟨rfl, _⟩ | ⟨g, cap, cur, rfl, _⟩
  · exact ⟨_, _, rfl, b⟩
  · exact ⟨_, _, rfl, b⟩
theorem chars_one (f : ByteArray) (c : Int) (w : World) (hb : mayB c = true) (hf : f.data.toList = encodeRune c) :
    Calls Tryz.prog 88 #[.string f] w fun e w' => ∃ g cap, e = .returned (.tuple #[.slice (some ⟨g, 0, none⟩) 1 cap, .bool true]) ∧ w'.cell? ⟨g, 0, none⟩ = some (.int .i64 c) ∧ w.heap.size ≤ g ∧ Below w.heap.size w w' := by
  have hz : f.size = (encodeRune c).length := by have : f.data.toList.length = f.size := by simp
                                                 rw [hf] at this; exact this.symm
  have hl := (enc_len c).2
  have ha : allMay [c] = true := by rw [allMay_cons, hb]; rfl
  have hc := chars_text [c] ha
  rw [textL_one] at hc
  refine (chars_yes f w (by omega) (by rw [hf]; unfold validB; rw [hc.2]; simp)).mono ?_
  rintro e w' ⟨v, rfl, ho, b⟩
  rw [hf, hc.1] at ho
  rcases ho.2 with ⟨_, hn⟩ | ⟨g, cap, cur, rfl, hg, _⟩
  · simp at hn
  · have := ho.cellAt 0 (by simp)
    exact ⟨g, cap, rfl, by simpa using this, hg, b⟩

set_option maxRecDepth 20000 in
set_option maxHeartbeats 1000000 in
theorem ptake_is (s : ByteArray) (c n : Int) (w : World) (R : Ran w) (hs : s.size ≤ 1000000) (hc : YtjbnofljoijnmaaGreatDoor.takeC s.data.toList = c) (hn : (takeN s.data.toList : Int) = n) :
    Calls Tryz.prog 69 #[.string s] w fun e w' => e = .returned (.tuple #[.int .i64 c, .int .i64 n]) ∧ Below w.heap.size w w' := by
  have R1 := hide R
  have hs2 : s.size ≤ 281474976710656 := by omega
  clear R
  obtain ⟨f, hf⟩ : ∃ f : ByteArray, f = ⟨(prefL s.data.toList 1).toArray⟩ := ⟨_, rfl⟩
  have hfl : f.data.toList = prefL s.data.toList 1 := by rw [hf]
  have Hf := hide hf
  clear hf
  cases hl : chars s.data.toList with
  | nil =>
    obtain ⟨t1, t2, t3⟩ := take_nil hl
    rw [t1] at hc
    rw [t2] at hn
    rw [t3] at hfl
    have hn : (0 : Int) = n := hn
    subst hc hn
    have Hfl := hide hfl
    clear hfl hl t1 t2 t3
    go_enter Tryz.func69, Tryz.ntmps69
    go_wp2_with (first
      | (go_at_call 87; refine (prefix_is _ f _ hs2 Hf.out).mono ?_; rintro e w1 ⟨rfl, bb⟩)
      | (go_at_call 88; refine (chars_none _ _ Hfl.out).mono ?_; rintro e w2 ⟨a, cap, rfl, bb2⟩))
    go_ret2
    exact ⟨rfl, bb.trans (bb2.mono bb.size)⟩
  | cons d r =>
    obtain ⟨t0, t1, t2, t3⟩ := take_cons hl
    rw [t3] at hfl
    have hlen := enc_len d
    have hz : f.size = (encodeRune d).length := by have : f.data.toList.length = f.size := by simp
                                                   rw [hfl] at this; exact this.symm
    have ec : YtjbnofljoijnmaaGreatDoor.takeC s.data.toList = if mayU d = false then 0 else d := by
      unfold YtjbnofljoijnmaaGreatDoor.takeC; rw [t1, t2]
      by_cases h : mayU d = false
      · rw [if_pos (.inr h), if_pos h]
      · rw [if_neg h, if_neg]
        intro hh
        rcases hh with hh | hh
        · omega
        · exact h hh
    have en : takeN s.data.toList = if mayU d = false then 0 else f.size := by
      unfold takeN; rw [t1, t2, hz]
      by_cases h : mayU d = false
      · rw [if_pos (.inr h), if_pos h]
      · rw [if_neg h, if_neg]
        intro hh
        rcases hh with hh | hh
        · omega
        · exact h hh
    rw [ec] at hc
    rw [en] at hn
    cases hm : mayU d with
    | false =>
      rw [hm, if_pos rfl] at hc hn
      have hn : (0 : Int) = n := hn
      subst hc hn
      have Hm := hide hm
      have Hfl := hide hfl
      clear hfl hl t1 t2 t3 hm ec en hz hlen
      go_enter Tryz.func69, Tryz.ntmps69
      go_wp2_with (first
        | (go_at_call 87; refine (prefix_is _ f _ hs2 Hf.out).mono ?_; rintro e w1 ⟨rfl, bb⟩)
        | (go_at_call 88; refine (chars_one _ d _ t0 Hfl.out).mono ?_; rintro e w2 ⟨g, cap, rfl, hcell, hg, bb2⟩; replace bb := bb.trans (bb2.mono bb.size); clear bb2)
        | (go_at_call 89; refine (pmay_is d false _ (R1.out.next bb) Hm.out).mono ?_; rintro e w3 ⟨rfl, bb3⟩; replace bb := bb.trans (bb3.mono bb.size)))
      go_ret2
      exact ⟨rfl, bb⟩
    | true =>
      rw [hm, if_neg (by decide)] at hc hn
      subst hc hn
      have Hm := hide hm
      have Hfl := hide hfl
      clear hfl hl t1 t2 t3 hm ec en hz hlen
      go_enter Tryz.func69, Tryz.ntmps69
      go_wp2_with (first
        | (go_at_call 87; refine (prefix_is _ f _ hs2 Hf.out).mono ?_; rintro e w1 ⟨rfl, bb⟩)
        | (go_at_call 88; refine (chars_one _ _ _ t0 Hfl.out).mono ?_; rintro e w2 ⟨g, cap, rfl, hcell, hg, bb2⟩; have hgl := World.block_lt_of_cell? _ _ hcell; replace bb := bb.trans (bb2.mono bb.size); clear bb2)
        | (go_at_call 89; refine (pmay_is _ true _ (R1.out.next bb) Hm.out).mono ?_; rintro e w3 ⟨rfl, bb3⟩; have hcell3 := (bb3.cell (p := ⟨g, 0, none⟩) hgl).trans hcell; replace bb := bb.trans (bb3.mono bb.size); clear bb3))
      go_ret2
      exact ⟨rfl, bb⟩
end Go.Proofs.YtjbnofljoijnmaaGreatDooru
