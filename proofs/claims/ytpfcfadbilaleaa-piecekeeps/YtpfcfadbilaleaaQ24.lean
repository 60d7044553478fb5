/-
  TEXTS JOINED: P2, P3, Vn, G3.
-/
import Derived.Test.YtpfcfadbilaleaaQ03
import Derived.Test.YtpfcfadbilaleaaQ05
import Derived.Test.YtpfcfadbilaleaaQ06
import Derived.Test.YtpfcfadbilaleaaQ18
/-
  WALKS: vname.brokenTriplet, vname.scan.
-/
namespace Go.Proofs.Ytpfcfadbilaleaa
open Go.RowKit

theorem list_two (s : ByteArray) (h : 2 ≤ s.size) : s.data.toList = s[0] :: s[1] :: s.data.toList.drop 2 := by
  have e1 : s.data.toList.length = s.size := by simp
  have h0 : s.data.toList.drop 0 = s[0] :: s.data.toList.drop 1 := List.drop_eq_getElem_cons (by omega)
  have h1 : s.data.toList.drop 1 = s[1] :: s.data.toList.drop 2 := List.drop_eq_getElem_cons (by omega)
  rw [← h1, ← h0]; rfl
set_option maxRecDepth 20000 in
set_option maxHeartbeats 1000000 in
theorem broken_any (s : ByteArray) (w : World) (h : 0 < s.size) :
    Calls Try.prog 95 #[.string s] w fun e w' => e = .returned (.int .i64 (brokN s.data.toList)) ∧ w' = w := by
  by_cases h0 : s[0] = 37
  · have h0' : ((s[0].toNat : Int) != 37) = false := by simp [h0]
    by_cases h2 : 2 ≤ s.size
    · have b1 := UInt8.toNat_lt s[1]
      obtain ⟨x1, h1⟩ : ∃ x, hexN s[1].toNat = x := ⟨_, rfl⟩
      have hr : brokN s.data.toList = if x1 then 2 else 1 := by
        rw [list_two s h2]
        show (if s[0] ≠ 37 then 0 else if hexB s[1] then 2 else 1) = _
        rw [if_neg (by simp [h0])]
        unfold hexB
        rw [h1]
      have Hr := hide hr
      have H1 := hide h1
      have hn : 1 < s.size := by omega
      clear h0 hr h1
      cases x1
      all_goals
        go_enter Try.func95, Try.ntmps95
        go_wp2_with (first | (go_at_call 59; refine (dig_is _ _ true _ (by omega) (by omega) rfl (by rw [Int.toNat_natCast]; exact H1.out)).mono ?_; rintro e w' ⟨rfl, hw⟩; rw [hw]) | (go_at_call 59; refine (dig_is _ _ false _ (by omega) (by omega) rfl (by rw [Int.toNat_natCast]; exact H1.out)).mono ?_; rintro e w' ⟨rfl, hw⟩; rw [hw]))
        all_goals go_ret
        all_goals exact ⟨ret_int (by rw [Hr.out]; rfl), rfl⟩
    · have hr : brokN s.data.toList = 1 := by
        have e1 : s.data.toList.drop 1 = [] := List.drop_eq_nil_of_le (by rw [← size_list]; omega)
        rw [list_one s h, e1]
        show (if s[0] ≠ 37 then 0 else 1) = _
        rw [if_neg (by simp [h0])]
      have Hr := hide hr
      have hn : ¬ 1 < s.size := by omega
      clear h0 hr
      go_enter Try.func95, Try.ntmps95
      go_wp2
      all_goals go_ret
      all_goals exact ⟨ret_int (by rw [Hr.out]; rfl), rfl⟩
  · have h0' : ((s[0].toNat : Int) != 37) = true := by
      have : s[0].toNat ≠ 37 := fun e => h0 (UInt8.toNat_inj.1 e)
      simp; omega
    have hr : brokN s.data.toList = 0 := by
      rw [list_one s h]
      show (if s[0] ≠ 37 then 0 else _) = _
      rw [if_pos h0]
    have Hr := hide hr
    clear h0 hr
    go_enter Try.func95, Try.ntmps95
    go_wp2
    all_goals go_ret
    all_goals exact ⟨ret_int (by rw [Hr.out]; rfl), rfl⟩
theorem broken_is (s : ByteArray) (n : Int) (w : World) (h : 0 < s.size) (hn : (brokN s.data.toList : Int) = n) :
    Calls Try.prog 95 #[.string s] w fun e w' => e = .returned (.int .i64 n) ∧ w' = w := by
  subst hn; exact broken_any s w h
end Go.Proofs.Ytpfcfadbilaleaa
/-
  WALKS: vname.scan.
-/
namespace Go.Proofs.Ytpfcfadbilaleaa
open Go.RowKit

theorem word_fin : ∀ c : Fin 256, YtpfcfadbilaleaaC.wordQ.has c.val = wordN c.val := by decide +kernel
theorem pword_is (q : YtpfcfadbilaleaaC.Q) (w : World) (h : YtpfcfadbilaleaaC.wordQ = q) : Calls Try.prog 94 #[] w fun e w' => e = .returned (YtpfcfadbilaleaaC.qv q) ∧ Below w.heap.size w w' := by
  subst h; exact YtpfcfadbilaleaaC.word_any w
theorem phas_is (q : YtpfcfadbilaleaaC.Q) (h : YtpfcfadbilaleaaC.wordQ = q) (c : UInt8) (b : Bool) (w : World) (hb : wordB c = b) :
    Calls Try.prog 65 #[YtpfcfadbilaleaaC.qv q, .int .u8 (c.toNat : Int)] w fun e w' => e = .returned (.bool b) ∧ Below w.heap.size w w' := by
  subst h
  have hl := UInt8.toNat_lt c
  refine YtpfcfadbilaleaaC.has_is _ _ b w YtpfcfadbilaleaaC.word_ok (by omega) (by omega) ?_
  rw [Int.toNat_natCast, word_fin ⟨c.toNat, hl⟩]
  exact hb
theorem brok_le (l : List UInt8) : brokN l ≤ 2 := by
  match l with
  | [] => exact Nat.zero_le _
  | [a] =>
    show (if a ≠ 37 then 0 else 1) ≤ 2
    split <;> omega
  | a :: b :: t =>
    show (if a ≠ 37 then 0 else if hexB b then 2 else 1) ≤ 2
    split
    · omega
    · split <;> omega
theorem ret_nn {a b c d : Int} (h : a = c) (k : b = d) : Ending.returned (.tuple #[.int .i64 a, .int .i64 b]) = .returned (.tuple #[.int .i64 c, .int .i64 d]) := by rw [h, k]

set_option maxRecDepth 20000 in
set_option maxHeartbeats 1000000 in
theorem scan_any (s : ByteArray) (w : World) (hs : s.size ≤ 2000000) :
    Calls Try.prog 85 #[.string s] w fun e w' => e = .returned (.tuple #[.int .i64 (badN s.data.toList), .int .i64 (endN s.data.toList)]) ∧ Below w.heap.size w w' := by
  obtain ⟨Qw, hQ⟩ : ∃ q, YtpfcfadbilaleaaC.wordQ = q := ⟨_, rfl⟩
  have HQ := hide hQ
  clear hQ
  go_enter Try.func85, Try.ntmps85
  have B := Below.refl w.heap.size w
  go_wp2
  go_step3
  go_wp2_with (go_at_call 94; refine (pword_is Qw _ HQ.out).mono ?_; rintro e w0 ⟨rfl, B0⟩; replace B := B0; clear B0; simp only [YtpfcfadbilaleaaC.qv])
  have C0 := YtpfcfadbilaleaaC.Cells4.made w0 Qw 95
  have B1 := B.alloc B.size (.cells #[.int .u64 Qw.a, .int .u64 Qw.b, .int .u64 Qw.c, .int .u64 Qw.d] 95)
  have hlt0 : w0.heap.size < (w0.alloc (.cells #[.int .u64 Qw.a, .int .u64 Qw.b, .int .u64 Qw.c, .int .u64 Qw.d] 95)).heap.size := by simp
  go_step3
  go_wp2
  obtain ⟨W1, hW1⟩ : ∃ W, w0.alloc (.cells #[.int .u64 Qw.a, .int .u64 Qw.b, .int .u64 Qw.c, .int .u64 Qw.d] 95) = W := ⟨_, rfl⟩
  rw [hW1] at C0 B1 hlt0 ⊢
  clear hW1 B
  obtain ⟨bq, hbq⟩ : ∃ b, w0.heap.size = b := ⟨_, rfl⟩
  rw [hbq] at C0 hlt0 ⊢
  clear hbq w0
  go_loopw [2, 3] (fun b e wr => ∃ (k n q : Nat), k ≤ s.size ∧ n ≤ k ∧ q ≤ 1 ∧ (q = 1 ↔ 0 < k ∧ k = n) ∧ b = .int .i64 k ∧ e = .int .i64 n ∧ Below w.heap.size w wr ∧ YtpfcfadbilaleaaC.Cells4 wr bq Qw ∧ bq < wr.heap.size ∧ badN s.data.toList = k + goN q (s.data.toList.drop k) ∧ endN s.data.toList = endS q k n (s.data.toList.drop k)) (fun b _ _ => s.size - (intOf b).toNat)
  case atStart => exact ⟨0, 0, 0, by omega, by omega, by omega, by omega, rfl, rfl, B1, C0, hlt0, by rw [List.drop_zero, Nat.zero_add]; rfl, (endS_end _).symm⟩
  case round =>
    obtain ⟨k, n, q, hk, hn, hq, hq1, rfl, rfl, B, C, hbq, hb, he⟩ := hrel
    by_cases hlt : k < s.size
    · obtain ⟨R, hR⟩ : ∃ R, s.extract k s.size = R := ⟨_, rfl⟩
      have hRl : R.data.toList = s.data.toList.drop k := by rw [← hR, cut_list]
      have hRs : R.size = s.size - k := by rw [size_list, hRl, List.length_drop, ← size_list]
      have hR0 : 0 < R.size := by omega
      have hone := list_one R hR0
      have hdr : ∀ j, R.data.toList.drop j = s.data.toList.drop (k + j) := fun j => by rw [hRl, List.drop_drop]
      rw [← hRl] at hb he
      obtain ⟨c0, c1, c2, c3⟩ := C
      have C : YtpfcfadbilaleaaC.Cells4 wr bq Qw := ⟨c0, c1, c2, c3⟩
      obtain ⟨wb, hw⟩ : ∃ x, wordB R[0] = x := ⟨_, rfl⟩
      obtain ⟨tb, ht⟩ : ∃ x, tripB R.data.toList = x := ⟨_, rfl⟩
      have Hw := hide hw
      have Ht := hide ht
      have Hone := hide hone
      have Hb := hide hb
      have He := hide he
      have HRl := hide hRl
      have Hdr := hide hdr
      clear hw hone hb he hRl ht hdr
      cases wb
      · cases tb
        · by_cases h46 : R[0] = 46
          · have hc : ((R[0].toNat : Int) == 46) = true := by simp [h46]
            by_cases hk1 : q = 1
            · have hk2 := hq1.1 hk1
              obtain ⟨hk3, rfl⟩ := hk2
              have hsc := sc_point k k (R.data.toList.drop 1)
              rw [← h46, ← Hone.out] at hsc
              have hbn : badN s.data.toList = k + 1 + goN 0 (s.data.toList.drop (k + 1)) := by
                rw [Hb.out, hk1, hsc.1, Hdr.out 1]; omega
              have hen : endN s.data.toList = endS 0 (k + 1) k (s.data.toList.drop (k + 1)) := by
                rw [He.out, hk1, hsc.2, Hdr.out 1]
              have Hbn := hide hbn
              have Hen := hide hen
              have H46 := hide h46
              clear hbn hen hsc h46 hq1
              go_wp2
              go_region_with (go_at_call 65; refine (phas_is Qw HQ.out R[0] false _ Hw.out).mono ?_; rintro e w1 ⟨rfl, bb⟩; replace C := C.below (below_drew bb) hbq; replace B := B.trans ((below_drew bb).mono B.size); replace hbq := Nat.lt_of_lt_of_le hbq (below_drew bb).size; clear bb c0 c1 c2 c3; obtain ⟨c0, c1, c2, c3⟩ := C)
              all_goals go_wp2_with (go_at_call 57; refine (ptrip_is R false _ Ht.out).mono ?_; rintro e w2 ⟨rfl, hw2⟩; rw [hw2])
              all_goals exact ⟨⟨k + 1, k, 0, by omega, by omega, by omega, by omega, by go_num, rfl, B, ⟨c0, c1, c2, c3⟩, hbq, Hbn.out, Hen.out⟩, by simp [intOf]; omega⟩
            · have hq0 : q = 0 := by omega
              have hkn : ¬ (0 < k ∧ k = n) := fun h => hk1 (hq1.2 h)
              clear hq1
              by_cases hk0 : 0 < k
              · have hkn2 : ((k : Int) == (n : Int)) = false := by simp; omega
                clear hkn
                have hsc := sc_else hq k n Hw.out (by rw [← Hone.out]; exact Ht.out) (.inr hq0)
                rw [← Hone.out] at hsc
                obtain ⟨M, hM⟩ : ∃ M : Int, (brokN R.data.toList : Int) = M := ⟨_, rfl⟩
                have hbn : (badN s.data.toList : Int) = k + M := by rw [Hb.out, hsc.1, ← hM]; omega
                have hen : endN s.data.toList = n := by rw [He.out, hsc.2]
                have hm2 : 0 ≤ M ∧ M ≤ 2 := by have := brok_le R.data.toList; omega
                obtain ⟨hm3, hm4⟩ := hm2
                have Hbn := hide hbn
                have Hen := hide hen
                have HM := hide hM
                have H46 := hide h46
                clear hbn hen hsc h46 hM
                go_wp2
                go_region_with (go_at_call 65; refine (phas_is Qw HQ.out R[0] false _ Hw.out).mono ?_; rintro e w1 ⟨rfl, bb⟩; replace C := C.below (below_drew bb) hbq; replace B := B.trans ((below_drew bb).mono B.size); replace hbq := Nat.lt_of_lt_of_le hbq (below_drew bb).size; clear bb c0 c1 c2 c3; obtain ⟨c0, c1, c2, c3⟩ := C)
                all_goals go_wp2_with (first | (go_at_call 57; refine (ptrip_is R false _ Ht.out).mono ?_; rintro e w2 ⟨rfl, hw2⟩; rw [hw2]) | (go_at_call 95; refine (broken_is R M _ hR0 HM.out).mono ?_; rintro e w2 ⟨rfl, hw2⟩; rw [hw2]))
                all_goals (try rw [Exit.noGoto_ret])
                all_goals go_ret2
                all_goals exact ⟨ret_nn (by rw [Hbn.out]) (by rw [Hen.out]), B⟩
              · clear hkn
                have hsc := sc_else hq k n Hw.out (by rw [← Hone.out]; exact Ht.out) (.inr hq0)
                rw [← Hone.out] at hsc
                obtain ⟨M, hM⟩ : ∃ M : Int, (brokN R.data.toList : Int) = M := ⟨_, rfl⟩
                have hbn : (badN s.data.toList : Int) = k + M := by rw [Hb.out, hsc.1, ← hM]; omega
                have hen : endN s.data.toList = n := by rw [He.out, hsc.2]
                have hm2 : 0 ≤ M ∧ M ≤ 2 := by have := brok_le R.data.toList; omega
                obtain ⟨hm3, hm4⟩ := hm2
                have Hbn := hide hbn
                have Hen := hide hen
                have HM := hide hM
                have H46 := hide h46
                clear hbn hen hsc h46 hM
                go_wp2
                go_region_with (go_at_call 65; refine (phas_is Qw HQ.out R[0] false _ Hw.out).mono ?_; rintro e w1 ⟨rfl, bb⟩; replace C := C.below (below_drew bb) hbq; replace B := B.trans ((below_drew bb).mono B.size); replace hbq := Nat.lt_of_lt_of_le hbq (below_drew bb).size; clear bb c0 c1 c2 c3; obtain ⟨c0, c1, c2, c3⟩ := C)
                all_goals go_wp2_with (first | (go_at_call 57; refine (ptrip_is R false _ Ht.out).mono ?_; rintro e w2 ⟨rfl, hw2⟩; rw [hw2]) | (go_at_call 95; refine (broken_is R M _ hR0 HM.out).mono ?_; rintro e w2 ⟨rfl, hw2⟩; rw [hw2]))
                all_goals (try rw [Exit.noGoto_ret])
                all_goals go_ret2
                all_goals exact ⟨ret_nn (by rw [Hbn.out]) (by rw [Hen.out]), B⟩
          · have hc : ((R[0].toNat : Int) == 46) = false := by
              have : R[0].toNat ≠ 46 := fun e => h46 (UInt8.toNat_inj.1 e)
              simp; omega
            have hsc := sc_else hq k n Hw.out (by rw [← Hone.out]; exact Ht.out) (.inl h46)
            rw [← Hone.out] at hsc
            obtain ⟨M, hM⟩ : ∃ M : Int, (brokN R.data.toList : Int) = M := ⟨_, rfl⟩
            have hbn : (badN s.data.toList : Int) = k + M := by rw [Hb.out, hsc.1, ← hM]; omega
            have hen : endN s.data.toList = n := by rw [He.out, hsc.2]
            have hm2 : 0 ≤ M ∧ M ≤ 2 := by have := brok_le R.data.toList; omega
            obtain ⟨hm3, hm4⟩ := hm2
            have Hbn := hide hbn
            have Hen := hide hen
            have HM := hide hM
            have H46 := hide h46
            clear hbn hen hsc h46 hM
            clear hq1
            go_wp2
            go_region_with (go_at_call 65; refine (phas_is Qw HQ.out R[0] false _ Hw.out).mono ?_; rintro e w1 ⟨rfl, bb⟩; replace C := C.below (below_drew bb) hbq; replace B := B.trans ((below_drew bb).mono B.size); replace hbq := Nat.lt_of_lt_of_le hbq (below_drew bb).size; clear bb c0 c1 c2 c3; obtain ⟨c0, c1, c2, c3⟩ := C)
            all_goals go_wp2_with (first | (go_at_call 57; refine (ptrip_is R false _ Ht.out).mono ?_; rintro e w2 ⟨rfl, hw2⟩; rw [hw2]) | (go_at_call 95; refine (broken_is R M _ hR0 HM.out).mono ?_; rintro e w2 ⟨rfl, hw2⟩; rw [hw2]))
            all_goals (try rw [Exit.noGoto_ret])
            all_goals go_ret2
            all_goals exact ⟨ret_nn (by rw [Hbn.out]) (by rw [Hen.out]), B⟩
        · have ht := Ht.out
          rcases (by omega : 3 ≤ R.size ∨ ¬ 3 ≤ R.size) with h3 | h3
          · have hat := trip_at R h3
            rw [ht] at hat
            have hat2 := hat.symm
            simp only [Bool.and_eq_true, beq_iff_eq] at hat2
            obtain ⟨⟨ha, hb1⟩, hb2⟩ := hat2
            have hl3 := list_three R h3
            rw [ha] at hl3
            have hsc := sc_trip hq k n (b := R[1]) (c := R[2]) hb1 hb2 (R.data.toList.drop 3)
            rw [← hl3] at hsc
            have hbn : badN s.data.toList = k + 3 + goN 1 (s.data.toList.drop (k + 3)) := by
              rw [Hb.out, hsc.1, Hdr.out 3]; omega
            have hen : endN s.data.toList = endS 1 (k + 3) (k + 3) (s.data.toList.drop (k + 3)) := by
              rw [He.out, hsc.2, Hdr.out 3]
            have Hbn := hide hbn
            have Hen := hide hen
            clear hbn hen hsc hq1 hl3 ha hb1 hb2 hat ht
            go_wp2
            go_region_with (go_at_call 65; refine (phas_is Qw HQ.out R[0] false _ Hw.out).mono ?_; rintro e w1 ⟨rfl, bb⟩; replace C := C.below (below_drew bb) hbq; replace B := B.trans ((below_drew bb).mono B.size); replace hbq := Nat.lt_of_lt_of_le hbq (below_drew bb).size; clear bb c0 c1 c2 c3; obtain ⟨c0, c1, c2, c3⟩ := C)
            all_goals go_wp2_with (go_at_call 57; refine (ptrip_is R true _ Ht.out).mono ?_; rintro e w2 ⟨rfl, hw2⟩; rw [hw2])
            all_goals exact ⟨⟨k + 3, k + 3, 1, by omega, by omega, by omega, by omega, by go_num, by go_num, B, ⟨c0, c1, c2, c3⟩, hbq, Hbn.out, Hen.out⟩, by simp [intOf]; omega⟩
          · have := trip_short R h3
            rw [this] at ht
            exact absurd ht (by decide)
      · have hsc := sc_word hq k n Hw.out (R.data.toList.drop 1)
        rw [← Hone.out] at hsc
        have hbn : badN s.data.toList = k + 1 + goN 1 (s.data.toList.drop (k + 1)) := by
          rw [Hb.out, hsc.1, Hdr.out 1]; omega
        have hen : endN s.data.toList = endS 1 (k + 1) (k + 1) (s.data.toList.drop (k + 1)) := by
          rw [He.out, hsc.2, Hdr.out 1]
        have Hbn := hide hbn
        have Hen := hide hen
        clear hbn hen hsc hq1
        go_wp2
        go_region_with (go_at_call 65; refine (phas_is Qw HQ.out R[0] true _ Hw.out).mono ?_; rintro e w1 ⟨rfl, bb⟩; replace C := C.below (below_drew bb) hbq; replace B := B.trans ((below_drew bb).mono B.size); replace hbq := Nat.lt_of_lt_of_le hbq (below_drew bb).size; clear bb c0 c1 c2 c3; obtain ⟨c0, c1, c2, c3⟩ := C)
        all_goals go_wp2
        all_goals exact ⟨⟨k + 1, k + 1, 1, by omega, by omega, by omega, by omega, by go_num, by go_num, B, ⟨c0, c1, c2, c3⟩, hbq, Hbn.out, Hen.out⟩, by simp [intOf]; omega⟩
    · have hke : k = s.size := by omega
      have hd : s.data.toList.drop k = [] := List.drop_eq_nil_of_le (by rw [← size_list]; omega)
      rw [hd] at hb he
      have hb2 : badN s.data.toList = k := by rw [hb]; rfl
      have he2 : endN s.data.toList = n := by rw [he]; rfl
      have Hb := hide hb2
      have He := hide he2
      clear hb he hb2 he2 hd hq1
      subst hke
      go_wp2
      all_goals (try rw [Exit.noGoto_ret])
      all_goals go_ret2
      all_goals exact ⟨ret_nn (by rw [Hb.out]) (by rw [He.out]), B⟩
end Go.Proofs.Ytpfcfadbilaleaa
/-
  WALKS: vname's May, Bad and End, in the forms that the laws use.
-/
namespace Go.Proofs.Ytpfcfadbilaleaa
open Go.RowKit

theorem scan_is (s : ByteArray) (n m : Int) (w : World) (hs : s.size ≤ 2000000) (h : (badN s.data.toList : Int) = n) (h' : (endN s.data.toList : Int) = m) :
    Calls Try.prog 85 #[.string s] w fun e w' => e = .returned (.tuple #[.int .i64 n, .int .i64 m]) ∧ Below w.heap.size w w' := by
  subst h h'; exact scan_any s w hs
set_option maxHeartbeats 400000 in
theorem pend_is (s : ByteArray) (n : Int) (w : World) (hs : s.size ≤ 2000000) (h : (endN s.data.toList : Int) = n) : Calls Try.prog 70 #[.string s] w fun e w' => e = .returned (.int .i64 n) ∧ Below w.heap.size w w' := by
  obtain ⟨m, hm⟩ : ∃ m : Int, (badN s.data.toList : Int) = m := ⟨_, rfl⟩
  have H := hide h
  have HM := hide hm
  clear h hm
  go_enter Try.func70, Try.ntmps70
  go_wp2_with (go_at_call 85; refine (scan_is s m n _ hs HM.out H.out).mono ?_; rintro e w1 ⟨rfl, bb⟩)
  go_ret
  exact ⟨rfl, bb⟩
set_option maxHeartbeats 400000 in
theorem pmay_is (s : ByteArray) (b : Bool) (w : World) (hs : s.size ≤ 2000000) (h : nameB s.data.toList = b) : Calls Try.prog 46 #[.string s] w fun e w' => e = .returned (.bool b) ∧ Below w.heap.size w w' := by
  have B := Below.refl w.heap.size w
  by_cases h0 : 0 < s.size
  · have hE := eq_some s h0
    obtain ⟨n, hn⟩ : ∃ n : Int, (endN s.data.toList : Int) = n := ⟨_, rfl⟩
    have hb : (n == (s.size : Int)) = b := by
      have := end_whole s.data.toList
      rw [h, ← size_list] at this
      rw [this, ← hn]
      by_cases e : endN s.data.toList = s.size
      · simp [e]; omega
      · have : ((endN s.data.toList : Int) == (s.size : Int)) = false := by simp; omega
        rw [this]; simp [e]
    have HN := hide hn
    clear hn h
    go_enter Try.func46, Try.ntmps46
    go_wp2_with (go_at_call 70; refine (pend_is s n _ hs HN.out).mono ?_; rintro e w1 ⟨rfl, bb⟩; replace B := bb; clear bb)
    all_goals go_ret
    all_goals exact ⟨rfl, B⟩
  · have hE := eq_none s h0
    have hb : b = false := by
      rw [← h, list_none s h0]; rfl
    subst hb
    clear h
    go_enter Try.func46, Try.ntmps46
    go_wp2
    all_goals go_ret
    all_goals exact ⟨rfl, B⟩

end Go.Proofs.Ytpfcfadbilaleaa
/-
  WALKS: the program's May (layer 6).
-/
namespace Go.Proofs.Ytpfcfadbilaleaa
open Go.RowKit

theorem may_low {nm : ByteArray} {m : Int} {st : Bool} (h : m < 0 ∨ 9999 < m) : mayX (spA nm m st) = false := by
  cases e : mayX (spA nm m st) with
  | false => rfl
  | true =>
    obtain ⟨_, h2, h3, _⟩ := (may_iff _).1 e
    have a : (spA nm m st).max = m := rfl
    omega
theorem may_both {nm : ByteArray} {m : Int} (h : m ≠ 0) : mayX (spA nm m true) = false := by
  cases e : mayX (spA nm m true) with
  | false => rfl
  | true =>
    obtain ⟨_, _, _, h4⟩ := (may_iff _).1 e
    exact absurd (h4 rfl) h
theorem may_name {nm : ByteArray} {m : Int} {st : Bool} (h0 : ¬ m < 0) (h1 : ¬ 9999 < m) (h : st = true → m = 0) : mayX (spA nm m st) = nameB nm.data.toList := by
  unfold mayX spA
  have e1 : decide (0 ≤ m ∧ m ≤ 9999) = true := decide_eq_true ⟨by omega, by omega⟩
  have e2 : (!st || decide (m = 0)) = true := by
    cases st with
    | false => rfl
    | true => simp [h rfl]
  simp only [e1, e2, Bool.and_true]
set_option maxHeartbeats 400000 in
theorem pxmay_is (nm : ByteArray) (m : Int) (st b : Bool) (w : World) (hs : nm.size ≤ 1000000) (h : mayX (spA nm m st) = b) :
    Calls Try.prog 23 #[.agg #[.string nm, .int .i64 m, .bool st]] w fun e w' => e = .returned (.bool b) ∧ Below w.heap.size w w' := by
  have hs' : nm.size ≤ 2000000 := by omega
  have B0 : ∀ o, Below w.heap.size w (w.alloc o) := fun o => (Below.refl _ w).alloc (Nat.le_refl _) _
  by_cases h1 : m < 0
  · rw [may_low (.inl h1)] at h
    subst h
    go_enter Try.func23, Try.ntmps23
    go_wp2
    all_goals go_ret
    all_goals exact ⟨rfl, B0 _⟩
  by_cases h2 : 9999 < m
  · rw [may_low (.inr h2)] at h
    subst h
    go_enter Try.func23, Try.ntmps23
    go_wp2
    all_goals go_ret
    all_goals exact ⟨rfl, B0 _⟩
  by_cases h3 : st = true ∧ m ≠ 0
  · obtain ⟨rfl, h3⟩ := h3
    rw [may_both h3] at h
    subst h
    go_enter Try.func23, Try.ntmps23
    go_wp2
    all_goals go_ret
    all_goals exact ⟨rfl, B0 _⟩
  have h4 : st = true → m = 0 := fun e => Classical.byContradiction fun x => h3 ⟨e, x⟩
  rw [may_name h1 h2 h4] at h
  have H := hide h
  clear h h3
  cases st
  · clear h4
    go_enter Try.func23, Try.ntmps23
    go_wp2_with (go_at_call 46; refine (pmay_is nm b _ hs' H.out).mono ?_; rintro e w1 ⟨rfl, bb⟩)
    all_goals go_ret
    all_goals exact ⟨rfl, (B0 _).trans (bb.mono (by simp))⟩
  · have e := h4 rfl
    subst e
    clear h4
    go_enter Try.func23, Try.ntmps23
    go_wp2_with (go_at_call 46; refine (pmay_is nm b _ hs' H.out).mono ?_; rintro e w1 ⟨rfl, bb⟩)
    all_goals go_ret
    all_goals exact ⟨rfl, (B0 _).trans (bb.mono (by simp))⟩
end Go.Proofs.Ytpfcfadbilaleaa
