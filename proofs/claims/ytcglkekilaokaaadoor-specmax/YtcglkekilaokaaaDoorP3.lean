/-
  WALKS: vname.scan.
-/
import Derived.Test.YtcglkekilaokaaaDoorP2
namespace Go.Proofs.YtcglkekilaokaaaDoor
open Go.RowKit

theorem word_fin : ∀ c : Fin 256, YtcglkekilaokaaaDoorC.wordQ.has c.val = wordN c.val := by decide +kernel
theorem pword_is (q : YtcglkekilaokaaaDoorC.Q) (w : World) (h : YtcglkekilaokaaaDoorC.wordQ = q) : Calls Tryd.prog 47 #[] w fun e w' => e = .returned (YtcglkekilaokaaaDoorC.qv q) ∧ Below w.heap.size w w' := by
  subst h; exact YtcglkekilaokaaaDoorC.word_any w
theorem phas_is (q : YtcglkekilaokaaaDoorC.Q) (h : YtcglkekilaokaaaDoorC.wordQ = q) (c : UInt8) (b : Bool) (w : World) (hb : wordB c = b) :
    Calls Tryd.prog 41 #[YtcglkekilaokaaaDoorC.qv q, .int .u8 (c.toNat : Int)] w fun e w' => e = .returned (.bool b) ∧ Below w.heap.size w w' := by
  subst h
  have hl := UInt8.toNat_lt c
  refine YtcglkekilaokaaaDoorC.has_is _ _ b w YtcglkekilaokaaaDoorC.word_ok (by omega) (by omega) ?_
  rw [Int.toNat_natCast, word_fin ⟨c.toNat, hl⟩]
  exact hb
theorem brok_le (l : List UInt8) : brokN l ≤ 2 := by
  match l with
  | [] => exact Nat.zero_le _
  | [a] =>
    show (if a ≠ 37 then 0 else 1) ≤ 2
    split <;> omega
  | a :: b :: t =>
    show (if a ≠ 37 then 0 else if hexB b then 2 else 1) ≤ 2
    split
    · omega
    · split <;> omega
theorem ret_nn {a b c d : Int} (h : a = c) (k : b = d) : Ending.returned (.tuple #[.int .i64 a, .int .i64 b]) = .returned (.tuple #[.int .i64 c, .int .i64 d]) := by rw [h, k]

set_option maxRecDepth 20000 in
set_option maxHeartbeats 1000000 in
theorem scan_any (s : ByteArray) (w : World) (hs : s.size ≤ 2000000) :
    Calls Tryd.prog 38 #[.string s] w fun e w' => e = .returned (.tuple #[.int .i64 (badN s.data.toList), .int .i64 (endN s.data.toList)]) ∧ Below w.heap.size w w' := by
  obtain ⟨Qw, hQ⟩ : ∃ q, YtcglkekilaokaaaDoorC.wordQ = q := ⟨_, rfl⟩
  have HQ := hide hQ
  clear hQ
  go_enter Tryd.func38, Tryd.ntmps38
  have B := Below.refl w.heap.size w
  go_wp2
  go_step3
  go_wp2_with (go_at_call 47; refine (pword_is Qw _ HQ.out).mono ?_; rintro e w0 ⟨rfl, B0⟩; replace B := B0; clear B0; simp only [YtcglkekilaokaaaDoorC.qv])
  have C0 := YtcglkekilaokaaaDoorC.Cells4.made w0 Qw 62
  have B1 := B.alloc B.size (.cells #[.int .u64 Qw.a, .int .u64 Qw.b, .int .u64 Qw.c, .int .u64 Qw.d] 62)
  have hlt0 : w0.heap.size < (w0.alloc (.cells #[.int .u64 Qw.a, .int .u64 Qw.b, .int .u64 Qw.c, .int .u64 Qw.d] 62)).heap.size := by simp
  go_step3
  go_wp2
  obtain ⟨W1, hW1⟩ : ∃ W, w0.alloc (.cells #[.int .u64 Qw.a, .int .u64 Qw.b, .int .u64 Qw.c, .int .u64 Qw.d] 62) = W := ⟨_, rfl⟩
  rw [hW1] at C0 B1 hlt0 ⊢
  clear hW1 B
  obtain ⟨bq, hbq⟩ : ∃ b, w0.heap.size = b := ⟨_, rfl⟩
  rw [hbq] at C0 hlt0 ⊢
  clear hbq w0
  go_loopw [2, 3] (fun b e wr => ∃ (k n q : Nat), k ≤ s.size ∧ n ≤ k ∧ q ≤ 1 ∧ (q = 1 ↔ 0 < k ∧ k = n) ∧ b = .int .i64 k ∧ e = .int .i64 n ∧ Below w.heap.size w wr ∧ YtcglkekilaokaaaDoorC.Cells4 wr bq Qw ∧ bq < wr.heap.size ∧ badN s.data.toList = k + goN q (s.data.toList.drop k) ∧ endN s.data.toList = endS q k n (s.data.toList.drop k)) (fun b _ _ => s.size - (intOf b).toNat)
  case atStart => exact ⟨0, 0, 0, by omega, by omega, by omega, by omega, rfl, rfl, B1, C0, hlt0, by rw [List.drop_zero, Nat.zero_add]; rfl, (endS_end _).symm⟩
  case round =>
    obtain ⟨k, n, q, hk, hn, hq, hq1, rfl, rfl, B, C, hbq, hb, he⟩ := hrel
    by_cases hlt : k < s.size
    · obtain ⟨R, hR⟩ : ∃ R, s.extract k s.size = R := ⟨_, rfl⟩
      have hRl : R.data.toList = s.data.toList.drop k := by rw [← hR, cut_list]
      have hRs : R.size = s.size - k := by rw [size_list, hRl, List.length_drop, ← size_list]
      have hR0 : 0 < R.size := by omega
      have hone := list_one R hR0
      have hdr : ∀ j, R.data.toList.drop j = s.data.toList.drop (k + j) := fun j => by rw [hRl, List.drop_drop]
      rw [← hRl] at hb he
      obtain ⟨c0, c1, c2, c3⟩ := C
      have C : YtcglkekilaokaaaDoorC.Cells4 wr bq Qw := ⟨c0, c1, c2, c3⟩
      obtain ⟨wb, hw⟩ : ∃ x, wordB R[0] = x := ⟨_, rfl⟩
      obtain ⟨tb, ht⟩ : ∃ x, tripB R.data.toList = x := ⟨_, rfl⟩
      have Hw := hide hw
      have Ht := hide ht
      have Hone := hide hone
      have Hb := hide hb
      have He := hide he
      have HRl := hide hRl
      have Hdr := hide hdr
      clear hw hone hb he hRl ht hdr
      cases wb
      · cases tb
        · by_cases h46 : R[0] = 46
          · have hc : ((R[0].toNat : Int) == 46) = true := by simp [h46]
            by_cases hk1 : q = 1
            · have hk2 := hq1.1 hk1
              obtain ⟨hk3, rfl⟩ := hk2
              have hsc := sc_point k k (R.data.toList.drop 1)
              rw [← h46, ← Hone.out] at hsc
              have hbn : badN s.data.toList = k + 1 + goN 0 (s.data.toList.drop (k + 1)) := by
                rw [Hb.out, hk1, hsc.1, Hdr.out 1]; omega
              have hen : endN s.data.toList = endS 0 (k + 1) k (s.data.toList.drop (k + 1)) := by
                rw [He.out, hk1, hsc.2, Hdr.out 1]
              have Hbn := hide hbn
              have Hen := hide hen
              have H46 := hide h46
              clear hbn hen hsc h46 hq1
              go_wp2
              go_region_with (go_at_call 41; refine (phas_is Qw HQ.out R[0] false _ Hw.out).mono ?_; rintro e w1 ⟨rfl, bb⟩; replace C := C.below (below_drew bb) hbq; replace B := B.trans ((below_drew bb).mono B.size); replace hbq := Nat.lt_of_lt_of_le hbq (below_drew bb).size; clear bb c0 c1 c2 c3; obtain ⟨c0, c1, c2, c3⟩ := C)
              all_goals go_wp2_with (go_at_call 48; refine (ptrip_is R false _ Ht.out).mono ?_; rintro e w2 ⟨rfl, hw2⟩; rw [hw2])
              all_goals exact ⟨⟨k + 1, k, 0, by omega, by omega, by omega, by omega, by go_num, rfl, B, ⟨c0, c1, c2, c3⟩, hbq, Hbn.out, Hen.out⟩, by simp [intOf]; omega⟩
            · have hq0 : q = 0 := by omega
              have hkn : ¬ (0 < k ∧ k = n) := fun h => hk1 (hq1.2 h)
              clear hq1
              by_cases hk0 : 0 < k
              · have hkn2 : ((k : Int) == (n : Int)) = false := by simp; omega
                clear hkn
                have hsc := sc_else hq k n Hw.out (by rw [← Hone.out]; exact Ht.out) (.inr hq0)
                rw [← Hone.out] at hsc
                obtain ⟨M, hM⟩ : ∃ M : Int, (brokN R.data.toList : Int) = M := ⟨_, rfl⟩
                have hbn : (badN s.data.toList : Int) = k + M := by rw [Hb.out, hsc.1, ← hM]; omega
                have hen : endN s.data.toList = n := by rw [He.out, hsc.2]
                have hm2 : 0 ≤ M ∧ M ≤ 2 := by have := brok_le R.data.toList; omega
                obtain ⟨hm3, hm4⟩ := hm2
                have Hbn := hide hbn
                have Hen := hide hen
                have HM := hide hM
                have H46 := hide h46
                clear hbn hen hsc h46 hM
                go_wp2
                go_region_with (go_at_call 41; refine (phas_is Qw HQ.out R[0] false _ Hw.out).mono ?_; rintro e w1 ⟨rfl, bb⟩; replace C := C.below (below_drew bb) hbq; replace B := B.trans ((below_drew bb).mono B.size); replace hbq := Nat.lt_of_lt_of_le hbq (below_drew bb).size; clear bb c0 c1 c2 c3; obtain ⟨c0, c1, c2, c3⟩ := C)
                all_goals go_wp2_with (first | (go_at_call 48; refine (ptrip_is R false _ Ht.out).mono ?_; rintro e w2 ⟨rfl, hw2⟩; rw [hw2]) | (go_at_call 49; refine (broken_is R M _ hR0 HM.out).mono ?_; rintro e w2 ⟨rfl, hw2⟩; rw [hw2]))
                all_goals (try rw [Exit.noGoto_ret])
                all_goals go_ret2
                all_goals exact ⟨ret_nn (by rw [Hbn.out]) (by rw [Hen.out]), B⟩
              · clear hkn
                have hsc := sc_else hq k n Hw.out (by rw [← Hone.out]; exact Ht.out) (.inr hq0)
                rw [← Hone.out] at hsc
                obtain ⟨M, hM⟩ : ∃ M : Int, (brokN R.data.toList : Int) = M := ⟨_, rfl⟩
                have hbn : (badN s.data.toList : Int) = k + M := by rw [Hb.out, hsc.1, ← hM]; omega
                have hen : endN s.data.toList = n := by rw [He.out, hsc.2]
                have hm2 : 0 ≤ M ∧ M ≤ 2 := by have := brok_le R.data.toList; omega
                obtain ⟨hm3, hm4⟩ := hm2
                have Hbn := hide hbn
                have Hen := hide hen
                have HM := hide hM
                have H46 := hide h46
                clear hbn hen hsc h46 hM
                go_wp2
                go_region_with (go_at_call 41; refine (phas_is Qw HQ.out R[0] false _ Hw.out).mono ?_; rintro e w1 ⟨rfl, bb⟩; replace C := C.below (below_drew bb) hbq; replace B := B.trans ((below_drew bb).mono B.size); replace hbq := Nat.lt_of_lt_of_le hbq (below_drew bb).size; clear bb c0 c1 c2 c3; obtain ⟨c0, c1, c2, c3⟩ := C)
                all_goals go_wp2_with (first | (go_at_call 48; refine (ptrip_is R false _ Ht.out).mono ?_; rintro e w2 ⟨rfl, hw2⟩; rw [hw2]) | (go_at_call 49; refine (broken_is R M _ hR0 HM.out).mono ?_; rintro e w2 ⟨rfl, hw2⟩; rw [hw2]))
                all_goals (try rw [Exit.noGoto_ret])
                all_goals go_ret2
                all_goals exact ⟨ret_nn (by rw [Hbn.out]) (by rw [Hen.out]), B⟩
          · have hc : ((R[0].toNat : Int) == 46) = false := by
              have : R[0].toNat ≠ 46 := fun e => h46 (UInt8.toNat_inj.1 e)
              simp; omega
            have hsc := sc_else hq k n Hw.out (by rw [← Hone.out]; exact Ht.out) (.inl h46)
            rw [← Hone.out] at hsc
            obtain ⟨M, hM⟩ : ∃ M : Int, (brokN R.data.toList : Int) = M := ⟨_, rfl⟩
            have hbn : (badN s.data.toList : Int) = k + M := by rw [Hb.out, hsc.1, ← hM]; omega
            have hen : endN s.data.toList = n := by rw [He.out, hsc.2]
            have hm2 : 0 ≤ M ∧ M ≤ 2 := by have := brok_le R.data.toList; omega
            obtain ⟨hm3, hm4⟩ := hm2
            have Hbn := hide hbn
            have Hen := hide hen
            have HM := hide hM
            have H46 := hide h46
            clear hbn hen hsc h46 hM
            clear hq1
            go_wp2
            go_region_with (go_at_call 41; refine (phas_is Qw HQ.out R[0] false _ Hw.out).mono ?_; rintro e w1 ⟨rfl, bb⟩; replace C := C.below (below_drew bb) hbq; replace B := B.trans ((below_drew bb).mono B.size); replace hbq := Nat.lt_of_lt_of_le hbq (below_drew bb).size; clear bb c0 c1 c2 c3; obtain ⟨c0, c1, c2, c3⟩ := C)
            all_goals go_wp2_with (first | (go_at_call 48; refine (ptrip_is R false _ Ht.out).mono ?_; rintro e w2 ⟨rfl, hw2⟩; rw [hw2]) | (go_at_call 49; refine (broken_is R M _ hR0 HM.out).mono ?_; rintro e w2 ⟨rfl, hw2⟩; rw [hw2]))
            all_goals (try rw [Exit.noGoto_ret])
            all_goals go_ret2
            all_goals exact ⟨ret_nn (by rw [Hbn.out]) (by rw [Hen.out]), B⟩
        · have ht := Ht.out
          rcases (by omega : 3 ≤ R.size ∨ ¬ 3 ≤ R.size) with h3 | h3
          · have hat := trip_at R h3
            rw [ht] at hat
            have hat2 := hat.symm
            simp only [Bool.and_eq_true, beq_iff_eq] at hat2
            obtain ⟨⟨ha, hb1⟩, hb2⟩ := hat2
            have hl3 := list_three R h3
            rw [ha] at hl3
            have hsc := sc_trip hq k n (b := R[1]) (c := R[2]) hb1 hb2 (R.data.toList.drop 3)
            rw [← hl3] at hsc
            have hbn : badN s.data.toList = k + 3 + goN 1 (s.data.toList.drop (k + 3)) := by
              rw [Hb.out, hsc.1, Hdr.out 3]; omega
            have hen : endN s.data.toList = endS 1 (k + 3) (k + 3) (s.data.toList.drop (k + 3)) := by
              rw [He.out, hsc.2, Hdr.out 3]
            have Hbn := hide hbn
            have Hen := hide hen
            clear hbn hen hsc hq1 hl3 ha hb1 hb2 hat ht
            go_wp2
            go_region_with (go_at_call 41; refine (phas_is Qw HQ.out R[0] false _ Hw.out).mono ?_; rintro e w1 ⟨rfl, bb⟩; replace C := C.below (below_drew bb) hbq; replace B := B.trans ((below_drew bb).mono B.size); replace hbq := Nat.lt_of_lt_of_le hbq (below_drew bb).size; clear bb c0 c1 c2 c3; obtain ⟨c0, c1, c2, c3⟩ := C)
            all_goals go_wp2_with (go_at_call 48; refine (ptrip_is R true _ Ht.out).mono ?_; rintro e w2 ⟨rfl, hw2⟩; rw [hw2])
            all_goals exact ⟨⟨k + 3, k + 3, 1, by omega, by omega, by omega, by omega, by go_num, by go_num, B, ⟨c0, c1, c2, c3⟩, hbq, Hbn.out, Hen.out⟩, by simp [intOf]; omega⟩
          · have := trip_short R h3
            rw [this] at ht
            exact absurd ht (by decide)
      · have hsc := sc_word hq k n Hw.out (R.data.toList.drop 1)
        rw [← Hone.out] at hsc
        have hbn : badN s.data.toList = k + 1 + goN 1 (s.data.toList.drop (k + 1)) := by
          rw [Hb.out, hsc.1, Hdr.out 1]; omega
        have hen : endN s.data.toList = endS 1 (k + 1) (k + 1) (s.data.toList.drop (k + 1)) := by
          rw [He.out, hsc.2, Hdr.out 1]
        have Hbn := hide hbn
        have Hen := hide hen
        clear hbn hen hsc hq1
        go_wp2
        go_region_with (go_at_call 41; refine (phas_is Qw HQ.out R[0] true _ Hw.out).mono ?_; rintro e w1 ⟨rfl, bb⟩; replace C := C.below (below_drew bb) hbq; replace B := B.trans ((below_drew bb).mono B.size); replace hbq := Nat.lt_of_lt_of_le hbq (below_drew bb).size; clear bb c0 c1 c2 c3; obtain ⟨c0, c1, c2, c3⟩ := C)
        all_goals go_wp2
        all_goals exact ⟨⟨k + 1, k + 1, 1, by omega, by omega, by omega, by omega, by go_num, by go_num, B, ⟨c0, c1, c2, c3⟩, hbq, Hbn.out, Hen.out⟩, by simp [intOf]; omega⟩
    · have hke : k = s.size := by omega
      have hd : s.data.toList.drop k = [] := List.drop_eq_nil_of_le (by rw [← size_list]; omega)
      rw [hd] at hb he
      have hb2 : badN s.data.toList = k := by rw [hb]; rfl
      have he2 : endN s.data.toList = n := by rw [he]; rfl
      have Hb := hide hb2
      have He := hide he2
      clear hb he hb2 he2 hd hq1
      subst hke
      go_wp2
      all_goals (try rw [Exit.noGoto_ret])
      all_goals go_ret2
      all_goals exact ⟨ret_nn (by rw [Hb.out]) (by rw [He.out]), B⟩
end Go.Proofs.YtcglkekilaokaaaDoor
