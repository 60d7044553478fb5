/-
  WALKS: the program's figures (layer 6).
-/
import Derived.Test.YtcglkekilaokaaaDoorG1
import Derived.Test.YtcglkekilaokaaaDoorW3
import Derived.Test.YtcglkekilaokaaaDoorCW8
namespace Go.Proofs.YtcglkekilaokaaaDoor
open Go.RowKit

theorem digit_fin : ∀ c : Fin 256, YtcglkekilaokaaaDoorC.digitQ.has c.val = decide (48 ≤ c.val ∧ c.val ≤ 57) := by decide +kernel
theorem pdigit_is (q : YtcglkekilaokaaaDoorC.Q) (w : World) (h : YtcglkekilaokaaaDoorC.digitQ = q) : Calls Tryd.prog 40 #[] w fun e w' => e = .returned (YtcglkekilaokaaaDoorC.qv q) ∧ Below w.heap.size w w' := by
  subst h; exact YtcglkekilaokaaaDoorC.digit_any w
theorem dhas_is (q : YtcglkekilaokaaaDoorC.Q) (h : YtcglkekilaokaaaDoorC.digitQ = q) (c : UInt8) (b : Bool) (w : World) (hb : digB c = b) :
    Calls Tryd.prog 41 #[YtcglkekilaokaaaDoorC.qv q, .int .u8 (c.toNat : Int)] w fun e w' => e = .returned (.bool b) ∧ Below w.heap.size w w' := by
  subst h
  have hl := UInt8.toNat_lt c
  refine YtcglkekilaokaaaDoorC.has_is _ _ b w YtcglkekilaokaaaDoorC.digit_ok (by omega) (by omega) ?_
  rw [Int.toNat_natCast, digit_fin ⟨c.toNat, hl⟩]
  exact hb
theorem ret_ff {a b c d : Int} (h : a = c) (k : b = d) : Ending.returned (.tuple #[.int .i64 a, .int .i64 b]) = .returned (.tuple #[.int .i64 c, .int .i64 d]) := by rw [h, k]

theorem int_eq {a b : Int} (h : a = b) : Value.int .i64 a = .int .i64 b := by rw [h]
set_option maxRecDepth 20000 in
set_option maxHeartbeats 1000000 in
theorem figs_any (s : ByteArray) (w : World) (hs : s.size ≤ 2000000) :
    Calls Tryd.prog 32 #[.string s] w fun e w' => e = .returned (.tuple #[.int .i64 (figS 0 0 s.data.toList).1, .int .i64 (figS 0 0 s.data.toList).2]) ∧ Below w.heap.size w w' := by
  obtain ⟨Qw, hQ⟩ : ∃ q, YtcglkekilaokaaaDoorC.digitQ = q := ⟨_, rfl⟩
  have HQ := hide hQ
  clear hQ
  obtain ⟨P, hP⟩ : ∃ p, figS 0 0 s.data.toList = p := ⟨_, rfl⟩
  rw [hP]
  have B := Below.refl w.heap.size w
  go_enter Tryd.func32, Tryd.ntmps32
  go_wp2_with (go_at_call 40; refine (pdigit_is Qw _ HQ.out).mono ?_; rintro e w0 ⟨rfl, B0⟩; replace B := B0; clear B0; simp only [YtcglkekilaokaaaDoorC.qv])
  have C0 := YtcglkekilaokaaaDoorC.Cells4.made w0 Qw 62
  have B1 := B.alloc B.size (.cells #[.int .u64 Qw.a, .int .u64 Qw.b, .int .u64 Qw.c, .int .u64 Qw.d] 62)
  have hlt0 : w0.heap.size < (w0.alloc (.cells #[.int .u64 Qw.a, .int .u64 Qw.b, .int .u64 Qw.c, .int .u64 Qw.d] 62)).heap.size := by simp
  obtain ⟨W1, hW1⟩ : ∃ W, w0.alloc (.cells #[.int .u64 Qw.a, .int .u64 Qw.b, .int .u64 Qw.c, .int .u64 Qw.d] 62) = W := ⟨_, rfl⟩
  rw [hW1] at C0 B1 hlt0 ⊢
  clear hW1 B
  obtain ⟨bq, hbq⟩ : ∃ b, w0.heap.size = b := ⟨_, rfl⟩
  rw [hbq] at C0 hlt0 ⊢
  clear hbq w0
  go_loopw [2, 10] (fun a i wr => ∃ (k m : Nat), k ≤ s.size ∧ m ≤ 9999 ∧ i = .int .i64 k ∧ a = .int .i64 m ∧ Below w.heap.size w wr ∧ YtcglkekilaokaaaDoorC.Cells4 wr bq Qw ∧ bq < wr.heap.size ∧ figS m k (s.data.toList.drop k) = P) (fun _ i _ => s.size - (intOf i).toNat)
  case atStart => exact ⟨0, 0, by omega, by omega, rfl, rfl, B1, C0, hlt0, hP⟩
  case round =>
    obtain ⟨k, m, hk, hm, rfl, rfl, B, C, hbq, hp⟩ := hrel
    by_cases hlt : k < s.size
    · have hone : s.data.toList.drop k = s[k] :: s.data.toList.drop (k + 1) := List.drop_eq_getElem_cons (by rw [← size_list]; exact hlt)
      rw [hone] at hp
      obtain ⟨c0, c1, c2, c3⟩ := C
      have C : YtcglkekilaokaaaDoorC.Cells4 wr bq Qw := ⟨c0, c1, c2, c3⟩
      obtain ⟨db, hd⟩ : ∃ x, digB s[k] = x := ⟨_, rfl⟩
      have Hd := hide hd
      have Hp := hide hp
      have hu := UInt8.toNat_lt s[k]
      clear hone hp hP
      cases db
      · have hr : P = (m, k) := by rw [← Hp.out, figS_no (by rw [hd]; simp)]
        subst hr
        clear hd
        go_wp2
        go_region_with (go_at_call 41; refine (dhas_is Qw HQ.out s[k] false _ Hd.out).mono ?_; rintro e w1 ⟨rfl, bb⟩; replace C := C.below (below_drew bb) hbq; replace B := B.trans ((below_drew bb).mono B.size); replace hbq := Nat.lt_of_lt_of_le hbq (below_drew bb).size; clear bb c0 c1 c2 c3; obtain ⟨c0, c1, c2, c3⟩ := C)
        all_goals go_wp2
        all_goals go_ret2
        all_goals exact ⟨rfl, B⟩
      · have hdi := (dig_iff s[k]).1 hd
        by_cases hn : 0 < 10 * m + (s[k].toNat - 48) ∧ 10 * m + (s[k].toNat - 48) ≤ 9999
        · have hr := Hp.out
          rw [figS_yes ⟨hd, hn⟩] at hr
          have Hr := hide hr
          obtain ⟨hn1, hn2⟩ := hn
          have b1 : (48 : Int) ≤ (s[k].toNat : Int) := by omega
          have b2 : (s[k].toNat : Int) ≤ 57 := by omega
          have t1 : (10 * (m : Int) + ((s[k].toNat : Int) - 48) == 0) = false := by simp; omega
          have t2 : decide (9999 < 10 * (m : Int) + ((s[k].toNat : Int) - 48)) = false := by simp; omega
          clear hd hr hdi
          go_wp2
          go_region_with (go_at_call 41; refine (dhas_is Qw HQ.out s[k] true _ Hd.out).mono ?_; rintro e w1 ⟨rfl, bb⟩; replace C := C.below (below_drew bb) hbq; replace B := B.trans ((below_drew bb).mono B.size); replace hbq := Nat.lt_of_lt_of_le hbq (below_drew bb).size; clear bb c0 c1 c2 c3; obtain ⟨c0, c1, c2, c3⟩ := C)
          all_goals go_wp2
          all_goals exact ⟨⟨k + 1, 10 * m + (s[k].toNat - 48), by omega, hn2, by go_num, int_eq (by omega), B, ⟨c0, c1, c2, c3⟩, hbq, Hr.out⟩, by simp [intOf]; omega⟩
        · have hr : P = (m, k) := by rw [← Hp.out, figS_no (by rw [hd]; simpa using hn)]
          subst hr
          have b1 : (48 : Int) ≤ (s[k].toNat : Int) := by omega
          have b2 : (s[k].toNat : Int) ≤ 57 := by omega
          clear hd hdi
          by_cases hz : 10 * (m : Int) + ((s[k].toNat : Int) - 48) = 0
          · go_wp2
            go_region_with (go_at_call 41; refine (dhas_is Qw HQ.out s[k] true _ Hd.out).mono ?_; rintro e w1 ⟨rfl, bb⟩; replace C := C.below (below_drew bb) hbq; replace B := B.trans ((below_drew bb).mono B.size); replace hbq := Nat.lt_of_lt_of_le hbq (below_drew bb).size; clear bb c0 c1 c2 c3; obtain ⟨c0, c1, c2, c3⟩ := C)
            all_goals go_wp2
            all_goals go_ret2
            all_goals exact ⟨rfl, B⟩
          · have t2 : 9999 < 10 * (m : Int) + ((s[k].toNat : Int) - 48) := by omega
            go_wp2
            go_region_with (go_at_call 41; refine (dhas_is Qw HQ.out s[k] true _ Hd.out).mono ?_; rintro e w1 ⟨rfl, bb⟩; replace C := C.below (below_drew bb) hbq; replace B := B.trans ((below_drew bb).mono B.size); replace hbq := Nat.lt_of_lt_of_le hbq (below_drew bb).size; clear bb c0 c1 c2 c3; obtain ⟨c0, c1, c2, c3⟩ := C)
            all_goals go_wp2
            all_goals go_ret2
            all_goals exact ⟨rfl, B⟩
    · have hd : s.data.toList.drop k = [] := List.drop_eq_nil_of_le (by rw [← size_list]; omega)
      rw [hd] at hp
      have hr : P = (m, k) := hp.symm
      subst hr
      have hke : k = s.size := by omega
      subst hke
      clear hp hd hP
      go_wp2
      all_goals go_ret2
      all_goals exact ⟨rfl, B⟩
end Go.Proofs.YtcglkekilaokaaaDoor
