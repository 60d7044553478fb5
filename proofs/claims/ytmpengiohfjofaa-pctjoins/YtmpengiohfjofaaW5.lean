/-
  WALKS: chars.Of; the reference's In.
-/
import Derived.Test.YtmpengiohfjofaaW4
namespace Go.Proofs.Ytmpengiohfjofaa
open Go.RowKit

theorem take_snoc (s : ByteArray) (k : Nat) (h : k < s.size) : s.data.toList.take (k + 1) = s.data.toList.take k ++ [s[k]] := by
  rw [List.take_succ_eq_append_getElem (by simpa using h)]; rfl

set_option maxHeartbeats 1000000 in
theorem of_any (s : ByteArray) (w : World) (hs : s.size ≤ maxLen) :
    Calls Try.prog 48 #[.string s] w fun e w' => e = .returned (qv (ofQ s.data.toList)) ∧ Below w.heap.size w w' := by
  unfold maxLen at hs
  go_enter Try.func48, Try.ntmps48
  go_wp2
  go_loopw [7] (fun i wr => ∃ k : Nat, k ≤ s.size ∧ i = .int .i64 k ∧ Below w.heap.size w wr ∧ Box wr w.heap.size zeroQ ∧ Box wr (w.heap.size + 1) (ofQ (s.data.toList.take k))) (fun i _ => s.size - (intOf i).toNat)
  case atStart =>
    refine ⟨0, Nat.zero_le _, rfl, ((Below.refl _ _).alloc (Nat.le_refl _) _).alloc (by simp) _, ?_, ?_⟩
    · exact (Box.made w zeroQ).later _
    · have := Box.made (w.alloc (.cells #[.int .u64 0, .int .u64 0, .int .u64 0, .int .u64 0] 50)) zeroQ
      simpa [zeroQ, ofQ] using this
  case round =>
    obtain ⟨k, hk1, rfl, hB, hR, hX⟩ := hrel
    obtain ⟨c0, c1, c2, c3⟩ := hX.cells
    have fr := hX.free
    have hsz := hX.lt
    by_cases hlt : k < s.size
    · have hlti : (k : Int) < (s.size : Int) := by omega
      have hts := take_snoc s k hlt
      have hu := UInt8.toNat_lt s[k]
      have hk0 : (0 : Int) ≤ s[k].toNat := by omega
      have hk5 : (s[k].toNat : Int) ≤ 255 := by omega
      have hou := of_ok (s.data.toList.take k)
      have hoo := one_ok (s[k].toNat : Int).toNat
      have Hts := hide hts
      clear hts
      go_wp2
      go_region_with (first | (go_at_call 51; refine (one_any _ _ hk0 hk5).mono ?_; rintro e w1 ⟨rfl, b1⟩; simp only [qv]; have X1 : Box w1 _ _ := (b1.block _ hsz).trans hX; have R1 : Box w1 _ _ := (b1.block _ hR.lt).trans hR; obtain ⟨d0, d1, d2, d3⟩ := X1.cells; have fr1 := X1.free) | (go_at_call 33; refine (union2 _ _ _ hou hoo).mono ?_; rintro e w2 ⟨rfl, b2⟩; simp only [qv]; have X2 : Box w2 _ _ := (b2.block _ X1.lt).trans X1; have R2 : Box w2 _ _ := (b2.block _ R1.lt).trans R1; obtain ⟨m0, m1, m2, m3⟩ := X2.cells; have fr2 := X2.free))
      all_goals
        go_wp2
        have hb := below_two hB (by omega) b1 b2
        have hx := (X2.store (orQ (ofQ (s.data.toList.take k)) (oneQ (s[k].toNat : Int).toNat)))
        have hr := R2.other (k := w.heap.size + 1) (by omega) (orQ (ofQ (s.data.toList.take k)) (oneQ (s[k].toNat : Int).toNat))
        have hb' := below_put (b := w.heap.size + 1) hb (by omega) (orQ (ofQ (s.data.toList.take k)) (oneQ (s[k].toNat : Int).toNat))
        go_roundw
        case rel => exact ⟨k + 1, by omega, by go_num, hb', hr, by rw [Hts.out, of_snoc]; exact hx⟩
        case measure => simp [intOf]; omega
    · obtain ⟨r0, r1, r2, r3⟩ := hR.cells
      have frR := hR.free
      have he : s.data.toList.take k = s.data.toList := List.take_of_length_le (by simp; omega)
      have He := hide he
      clear he
      go_wp2
      have hb' := below_put (b := w.heap.size) hB (Nat.le_refl _) (ofQ (s.data.toList.take k))
      obtain ⟨z0, z1, z2, z3⟩ := (hR.store (ofQ (s.data.toList.take k))).cells
      refine bodyPost_ret (v := qv (ofQ (s.data.toList.take k))) ?_ rfl ⟨by rw [He.out], hb'⟩
      simp [results, Try.results48, go_sem, qv, z0, z1, z2, z3]

/-- a byte is in a text -/
def inB (l : List UInt8) (n : Nat) : Bool := l.any fun c => decide (n = c.toNat)
theorem in_snoc (l : List UInt8) (c : UInt8) (n : Nat) : inB (l ++ [c]) n = (inB l n || decide (n = c.toNat)) := by unfold inB; simp
theorem in_more (l : List UInt8) (k n : Nat) (h : inB (l.take k) n = true) : inB l n = true := by
  unfold inB at *
  rw [List.any_eq_true] at *
  obtain ⟨x, hx, hc⟩ := h
  exact ⟨x, List.mem_of_mem_take hx, hc⟩

set_option maxHeartbeats 1000000 in
theorem in_any (s : ByteArray) (c : Int) (w : World) (hs : s.size ≤ maxLen) (h0 : 0 ≤ c) :
    Calls Try.prog 44 #[.string s, .int .u8 c] w fun e w' => e = .returned (.bool (inB s.data.toList c.toNat)) ∧ w' = w := by
  unfold maxLen at hs
  go_enter Try.func44, Try.ntmps44
  go_wp2
  go_loop [5] (fun i => ∃ k : Nat, k ≤ s.size ∧ i = .int .i64 k ∧ inB (s.data.toList.take k) c.toNat = false) (fun i => s.size - (intOf i).toNat)
  case atStart => exact ⟨0, Nat.zero_le _, rfl, rfl⟩
  case round =>
    obtain ⟨k, hk, rfl, hno⟩ := hrel
    have Hno := hide hno
    clear hno
    by_cases hlt : k < s.size
    · have hts := take_snoc s k hlt
      have HS : Hid (inB (s.data.toList.take (k + 1)) c.toNat = (inB (s.data.toList.take k) c.toNat || decide (c.toNat = s[k].toNat))) := by rw [hts]; exact in_snoc _ _ _
      have hmore : Hid (inB (s.data.toList.take (k + 1)) c.toNat = true → inB s.data.toList c.toNat = true) := in_more _ _ _
      clear hts
      by_cases hcc : c = (s[k].toNat : Int)
      · have hc : c.toNat = s[k].toNat := by omega
        have Hc := hide hc
        clear hc
        have ht : ((s[k].toNat : Int) == c) = true := by simp [hcc]
        go_wp2
        go_ret
        refine ⟨ret_bool ?_, rfl⟩
        rw [← Hc.out, hmore.out (by rw [HS.out, Hc.out]; simp)]
      · have hc : ¬ c.toNat = s[k].toNat := by omega
        have ht : ((s[k].toNat : Int) == c) = false := by simp; omega
        go_wp2
        go_round
        case rel => exact ⟨k + 1, by omega, by go_num, by rw [HS.out, Hno.out]; simp [hc]⟩
        case measure => simp [intOf]; omega
    · go_wp2
      go_ret
      refine ⟨ret_bool ?_, rfl⟩
      rw [← Hno.out, List.take_of_length_le (by simp; omega)]
end Go.Proofs.Ytmpengiohfjofaa
