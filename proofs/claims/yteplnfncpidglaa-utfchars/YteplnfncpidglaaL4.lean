/-
  THE WALK of UtfJoins.
-/
import Derived.Test.YteplnfncpidglaaW4
namespace Go.Proofs.Yteplnfncpidglaa
open Go.RowKit

theorem append_data (a b : ByteArray) : (a ++ b).data.toList = a.data.toList ++ b.data.toList := by simp

theorem joins_plain (a b : List UInt8) (h : validB a = true) : validB (a ++ b) = validB b ∧ (chars (a ++ b)).length = (chars a).length + (chars b).length ∧ blen (a ++ b) = a.length + blen b := by
  have hv : blen a = a.length := by simpa [validB] using h
  have ht := valid_text a hv
  have hc := chars_append (chars a) b (chars_may a)
  rw [ht] at hc
  refine ⟨?_, by rw [hc.1, List.length_append], hc.2⟩
  unfold validB
  rw [hc.2, List.length_append]
  rw [Bool.eq_iff_iff]
  simp

theorem valid_is (s : ByteArray) (w : World) (b : Bool) (h : validB s.data.toList = b) : Calls Try.prog 14 #[.string s] w fun e w' => e = .returned (.bool b) ∧ Below w.heap.size w w' := by
  subst h; exact valid_any s w

set_option maxHeartbeats 1000000 in
theorem joins_walk (a0 a1 : ByteArray) (w : World) :
    Calls Try.prog 6 #[.string a0, .string a1] w fun e w' => e = .returned (.bool true) ∧ Below w.heap.size w w' := by
  have b := Below.refl w.heap.size w
  by_cases h0 : 2000 < a0.size
  · go_enter Try.func6, Try.ntmps6
    go_wp2_with (go_at_call 9; refine (awake_any _).mono ?_; rintro e w' ⟨rfl, bv⟩; replace b := b.trans (bv.mono b.size))
    go_ret
    exact ⟨rfl, b⟩
  · by_cases h1 : 2000 < a1.size
    · go_enter Try.func6, Try.ntmps6
      go_wp2_with (go_at_call 9; refine (awake_any _).mono ?_; rintro e w' ⟨rfl, bv⟩; replace b := b.trans (bv.mono b.size))
      go_ret
      exact ⟨rfl, b⟩
    · cases hv : validB a0.data.toList with
      | false =>
        have Hv := hide hv
        clear hv
        go_enter Try.func6, Try.ntmps6
        go_wp2_with (first | (go_at_call 9; refine (awake_any _).mono ?_; rintro e w' ⟨rfl, bv⟩; replace b := b.trans (bv.mono b.size)) | (go_at_call 14; refine (valid_is _ _ false Hv.out).mono ?_; rintro e w' ⟨rfl, bv⟩; replace b := b.trans (bv.mono b.size)))
        go_ret
        exact ⟨rfl, b⟩
      | true =>
        have hj := joins_plain a0.data.toList a1.data.toList hv
        obtain ⟨j1, j2, j3⟩ := hj
        have l0 := chars_len a0.data.toList
        have l1 := chars_len a1.data.toList
        have l2 := blen_le a1.data.toList
        simp only [Array.length_toList, ByteArray.size_data] at j3 l0 l1 l2
        go_enter Try.func6, Try.ntmps6
        go_wp2_with (first | (go_at_call 9; refine (awake_any _).mono ?_; rintro e w' ⟨rfl, bv⟩; replace b := b.trans (bv.mono b.size)) | (go_at_call 14; refine (valid_any _ _).mono ?_; rintro e w' ⟨rfl, bv⟩; replace b := b.trans (bv.mono b.size)) | (go_at_call 16; refine (count_any _ _ ?_).mono ?_; rotate_left; rintro e w' ⟨rfl, bv⟩; replace b := b.trans (bv.mono b.size)) | (go_at_call 15; refine (bad_any _ _).mono ?_; rintro e w' ⟨rfl, bv⟩; replace b := b.trans (bv.mono b.size)))
        · go_ret
          exact ⟨rfl, b⟩
        all_goals (try simp) <;> omega
end Go.Proofs.Yteplnfncpidglaa
