/-
  THE WALK of UtfPrefix.
-/
import Derived.Test.YteplnfncpidglaaL4
namespace Go.Proofs.Yteplnfncpidglaa
open Go.RowKit

theorem allMay_take {cs : List Int} (h : allMay cs = true) (k : Nat) : allMay (cs.take k) = true := by
  unfold allMay at *
  rw [List.all_eq_true] at *
  exact fun x hx => h x (List.mem_of_mem_take hx)
theorem chars_pref (l : List UInt8) (m : Int) : chars (prefL l m) = (chars l).take m.toNat ∧ validB (prefL l m) = true := by
  have h := chars_text ((chars l).take m.toNat) (allMay_take (chars_may l) _)
  exact ⟨h.1, by simp [validB, prefL, h.2]⟩
theorem count_pref (l : List UInt8) (m : Int) : (chars (prefL l m)).length = min m.toNat (chars l).length := by
  rw [(chars_pref l m).1, List.length_take]
theorem pref_pref (l : List UInt8) (m n : Int) : prefL (prefL l m) n = prefL l (min m n) := by
  unfold prefL
  have e := (chars_pref l m).1
  unfold prefL at e
  rw [e, List.take_take]
  congr 2
  omega
theorem pref_neg (l : List UInt8) : prefL l (-1) = [] := by simp [prefL, textL]
theorem pref_begin (l : List UInt8) (m : Int) : l.take (prefL l m).length = prefL l m := by
  unfold prefL
  rw [← text_take]

set_option maxHeartbeats 1000000 in
theorem prefix_walk (a0 : ByteArray) (a1 a2 : Int) (h1 : 0 ≤ a1 ∧ a1 ≤ 255) (h2 : 0 ≤ a2 ∧ a2 ≤ 255) (w : World) :
    Calls Try.prog 7 #[.string a0, .int .u8 a1, .int .u8 a2] w fun e w' => e = .returned (.bool true) ∧ Below w.heap.size w w' := by
  have b := Below.refl w.heap.size w
  by_cases h0 : 2000 < a0.size
  · go_enter Try.func7, Try.ntmps7
    go_wp2_with (go_at_call 9; refine (awake_any _).mono ?_; rintro e w' ⟨rfl, bv⟩; replace b := b.trans (bv.mono b.size))
    go_ret
    exact ⟨rfl, b⟩
  · have hp1 := prefL_le a0.data.toList a1
    have hx : ((a0.extract 0 (prefL a0.data.toList a1).length).toList == prefL a0.data.toList a1) = true := by
      rw [Lib.extract_toList]
      simp [pref_begin]
    have hv := (chars_pref a0.data.toList a1).2
    have hn := count_pref a0.data.toList a1
    have hpp := pref_pref a0.data.toList a1 a2
    have hneg := pref_neg a0.data.toList
    simp only [Array.length_toList, ByteArray.size_data] at hp1
    have hcl := chars_len a0.data.toList
    simp only [Array.length_toList, ByteArray.size_data] at hcl
    go_enter Try.func7, Try.ntmps7
    go_wp2_with (first | (go_at_call 9; refine (awake_any _).mono ?_; rintro e w' ⟨rfl, bv⟩; replace b := b.trans (bv.mono b.size)) | (go_at_call 17; refine (prefix_any _ _ _ ?_).mono ?_; rotate_left; rintro e w' ⟨rfl, bv⟩; replace b := b.trans (bv.mono b.size)) | (go_at_call 14; refine (valid_any _ _).mono ?_; rintro e w' ⟨rfl, bv⟩; replace b := b.trans (bv.mono b.size)) | (go_at_call 16; refine (count_any _ _ ?_).mono ?_; rotate_left; rintro e w' ⟨rfl, bv⟩; replace b := b.trans (bv.mono b.size)))
    · go_ret
      exact ⟨rfl, b⟩
    all_goals first | omega | (show (prefL a0.data.toList a1).toArray.size ≤ _; rw [List.size_toArray]; omega)
end Go.Proofs.Yteplnfncpidglaa
