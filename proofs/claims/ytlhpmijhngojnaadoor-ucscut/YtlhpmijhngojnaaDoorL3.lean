/-
  THE WALK of UcsCut.
-/
import Derived.Test.YtlhpmijhngojnaaDoorW13
namespace Go.Proofs.YtlhpmijhngojnaaDoor
open Go.RowKit
open Go.Lib (encodeRune)

theorem bel_alloc {w W W' : World} {o : Obj} (B : Below w.heap.size w W) (bb : Below (W.alloc o).heap.size (W.alloc o) W') : Below w.heap.size w W' :=
  (B.alloc B.size o).trans (bb.mono (B.alloc B.size o).size)
theorem ext_list (s : ByteArray) (k : Nat) : (s.extract 0 k).data.toList = s.data.toList.take k := by
  rw [← Lib.toList_data, Lib.extract_toList]; rfl
theorem app_list (a b : ByteArray) : (a ++ b).data.toList = a.data.toList ++ b.data.toList := by
  simp

set_option maxRecDepth 20000 in
set_option maxHeartbeats 2000000 in
theorem cut_walk (s : ByteArray) (more cut : Int) (w : World) (R : Ran w) (h0 : 0 ≤ more) (h1 : more ≤ 255) (g0 : 0 ≤ cut) (g1 : cut ≤ 255) :
    Calls Tryd.prog 5 #[.string s, .int .u8 more, .int .u8 cut] w fun e w' => e = .returned (.bool true) ∧ Below w.heap.size w w' := by
  have B := Below.refl w.heap.size w
  have R1 := hide R
  clear R
  by_cases hz : s.size = 0
  · have hz1 : ((s.size : Int) == 0) = true := by simp [hz]
    go_enter Tryd.func5, Tryd.ntmps5
    go_wp2_with (first
      | (go_at_call 9; refine (awake_any _ (R1.out.next B)).mono ?_; rintro e w1 ⟨rfl, bb⟩; replace B := B.trans (bb.mono B.size); clear bb))
    go_ret
    first | exact ⟨rfl, B⟩ | exact ⟨ret_bool (by simp; omega), B⟩
  have hz0 : (s.size : Int) ≠ 0 := by omega
  have hz1 : ((s.size : Int) == 0) = false := beq_eq_false_iff_ne.2 hz0
  by_cases hbig : 1000 < s.size
  · go_enter Tryd.func5, Tryd.ntmps5
    go_wp2_with (first
      | (go_at_call 9; refine (awake_any _ (R1.out.next B)).mono ?_; rintro e w1 ⟨rfl, bb⟩; replace B := B.trans (bb.mono B.size); clear bb))
    go_ret
    first | exact ⟨rfl, B⟩ | exact ⟨ret_bool (by simp; omega), B⟩
  · have hs : s.size ≤ 100000 := by omega
    have hne : s.data.toList ≠ [] := by
      intro e
      have e1 : s.data.toList.length = s.size := by simp
      rw [e] at e1
      exact hz e1.symm
    cases hf : fitB s.data.toList with
    | true =>
      have hl : s.size ≤ 4 := by have := fit_len hf; simpa using this
      obtain ⟨k, hk⟩ : ∃ k : Nat, cut % (s.size : Int) = k := ⟨(cut % (s.size : Int)).toNat, (Int.toNat_of_nonneg (Int.emod_nonneg cut hz0)).symm⟩
      have hk2 : (k : Int) < s.size := by rw [← hk]; exact Int.emod_lt_of_pos _ (by omega)
      have hkt : cut.tmod (s.size : Int) = k := by rw [Int.tmod_eq_emod_of_nonneg g0]; exact hk
      have Hc : Hid (fitB (s.extract 0 (1 + k)).data.toList = true) := by show fitB (s.extract 0 (1 + k)).data.toList = true; rw [ext_list]; exact fit_cut hf _ (by omega)
      have hcs : (s.extract 0 (1 + k)).size ≤ 100000 := by
        have e1 : (s.extract 0 (1 + k)).size = (s.extract 0 (1 + k)).data.toList.length := by simp
        rw [e1, ext_list]
        have := List.length_take_le (1 + k) s.data.toList
        omega
      have Hf := hide hf
      clear hf
      go_enter Tryd.func5, Tryd.ntmps5
      go_wp2_with (first
        | (go_at_call 9; refine (awake_any _ (R1.out.next B)).mono ?_; rintro e w1 ⟨rfl, bb⟩; replace B := B.trans (bb.mono B.size); clear bb)
        | (go_at_call_of 14 (Value.string s); refine (pfits_is s true _ (R1.out.next B) Hf.out).mono ?_; rintro e w1 ⟨rfl, bb⟩; replace B := B.trans (bb.mono B.size); clear bb)
        | (go_at_call 14; refine (pfits_is (s.extract 0 (1 + k)) true _ (R1.out.next B) Hc.out).mono ?_; rintro e w1 ⟨rfl, bb⟩; replace B := B.trans (bb.mono B.size); clear bb))
      go_ret
      first | exact ⟨rfl, B⟩ | exact ⟨ret_bool (by simp; omega), B⟩
    | false =>
      have hcv := fun W => conv_one W more h0 h1
      obtain ⟨m, hm⟩ : ∃ m : ByteArray, (⟨#[more.toNat.toUInt8]⟩ : ByteArray) = m := ⟨_, rfl⟩
      rw [hm] at hcv
      have hms : m.size = 1 := by rw [← hm]; rfl
      have Hc : Hid (fitB (s ++ m).data.toList = false) := by show fitB (s ++ m).data.toList = false; rw [app_list]; exact fit_more hne hf _
      have hcs : (s ++ m).size ≤ 100000 := by rw [ByteArray.size_append]; omega
      have Hf := hide hf
      clear hf hm
      go_enter Tryd.func5, Tryd.ntmps5
      go_wp2_with (first
        | (go_at_call 9; refine (awake_any _ (R1.out.next B)).mono ?_; rintro e w1 ⟨rfl, bb⟩; replace B := B.trans (bb.mono B.size); clear bb)
        | (go_at_call_of 14 (Value.string s); refine (pfits_is s false _ (R1.out.next B) Hf.out).mono ?_; rintro e w1 ⟨rfl, bb⟩; replace B := B.trans (bb.mono B.size); clear bb)
        | (go_at_call_of 14 (Value.string (s ++ m)); refine (pfits_is (s ++ m) false _ (R1.out.next (B.alloc B.size _)) Hc.out).mono ?_; rintro e w1 ⟨rfl, bb⟩; replace B := bel_alloc B bb; clear bb))
      go_ret
      first | exact ⟨rfl, B⟩ | exact ⟨ret_bool (by simp; omega), B⟩
end Go.Proofs.YtlhpmijhngojnaaDoor
