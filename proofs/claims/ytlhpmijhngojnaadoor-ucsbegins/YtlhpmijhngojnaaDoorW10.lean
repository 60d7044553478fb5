/-
  WALKS: the reference's Fits (layer 4).
-/
import Derived.Test.YtlhpmijhngojnaaDoorR2
import Derived.Test.YtlhpmijhngojnaaDoorR3
import Derived.Test.YtlhpmijhngojnaaDoorR4
namespace Go.Proofs.YtlhpmijhngojnaaDoor
open Go.RowKit

set_option maxRecDepth 20000 in
set_option maxHeartbeats 2000000 in
theorem rfits_any (s : ByteArray) (w : World) :
    Calls Tryd.prog 15 #[.string s] w fun e w' => e = .returned (.bool (fitB s.data.toList)) ∧ Below w.heap.size w w' := by
  by_cases h : 0 < s.size
  · have hb0 := UInt8.toNat_lt s[0]
    have hi0 : (0 : Int) ≤ s[0].toNat := by omega
    have hi1 : (s[0].toNat : Int) ≤ 255 := by omega
    have hne := eq_some s h
    obtain ⟨n, hn⟩ : ∃ n, sizeN s[0].toNat = n := ⟨_, rfl⟩
    by_cases h0 : n = 0
    · have Hf := hide (fit_size0 s h (by omega))
      have Hsz : Hid ((sizeN (s[0].toNat : Int).toNat : Int) = 0) := by show (sizeN (s[0].toNat : Int).toNat : Int) = 0; rw [Int.toNat_natCast, hn, h0]; rfl
      clear hn h0
      go_enter Tryd.func15, Tryd.ntmps15
      go_wp2_with (go_at_call 22; refine (size_is' _ 0 _ hi0 hi1 Hsz.out).mono ?_; rintro e w' ⟨rfl, hw⟩; rw [hw])
      go_ret
      exact ⟨ret_bool Hf.out.symm, Below.refl _ _⟩
    · by_cases hl : s.size ≤ n
      · have h234 := size_is s[0].toNat
        rw [hn] at h234
        rcases h234 with rfl | rfl | rfl | rfl
        · exact absurd rfl h0
        · exact rfits_2 s w h hn hl
        · exact rfits_3 s w h hn hl
        · exact rfits_4 s w h hn hl
      · have Hf := hide (fit_long s h (by omega))
        have Hsz : Hid ((sizeN (s[0].toNat : Int).toNat : Int) = n) := by show (sizeN (s[0].toNat : Int).toNat : Int) = n; rw [Int.toNat_natCast, hn]
        have hn4 : n ≤ 4 := by have := size_is s[0].toNat; omega
        have hn0 : ((n : Int) == 0) = false := by simp; omega
        clear hn h0
        go_enter Tryd.func15, Tryd.ntmps15
        go_wp2_with (go_at_call 22; refine (size_is' _ n _ hi0 hi1 Hsz.out).mono ?_; rintro e w' ⟨rfl, hw⟩; rw [hw])
        go_ret
        exact ⟨ret_bool Hf.out.symm, Below.refl _ _⟩
  · have hne := eq_none s h
    have Hf := hide (fit_empty s h)
    go_enter Tryd.func15, Tryd.ntmps15
    go_wp2
    go_ret
    exact ⟨ret_bool Hf.out.symm, Below.refl _ _⟩
theorem rfits_is (s : ByteArray) (b : Bool) (w : World) (h : fitB s.data.toList = b) :
    Calls Tryd.prog 15 #[.string s] w fun e w' => e = .returned (.bool b) ∧ Below w.heap.size w w' := by
  subst h; exact rfits_any s w
end Go.Proofs.YtlhpmijhngojnaaDoor
