/-
  THE WALK of PctURI.
-/
import Derived.Test.YtmpengiohfjofaaL3
namespace Go.Proofs.Ytmpengiohfjofaa
open Go.RowKit

set_option maxRecDepth 20000 in
set_option maxHeartbeats 2000000 in
theorem uri_walk (s : ByteArray) (keep : Bool) (w : World) :
    Calls Try.prog 6 #[.string s, .bool keep] w fun e w' => e = .returned (.bool true) ∧ Below w.heap.size w w' := by
  have B := Below.refl w.heap.size w
  by_cases hbig : 2000 < s.size
  · go_enter Try.func6, Try.ntmps6
    go_wp2_with (first
      | (go_at_call 9; refine (awake_any _).mono ?_; rintro e w1 ⟨rfl, bb⟩; replace B := B.trans (bb.mono B.size); clear bb))
    go_ret
    exact ⟨rfl, B⟩
  · have hs1 : s.size ≤ 300000 := by omega
    obtain ⟨m, hm⟩ : ∃ m : ByteArray, m.data.toList = encL keep s.data.toList := ⟨⟨(encL keep s.data.toList).toArray⟩, rfl⟩
    obtain ⟨z0, z2⟩ := enc_size hm
    have hz2 : m.size ≤ 300000 := by omega
    have He : Hid (m.data.toList = encL true m.data.toList) := by show m.data.toList = encL true m.data.toList; rw [hm, enc_again]
    have hu := enc_uri keep s.data.toList
    rw [← hm] at hu
    have Hu := hide hu
    have Hm := hide hm
    have T1 : Hid True := trivial
    clear hm hu
    go_enter Try.func6, Try.ntmps6
    go_wp2_with (first
      | (go_at_call 9; refine (awake_any _).mono ?_; rintro e w1 ⟨rfl, bb⟩; replace B := B.trans (bb.mono B.size); clear bb)
      | (go_at_call 18; have z := T1; refine (enc_is s keep m _ hs1 Hm.out).mono ?_; rintro e w1 ⟨rfl, bb⟩; replace B := B.trans (bb.mono B.size); clear bb z))
    go_loop [7] (fun i => ∃ k : Nat, k ≤ m.size ∧ i = .int .i64 k) (fun i => m.size - (intOf i).toNat)
    case atStart => exact ⟨0, Nat.zero_le _, rfl⟩
    case round =>
      obtain ⟨k, hk, rfl⟩ := hrel
      by_cases hlt : k < m.size
      · have hat := uri_at Hu.out k (by rw [← size_list]; exact hlt)
        have hb0 := UInt8.toNat_lt m[k]
        have hi0 : (0 : Int) ≤ m[k].toNat := by omega
        have hi1 : (m[k].toNat : Int) ≤ 255 := by omega
        have hat' : (unN (m[k].toNat : Int).toNat || (keep && reN (m[k].toNat : Int).toNat) || tripB (m.extract k m.size).data.toList) = true := by rw [Int.toNat_natCast, cut_list]; exact hat
        obtain ⟨un, hun⟩ : ∃ t, unN (m[k].toNat : Int).toNat = t := ⟨_, rfl⟩
        obtain ⟨re, hre⟩ : ∃ t, reN (m[k].toNat : Int).toNat = t := ⟨_, rfl⟩
        obtain ⟨tr, htr⟩ : ∃ t, tripB (m.extract k m.size).data.toList = t := ⟨_, rfl⟩
        rw [hun, hre, htr] at hat'
        have Hun := hide hun
        have Hre := hide hre
        have Htr := hide htr
        clear hat hun hre htr
        cases un <;> cases keep <;> cases re <;> cases tr <;> first | (exact absurd hat' (by decide)) | skip
        all_goals
          clear hat'
          go_wp2_with (first
            | (go_at_call 23; refine (runres_is _ _ _ hi0 hi1 Hun.out).mono ?_; rintro e w1 ⟨rfl, hw⟩; rw [hw]; clear hw)
            | (go_at_call 24; refine (rres_is _ _ _ hi0 hi1 Hre.out).mono ?_; rintro e w1 ⟨rfl, hw⟩; rw [hw]; clear hw)
            | (go_at_call 14; refine (trip_is' _ _ _ Htr.out).mono ?_; rintro e w1 ⟨rfl, hw⟩; rw [hw]; clear hw))
          go_round
          case rel => exact ⟨k + 1, by omega, by go_num⟩
          case measure => simp [intOf]; omega
      · clear T1
        go_wp2_with (first
          | (go_at_call 18; refine (enc_is m true m _ hz2 He.out).mono ?_; rintro e w1 ⟨rfl, bb⟩; replace B := B.trans (bb.mono B.size); clear bb))
        go_ret
        exact ⟨rfl, B⟩
end Go.Proofs.Ytmpengiohfjofaa
