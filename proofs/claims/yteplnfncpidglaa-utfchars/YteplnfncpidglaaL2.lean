/-
  THE WALK of UtfText, and the reference's Text.
-/
import Derived.Test.YteplnfncpidglaaW6
import Derived.Test.YteplnfncpidglaaL3
namespace Go.Proofs.Yteplnfncpidglaa
open Go.RowKit
open Go.Lib (encodeRune)

theorem string_add (l m : List UInt8) : (⟨l.toArray⟩ : ByteArray) ++ ⟨m.toArray⟩ = ⟨(l ++ m).toArray⟩ := by
  apply ByteArray.ext
  simp

set_option maxHeartbeats 1000000 in
theorem rtext_row (zs : List Int) (b off cap : Nat) (w : World) (hlen : zs.length ≤ 17592186044415) (hp : 0 < zs.length) (hc : ∀ k, k < zs.length → w.cell? ⟨b, off + k, none⟩ = some (.int .i64 (zs.getD k 0))) :
    Calls Try.prog 20 #[.slice (some ⟨b, off, none⟩) zs.length cap] w fun e w' => e = .returned (textR zs) ∧ Below w.heap.size w w' := by
  have hbw : b < w.heap.size := lt_of_cell (hc 0 hp)
  go_enter Try.func20, Try.ntmps20
  go_wp2
  go_loopw [4, 5] (fun t i wr => ∃ k : Nat, k ≤ zs.length ∧ i = .int .i64 k ∧ t = .string ⟨(textL (zs.take k)).toArray⟩ ∧ Below w.heap.size w wr ∧ allMay (zs.take k) = true) (fun _ i _ => zs.length - (intOf i).toNat)
  case atStart => exact ⟨0, Nat.zero_le _, rfl, rfl, Below.refl _ _, rfl⟩
  case round =>
    obtain ⟨k, hk, rfl, rfl, hB, hm⟩ := hrel
    by_cases hlt : k < zs.length
    · have hcx : wr.cell? ⟨b, off + k, none⟩ = some (.int .i64 (zs.getD k 0)) := (hB.cell (p := ⟨b, off + k, none⟩) hbw).trans (hc k hlt)
      generalize hcc : zs.getD k 0 = c at hcx
      have Hcc := hide hcc
      have Hc := hide hc
      clear hcc hc
      cases hmc : mayB c with
      | false =>
        have Hmc := hide hmc
        clear hmc
        go_wp2_with (go_at_call 22; refine (rmay_is _ _ false Hmc.out).mono ?_; rintro e w' ⟨rfl, hw⟩; rw [hw])
        go_ret2
        refine ⟨?_, hB⟩
        have ha : allMay zs = false := allMay_cut hlt (by rw [Hcc.out]; exact Hmc.out)
        simp [textR, ha]
      | true =>
        have Hmc := hide hmc
        clear hmc
        have hl4 := (textL_len (zs.take k)).2
        have hl5 : (zs.take k).length ≤ k := List.length_take_le _ _
        have hl6 := enc_len c
        go_wp2_with (first | (go_at_call 22; refine (rmay_is _ _ true Hmc.out).mono ?_; rintro e w' ⟨rfl, hw⟩; rw [hw]) | (go_at_call 30; refine (one_any _ _ Hmc.out).mono ?_; rintro e w1 ⟨rfl, b1⟩))
        go_roundw
        case rel =>
          refine ⟨k + 1, hlt, by go_num, ?_, hB.trans (b1.mono hB.size), ?_⟩
          · rw [take_snoc zs k hlt, Hcc.out, textL_append, textL_one, string_add]
          · rw [take_snoc zs k hlt, Hcc.out, allMay_append, hm, allMay_cons, Hmc.out]; rfl
        case measure => simp [intOf]; omega
    · go_wp2
      go_ret2
      have e1 : zs.take k = zs := List.take_of_length_le (by omega)
      rw [e1] at hm
      refine ⟨?_, hB⟩
      simp [textR, hm, e1]

set_option maxHeartbeats 400000 in
theorem rtext_none (ao : Option Addr) (cap : Nat) (w : World) :
    Calls Try.prog 20 #[.slice ao 0 cap] w fun e w' => e = .returned (textR []) ∧ Below w.heap.size w w' := by
  go_enter Try.func20, Try.ntmps20
  go_wp2
  refine wp_loop_rounds 1 ?_
  rw [rounds_succ]
  go_wp2
  go_ret2
  exact ⟨rfl, Below.refl _ _⟩

theorem rtext_any (zs : List Int) (v : Value) (w : World) (hlen : zs.length ≤ 17592186044415) (h : IntsAt w v zs) :
    Calls Try.prog 20 #[v] w fun e w' => e = .returned (textR zs) ∧ Below w.heap.size w w' := by
  rcases h with ⟨rfl, ao, cap, rfl⟩ | ⟨hp, b, off, cap, rfl, hc⟩
  · exact rtext_none ao cap w
  · exact rtext_row zs b off cap w hlen hp hc

/-- what both answer, taken apart -/
theorem textR_parts (zs : List Int) : ∃ (s : ByteArray) (b : Bool), textR zs = .tuple #[.string s, .bool b] := by
  unfold textR
  split
  · exact ⟨_, _, rfl⟩
  · exact ⟨_, _, rfl⟩

set_option maxHeartbeats 1000000 in
theorem text_walk (v0 : Value) (zs : List Int) (c : Int) (w : World) (hz : IntsAt w v0 zs) (hmax : zs.length ≤ maxLen) :
    Calls Try.prog 4 #[v0, .int .i64 c] w fun e w' => e = .returned (.bool true) ∧ Below w.heap.size w w' := by
  have b := Below.refl w.heap.size w
  obtain ⟨a, cap, rfl⟩ := slice_of hz
  unfold maxLen at hmax
  have Hz := hide hz
  clear hz
  by_cases h0 : 500 < zs.length
  · go_enter Try.func4, Try.ntmps4
    go_wp2_with (go_at_call 9; refine (awake_any _).mono ?_; rintro e w' ⟨rfl, bv⟩; replace b := b.trans (bv.mono b.size))
    go_ret
    exact ⟨rfl, b⟩
  · obtain ⟨s, q, hs⟩ := textR_parts zs
    have Hs := hide hs
    clear hs
    go_enter Try.func4, Try.ntmps4
    go_wp2_with (go_at_call 9; refine (awake_any _).mono ?_; rintro e w' ⟨rfl, bv⟩; replace b := b.trans (bv.mono b.size))
    refine (text_any zs _ _ (by omega) (Hz.out.later b)).mono ?_
    rintro e w2 ⟨he, b2⟩
    rw [Hs.out] at he
    subst he
    replace b := b.trans (b2.mono b.size)
    go_wp2_with fail
    refine (rtext_any zs _ _ (by omega) (Hz.out.later b)).mono ?_
    rintro e w3 ⟨he, b3⟩
    rw [Hs.out] at he
    subst he
    replace b := b.trans (b3.mono b.size)
    go_wp2_with (first | (go_at_call 21; refine (may_any _ _).mono ?_; rintro e w' ⟨rfl, hw⟩; rw [hw]) | (go_at_call 22; refine (rmay_any _ _).mono ?_; rintro e w' ⟨rfl, hw⟩; rw [hw]))
    go_ret
    exact ⟨rfl, b⟩
end Go.Proofs.Yteplnfncpidglaa
