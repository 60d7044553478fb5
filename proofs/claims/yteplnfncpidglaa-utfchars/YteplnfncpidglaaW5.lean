/-
  WALKS: the reference's Same.
-/
import Derived.Test.YteplnfncpidglaaW3
import Derived.Deep.QuietTactic
import Derived.BigQuiet
namespace Go.Proofs.Yteplnfncpidglaa
open Go.RowKit

theorem getD_of {zs : List Int} {k : Nat} (h : k < zs.length) : zs.getD k 0 = zs[k] := by
  rw [List.getD_eq_getElem?_getD, List.getElem?_eq_getElem h]; rfl
theorem take_same {zs ys : List Int} {k : Nat} (h1 : zs.length = ys.length) (hk : zs.take k = ys.take k) (hl : zs.length ≤ k) : zs = ys := by
  rw [List.take_of_length_le hl, List.take_of_length_le (by omega)] at hk
  exact hk

set_option maxHeartbeats 1000000 in
theorem same_row (zs ys : List Int) (b off cap b' off' cap' : Nat) (w : World) (hl : zs.length = ys.length) (hmax : zs.length ≤ 1000000000000) (hp : 0 < zs.length)
    (hc : ∀ k, k < zs.length → w.cell? ⟨b, off + k, none⟩ = some (.int .i64 (zs.getD k 0))) (hd : ∀ k, k < zs.length → w.cell? ⟨b', off' + k, none⟩ = some (.int .i64 (ys.getD k 0))) :
    Calls Try.prog 13 #[.slice (some ⟨b, off, none⟩) zs.length cap, .slice (some ⟨b', off', none⟩) zs.length cap'] w fun e w' => e = .returned (.bool (decide (zs = ys))) ∧ Below w.heap.size w w' := by
  have Hl := hide hl
  clear hl
  go_enter Try.func13, Try.ntmps13
  go_wp2
  go_loopw [5] (fun i wr => ∃ (k q : Nat), k ≤ zs.length ∧ i = .int .i64 k ∧ wr = w.drewN q ∧ zs.take k = ys.take k) (fun i _ => zs.length - (intOf i).toNat)
  case atStart => exact ⟨0, 0, Nat.zero_le _, rfl, rfl, rfl⟩
  case round =>
    obtain ⟨k, q, hk, rfl, hw, ht⟩ := hrel
    subst hw
    have Ht := hide ht
    clear ht
    by_cases hlt : k < zs.length
    · have h1 := hc k hlt
      have h2 := hd k hlt
      generalize hx : zs.getD k 0 = x at h1
      generalize hy : ys.getD k 0 = y at h2
      have Hx := hide hx
      have Hy := hide hy
      have Hc := hide hc
      have Hd := hide hd
      clear hx hy hc hd
      go_wp2
      go_quiet (fail)
      by_cases hxy : x = y
      · have hxy' : (x != y) = false := by simp [hxy]
        have Hxy := hide hxy
        clear hxy
        go_wp2
        go_roundw
        case rel =>
          refine ⟨k + 1, _, hlt, by go_num, rfl, ?_⟩
          rw [take_snoc zs k hlt, take_snoc ys k (by have := Hl.out; omega), Ht.out, Hx.out, Hy.out, Hxy.out]
        case measure => simp [intOf]; omega
      · have hxy' : (x != y) = true := by simp [hxy]
        have Hxy := hide hxy
        clear hxy
        go_wp2
        go_ret
        refine ⟨ret_bool ?_, below_drewN (below_drewN (Below.refl _ _) _) _⟩
        have : zs ≠ ys := by
          intro h
          apply Hxy.out
          rw [← Hx.out, ← Hy.out, h]
        simp [this]
    · go_wp2
      go_ret
      refine ⟨ret_bool ?_, below_drewN (Below.refl _ _) _⟩
      simp [take_same Hl.out Ht.out (by omega)]

set_option maxHeartbeats 400000 in
theorem same_unlike (a a' : Option Addr) (n n' cap cap' : Nat) (w : World) (h : n ≠ n') :
    Calls Try.prog 13 #[.slice a n cap, .slice a' n' cap'] w fun e w' => e = .returned (.bool false) ∧ Below w.heap.size w w' := by
  have h' : ((n : Int) != (n' : Int)) = true := by simp; omega
  go_enter Try.func13, Try.ntmps13
  go_wp2
  go_ret
  exact ⟨rfl, Below.refl _ _⟩

set_option maxHeartbeats 400000 in
theorem same_none (a a' : Option Addr) (cap cap' : Nat) (w : World) :
    Calls Try.prog 13 #[.slice a 0 cap, .slice a' 0 cap'] w fun e w' => e = .returned (.bool true) ∧ Below w.heap.size w w' := by
  go_enter Try.func13, Try.ntmps13
  go_wp2
  refine wp_loop_rounds 1 ?_
  rw [rounds_succ]
  go_wp2
  go_ret
  exact ⟨rfl, Below.refl _ _⟩

theorem same_any (zs ys : List Int) (u v : Value) (w : World) (hmax : zs.length ≤ 1000000000000) (h1 : IntsAt w u zs) (h2 : IntsAt w v ys) :
    Calls Try.prog 13 #[u, v] w fun e w' => e = .returned (.bool (decide (zs = ys))) ∧ Below w.heap.size w w' := by
  by_cases hl : zs.length = ys.length
  · rcases h1 with ⟨rfl, ao, cap, rfl⟩ | ⟨hp, b, off, cap, rfl, hc⟩
    · rcases h2 with ⟨rfl, ao', cap', rfl⟩ | ⟨hp', _⟩
      · have := same_none ao ao' cap cap' w
        simpa using this
      · rw [List.length_nil] at hl; omega
    · rcases h2 with ⟨rfl, _⟩ | ⟨hp', b', off', cap', rfl, hd⟩
      · rw [List.length_nil] at hl; omega
      · rw [← hl]
        exact same_row zs ys b off cap b' off' cap' w hl hmax hp hc (fun k hk => hd k (by omega))
  · have hne : zs ≠ ys := fun h => hl (by rw [h])
    have e1 : ∃ a cap, u = .slice a zs.length cap := by
      rcases h1 with ⟨rfl, ao, cap, rfl⟩ | ⟨hp, b, off, cap, rfl, hc⟩
      · exact ⟨_, _, rfl⟩
      · exact ⟨_, _, rfl⟩
    have e2 : ∃ a cap, v = .slice a ys.length cap := by
      rcases h2 with ⟨rfl, ao, cap, rfl⟩ | ⟨hp, b, off, cap, rfl, hc⟩
      · exact ⟨_, _, rfl⟩
      · exact ⟨_, _, rfl⟩
    obtain ⟨a, cap, rfl⟩ := e1
    obtain ⟨a', cap', rfl⟩ := e2
    have := same_unlike a a' zs.length ys.length cap cap' w hl
    simpa [hne] using this
end Go.Proofs.Yteplnfncpidglaa
