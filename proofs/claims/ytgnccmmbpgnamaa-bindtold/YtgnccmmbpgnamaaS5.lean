/-
  WALKS: the reference's Split of what is no name, and Texts (layer 5); the law's own 'other'.
-/
import Derived.Test.YtgnccmmbpgnamaaS4
namespace Go.Proofs.Ytgnccmmbpgnamaa
open Go.RowKit

theorem list_snoc {ps : List (List UInt8)} {k : Nat} (h : k < ps.length) : ps.take (k + 1) = ps.take k ++ [ps.getD k []] := by
  rw [List.take_succ_eq_append_getElem h, List.getD_eq_getElem?_getD, List.getElem?_eq_getElem h]; rfl
theorem take_same {zs ys : List (List UInt8)} {k : Nat} (h1 : zs.length = ys.length) (hk : zs.take k = ys.take k) (hl : zs.length ≤ k) : zs = ys := by
  rw [List.take_of_length_le hl, List.take_of_length_le (by omega)] at hk
  exact hk
theorem arr_eq {x y : List UInt8} : ((⟨x.toArray⟩ : ByteArray).toList == (⟨y.toArray⟩ : ByteArray).toList) = decide (x = y) := by
  rw [Lib.toList_data, Lib.toList_data]
  show (x == y) = _
  rw [Bool.eq_iff_iff]; simp

set_option maxRecDepth 20000 in
set_option maxHeartbeats 1000000 in
theorem texts_row (zs ys : List (List UInt8)) (b off cap b' off' cap' : Nat) (w : World) (hl : zs.length = ys.length) (hmax : zs.length ≤ 1000000000000) (hp : 0 < zs.length)
    (hc : ∀ k, k < zs.length → w.cell? ⟨b, off + k, none⟩ = some (.string ⟨(zs.getD k []).toArray⟩)) (hd : ∀ k, k < zs.length → w.cell? ⟨b', off' + k, none⟩ = some (.string ⟨(ys.getD k []).toArray⟩)) :
    Calls Try.prog 14 #[.slice (some ⟨b, off, none⟩) zs.length cap, .slice (some ⟨b', off', none⟩) zs.length cap'] w fun e w' => e = .returned (.bool (decide (zs = ys))) ∧ Below w.heap.size w w' := by
  have Hl := hide hl
  clear hl
  go_enter Try.func14, Try.ntmps14
  go_wp2
  go_loopw [5] (fun i wr => ∃ (k q : Nat), k ≤ zs.length ∧ i = .int .i64 k ∧ wr = w.drewN q ∧ zs.take k = ys.take k) (fun i _ => zs.length - (intOf i).toNat)
  case atStart => exact ⟨0, 0, Nat.zero_le _, rfl, rfl, rfl⟩
  case round =>
    obtain ⟨k, q, hk, rfl, hw, ht⟩ := hrel
    subst hw
    have Ht := hide ht
    clear ht
    by_cases hlt : k < zs.length
    · have h1 := hc k hlt
      have h2 := hd k hlt
      obtain ⟨x, hx⟩ : ∃ x, zs.getD k [] = x := ⟨_, rfl⟩
      obtain ⟨y, hy⟩ : ∃ x, ys.getD k [] = x := ⟨_, rfl⟩
      rw [hx] at h1
      rw [hy] at h2
      have hxy := arr_eq (x := x) (y := y)
      generalize (⟨x.toArray⟩ : ByteArray) = X at *
      generalize (⟨y.toArray⟩ : ByteArray) = Y at *
      have Hx := hide hx
      have Hy := hide hy
      have Hc := hide hc
      have Hd := hide hd
      have Hxy := hide hxy
      clear hx hy hc hd hxy
      go_wp2
      go_quiet (fail)
      go_wp2
      · rename_i hh
        go_ret
        refine ⟨ret_bool ?_, below_drewN (below_drewN (Below.refl _ _) _) _⟩
        rw [Hxy.out] at hh
        have he : x ≠ y := by simpa using hh
        have : zs ≠ ys := by
          intro h
          apply he
          rw [← Hx.out, ← Hy.out, h]
        simp [this]
      · rename_i hh
        go_roundw
        case rel =>
          refine ⟨k + 1, _, hlt, by go_num, rfl, ?_⟩
          rw [Hxy.out] at hh
          have he : x = y := by simpa using hh
          rw [list_snoc hlt, list_snoc (ps := ys) (by have := Hl.out; omega), Ht.out, Hx.out, Hy.out, he]
        case measure => simp [intOf]; omega
    · go_wp2
      go_ret
      refine ⟨ret_bool ?_, below_drewN (Below.refl _ _) _⟩
      simp [take_same Hl.out Ht.out (by omega)]

set_option maxHeartbeats 400000 in
theorem texts_unlike (a a' : Option Addr) (n n' cap cap' : Nat) (w : World) (h : n ≠ n') :
    Calls Try.prog 14 #[.slice a n cap, .slice a' n' cap'] w fun e w' => e = .returned (.bool false) ∧ Below w.heap.size w w' := by
  have h' : ((n : Int) != (n' : Int)) = true := by simp; omega
  go_enter Try.func14, Try.ntmps14
  go_wp2
  go_ret
  exact ⟨rfl, Below.refl _ _⟩

set_option maxHeartbeats 400000 in
theorem texts_none (a a' : Option Addr) (cap cap' : Nat) (w : World) :
    Calls Try.prog 14 #[.slice a 0 cap, .slice a' 0 cap'] w fun e w' => e = .returned (.bool true) ∧ Below w.heap.size w w' := by
  go_enter Try.func14, Try.ntmps14
  go_wp2
  refine wp_loop_rounds 1 ?_
  rw [rounds_succ]
  go_wp2
  go_ret
  exact ⟨rfl, Below.refl _ _⟩

theorem texts_any (zs ys : List (List UInt8)) (u v : Value) (w : World) (hmax : zs.length ≤ 1000000000000) (h1 : StrsAt w u zs) (h2 : StrsAt w v ys) :
    Calls Try.prog 14 #[u, v] w fun e w' => e = .returned (.bool (decide (zs = ys))) ∧ Below w.heap.size w w' := by
  by_cases hl : zs.length = ys.length
  · rcases h1 with ⟨rfl, ao, cap, rfl⟩ | ⟨hp, b, off, cap, rfl, hc⟩
    · rcases h2 with ⟨rfl, ao', cap', rfl⟩ | ⟨hp', _⟩
      · have := texts_none ao ao' cap cap' w
        simpa using this
      · rw [List.length_nil] at hl; omega
    · rcases h2 with ⟨rfl, _⟩ | ⟨hp', b', off', cap', rfl, hd⟩
      · rw [List.length_nil] at hl; omega
      · rw [← hl]
        exact texts_row zs ys b off cap b' off' cap' w hl hmax hp hc (fun k hk => hd k (by omega))
  · have hne : zs ≠ ys := fun h => hl (by rw [h])
    have e1 : ∃ a cap, u = .slice a zs.length cap := by
      rcases h1 with ⟨rfl, ao, cap, rfl⟩ | ⟨hp, b, off, cap, rfl, hc⟩
      · exact ⟨_, _, rfl⟩
      · exact ⟨_, _, rfl⟩
    have e2 : ∃ a cap, v = .slice a ys.length cap := by
      rcases h2 with ⟨rfl, ao, cap, rfl⟩ | ⟨hp, b, off, cap, rfl, hc⟩
      · exact ⟨_, _, rfl⟩
      · exact ⟨_, _, rfl⟩
    obtain ⟨a, cap, rfl⟩ := e1
    obtain ⟨a', cap', rfl⟩ := e2
    have := texts_unlike a a' zs.length ys.length cap cap' w hl
    simpa [hne] using this

end Go.Proofs.Ytgnccmmbpgnamaa
