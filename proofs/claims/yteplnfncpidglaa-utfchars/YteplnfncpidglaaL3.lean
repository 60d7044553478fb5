/-
  THE WALK of UtfBack.
-/
import Derived.Test.YteplnfncpidglaaL4
import Derived.Test.YteplnfncpidglaaW5
import Derived.OpenShut
namespace Go.Proofs.Yteplnfncpidglaa
open Go.RowKit

theorem text_yes (zs : List Int) (v : Value) (w : World) (hlen : zs.length ≤ 17592186044415) (h : IntsAt w v zs) (hm : allMay zs = true) :
    Calls Try.prog 19 #[v] w fun e w' => e = .returned (.tuple #[.string ⟨(textL zs).toArray⟩, .bool true]) ∧ Below w.heap.size w w' := by
  have := text_any zs v w hlen h
  simpa [textR, hm] using this
theorem text_no (zs : List Int) (v : Value) (w : World) (hlen : zs.length ≤ 17592186044415) (h : IntsAt w v zs) (hm : allMay zs = false) :
    Calls Try.prog 19 #[v] w fun e w' => e = .returned (.tuple #[.string ⟨#[]⟩, .bool false]) ∧ Below w.heap.size w w' := by
  have := text_any zs v w hlen h
  simpa [textR, hm] using this
theorem ofList (l : List UInt8) : (⟨l.toArray⟩ : ByteArray).data.toList = l := by simp
theorem ofBytes (s : ByteArray) : (⟨s.data.toList.toArray⟩ : ByteArray) = s := by cases s; simp

/-- the value's own shape, for the walk -/
theorem slice_of {w : World} {v : Value} {zs : List Int} (h : IntsAt w v zs) : ∃ a cap, v = .slice a zs.length cap := by
  rcases h with ⟨rfl, ao, cap, rfl⟩ | ⟨hp, b, off, cap, rfl, hc⟩
  · exact ⟨_, _, rfl⟩
  · exact ⟨_, _, rfl⟩

theorem chars_row (s : ByteArray) (w : World) (hs : s.size ≤ 17592186044415) (hv : validB s.data.toList = true) :
    Calls Try.prog 10 #[.string s] w fun e w' => ∃ a cap, e = .returned (.tuple #[.slice a (chars s.data.toList).length cap, .bool true]) ∧ IntsAt w' (.slice a (chars s.data.toList).length cap) (chars s.data.toList) ∧ Below w.heap.size w w' := by
  refine (chars_yes s w hs hv).mono ?_
  rintro e w' ⟨v, rfl, hown, hb⟩
  have hi := IntsAt.of_owns hown
  obtain ⟨a, cap, rfl⟩ := slice_of hi
  exact ⟨a, cap, rfl, hi, hb⟩

/-- there and back, for a list of characters -/
theorem chars_back (zs : List Int) (w : World) (hs : zs.length ≤ 500) (hm : allMay zs = true) :
    Calls Try.prog 10 #[.string ⟨(textL zs).toArray⟩] w fun e w' => ∃ a cap, e = .returned (.tuple #[.slice a zs.length cap, .bool true]) ∧ IntsAt w' (.slice a zs.length cap) zs ∧ Below w.heap.size w w' := by
  have hc := chars_text zs hm
  have hl := textL_len zs
  have hv : validB (textL zs) = true := by simp [validB, hc.2]
  have := chars_row ⟨(textL zs).toArray⟩ w (by show (textL zs).toArray.size ≤ _; rw [List.size_toArray]; omega) (by rw [ofList]; exact hv)
  rw [ofList, hc.1] at this
  exact this
theorem same_yes (zs : List Int) (u v : Value) (w : World) (hmax : zs.length ≤ 1000000000000) (h1 : IntsAt w u zs) (h2 : IntsAt w v zs) :
    Calls Try.prog 13 #[u, v] w fun e w' => e = .returned (.bool true) ∧ Below w.heap.size w w' := by
  have := same_any zs zs u v w hmax h1 h2
  simpa using this
/-- back and there, for a valid text -/
theorem text_back (s : ByteArray) (v : Value) (w : World) (hs : s.size ≤ 2000) (hv : validB s.data.toList = true) (h : IntsAt w v (chars s.data.toList)) :
    Calls Try.prog 19 #[v] w fun e w' => e = .returned (.tuple #[.string s, .bool true]) ∧ Below w.heap.size w w' := by
  have hl := chars_len s.data.toList
  simp only [Array.length_toList, ByteArray.size_data] at hl
  have := text_yes _ v w (by omega) h (chars_may _)
  rw [valid_text s.data.toList (by simpa [validB] using hv), ofBytes] at this
  exact this

set_option maxHeartbeats 1000000 in
theorem back_nn (a : Option Addr) (cap : Nat) (zs : List Int) (s : ByteArray) (w : World) (hz : IntsAt w (.slice a zs.length cap) zs) (h0 : ¬ 500 < zs.length) (h1 : ¬ 2000 < s.size) (hm : allMay zs = false) (hv : validB s.data.toList = false) :
    Calls Try.prog 5 #[.slice a zs.length cap, .string s] w fun e w' => e = .returned (.bool true) ∧ Below w.heap.size w w' := by
  have b := Below.refl w.heap.size w
  have hbl := blen_le s.data.toList
  simp only [Array.length_toList, ByteArray.size_data] at hbl
  have hb : blen s.data.toList < s.size := by
    have : blen s.data.toList ≠ s.size := by simpa [validB] using hv
    omega
  have Hz := hide hz
  have Hm := hide hm
  have Hv := hide hv
  clear hz hm hv
  go_enter Try.func5, Try.ntmps5
  go_wp2_with (go_at_call 9; refine (awake_any _).mono ?_; rintro e w' ⟨rfl, bv⟩; replace b := b.trans (bv.mono b.size))
  refine (text_no zs _ _ (by omega) (Hz.out.later b) Hm.out).mono ?_
  rintro e w2 ⟨rfl, bv⟩
  replace b := b.trans (bv.mono b.size)
  go_wp2_with fail
  refine (chars_no s _ (by omega) Hv.out).mono ?_
  rintro e w5 ⟨rfl, bv5⟩
  replace b := b.trans (bv5.mono b.size)
  go_wp2_with (go_at_call 15; refine (bad_any _ _).mono ?_; rintro e w' ⟨rfl, bv⟩; replace b := b.trans (bv.mono b.size))
  go_ret
  exact ⟨rfl, b⟩

set_option maxHeartbeats 1000000 in
theorem back_ny (a : Option Addr) (cap : Nat) (zs : List Int) (s : ByteArray) (w : World) (hz : IntsAt w (.slice a zs.length cap) zs) (h0 : ¬ 500 < zs.length) (h1 : ¬ 2000 < s.size) (hm : allMay zs = false) (hv : validB s.data.toList = true) :
    Calls Try.prog 5 #[.slice a zs.length cap, .string s] w fun e w' => e = .returned (.bool true) ∧ Below w.heap.size w w' := by
  have b := Below.refl w.heap.size w
  have hbl := blen_le s.data.toList
  simp only [Array.length_toList, ByteArray.size_data] at hbl
  have hb : blen s.data.toList = s.size := by simpa [validB] using hv
  have Hz := hide hz
  have Hm := hide hm
  have Hv := hide hv
  clear hz hm hv
  go_enter Try.func5, Try.ntmps5
  go_wp2_with (go_at_call 9; refine (awake_any _).mono ?_; rintro e w' ⟨rfl, bv⟩; replace b := b.trans (bv.mono b.size))
  refine (text_no zs _ _ (by omega) (Hz.out.later b) Hm.out).mono ?_
  rintro e w2 ⟨rfl, bv⟩
  replace b := b.trans (bv.mono b.size)
  go_wp2_with fail
  refine (chars_row s _ (by omega) Hv.out).mono ?_
  rintro e w5 ⟨ca, ccap, rfl, hc, bv5⟩
  replace b := b.trans (bv5.mono b.size)
  have Hc := hide hc
  clear hc
  go_wp2_with fail
  refine (text_back s _ _ (by omega) Hv.out Hc.out).mono ?_
  rintro e w6 ⟨rfl, bv6⟩
  replace b := b.trans (bv6.mono b.size)
  go_wp2_with (go_at_call 15; refine (bad_any _ _).mono ?_; rintro e w' ⟨rfl, bv⟩; replace b := b.trans (bv.mono b.size))
  go_ret
  exact ⟨rfl, b⟩

set_option maxHeartbeats 1000000 in
theorem back_yn (a : Option Addr) (cap : Nat) (zs : List Int) (s : ByteArray) (w : World) (hz : IntsAt w (.slice a zs.length cap) zs) (h0 : ¬ 500 < zs.length) (h1 : ¬ 2000 < s.size) (hm : allMay zs = true) (hv : validB s.data.toList = false) :
    Calls Try.prog 5 #[.slice a zs.length cap, .string s] w fun e w' => e = .returned (.bool true) ∧ Below w.heap.size w w' := by
  have b := Below.refl w.heap.size w
  have hbl := blen_le s.data.toList
  simp only [Array.length_toList, ByteArray.size_data] at hbl
  have hb : blen s.data.toList < s.size := by
    have : blen s.data.toList ≠ s.size := by simpa [validB] using hv
    omega
  have Hz := hide hz
  have Hm := hide hm
  have Hv := hide hv
  clear hz hm hv
  go_enter Try.func5, Try.ntmps5
  go_wp2_with (go_at_call 9; refine (awake_any _).mono ?_; rintro e w' ⟨rfl, bv⟩; replace b := b.trans (bv.mono b.size))
  refine (text_yes zs _ _ (by omega) (Hz.out.later b) Hm.out).mono ?_
  rintro e w2 ⟨rfl, bv⟩
  replace b := b.trans (bv.mono b.size)
  go_wp2_with fail
  refine (chars_back zs _ (by omega) Hm.out).mono ?_
  rintro e w3 ⟨ka, kcap, rfl, hk, bv3⟩
  replace b := b.trans (bv3.mono b.size)
  have Hk := hide hk
  clear hk
  go_wp2_with fail
  refine (same_yes zs _ _ _ (by omega) Hk.out (Hz.out.later b)).mono ?_
  rintro e w4 ⟨rfl, bv4⟩
  replace b := b.trans (bv4.mono b.size)
  go_wp2_with fail
  refine (chars_no s _ (by omega) Hv.out).mono ?_
  rintro e w5 ⟨rfl, bv5⟩
  replace b := b.trans (bv5.mono b.size)
  go_wp2_with (go_at_call 15; refine (bad_any _ _).mono ?_; rintro e w' ⟨rfl, bv⟩; replace b := b.trans (bv.mono b.size))
  go_ret
  exact ⟨rfl, b⟩

set_option maxHeartbeats 1000000 in
theorem back_yy (a : Option Addr) (cap : Nat) (zs : List Int) (s : ByteArray) (w : World) (hz : IntsAt w (.slice a zs.length cap) zs) (h0 : ¬ 500 < zs.length) (h1 : ¬ 2000 < s.size) (hm : allMay zs = true) (hv : validB s.data.toList = true) :
    Calls Try.prog 5 #[.slice a zs.length cap, .string s] w fun e w' => e = .returned (.bool true) ∧ Below w.heap.size w w' := by
  have b := Below.refl w.heap.size w
  have hbl := blen_le s.data.toList
  simp only [Array.length_toList, ByteArray.size_data] at hbl
  have hb : blen s.data.toList = s.size := by simpa [validB] using hv
  have Hz := hide hz
  have Hm := hide hm
  have Hv := hide hv
  clear hz hm hv
  go_enter Try.func5, Try.ntmps5
  go_wp2_with (go_at_call 9; refine (awake_any _).mono ?_; rintro e w' ⟨rfl, bv⟩; replace b := b.trans (bv.mono b.size))
  refine (text_yes zs _ _ (by omega) (Hz.out.later b) Hm.out).mono ?_
  rintro e w2 ⟨rfl, bv⟩
  replace b := b.trans (bv.mono b.size)
  go_wp2_with fail
  refine (chars_back zs _ (by omega) Hm.out).mono ?_
  rintro e w3 ⟨ka, kcap, rfl, hk, bv3⟩
  replace b := b.trans (bv3.mono b.size)
  have Hk := hide hk
  clear hk
  go_wp2_with fail
  refine (same_yes zs _ _ _ (by omega) Hk.out (Hz.out.later b)).mono ?_
  rintro e w4 ⟨rfl, bv4⟩
  replace b := b.trans (bv4.mono b.size)
  go_wp2_with fail
  refine (chars_row s _ (by omega) Hv.out).mono ?_
  rintro e w5 ⟨ca, ccap, rfl, hc, bv5⟩
  replace b := b.trans (bv5.mono b.size)
  have Hc := hide hc
  clear hc
  go_wp2_with fail
  refine (text_back s _ _ (by omega) Hv.out Hc.out).mono ?_
  rintro e w6 ⟨rfl, bv6⟩
  replace b := b.trans (bv6.mono b.size)
  go_wp2_with (go_at_call 15; refine (bad_any _ _).mono ?_; rintro e w' ⟨rfl, bv⟩; replace b := b.trans (bv.mono b.size))
  go_ret
  exact ⟨rfl, b⟩

set_option maxHeartbeats 1000000 in
theorem back_walk (v0 : Value) (zs : List Int) (s : ByteArray) (w : World) (hz : IntsAt w v0 zs) (hmax : zs.length ≤ maxLen) :
    Calls Try.prog 5 #[v0, .string s] w fun e w' => e = .returned (.bool true) ∧ Below w.heap.size w w' := by
  have b := Below.refl w.heap.size w
  obtain ⟨a, cap, rfl⟩ := slice_of hz
  unfold maxLen at hmax
  by_cases h0 : 500 < zs.length
  · clear hz
    go_enter Try.func5, Try.ntmps5
    go_wp2_with (go_at_call 9; refine (awake_any _).mono ?_; rintro e w' ⟨rfl, bv⟩; replace b := b.trans (bv.mono b.size))
    go_ret
    exact ⟨rfl, b⟩
  by_cases h1 : 2000 < s.size
  · clear hz
    go_enter Try.func5, Try.ntmps5
    go_wp2_with (go_at_call 9; refine (awake_any _).mono ?_; rintro e w' ⟨rfl, bv⟩; replace b := b.trans (bv.mono b.size))
    go_ret
    exact ⟨rfl, b⟩
  cases hm : allMay zs with
  | false =>
    cases hv : validB s.data.toList with
    | false => exact back_nn a cap zs s w hz h0 h1 hm hv
    | true => exact back_ny a cap zs s w hz h0 h1 hm hv
  | true =>
    cases hv : validB s.data.toList with
    | false => exact back_yn a cap zs s w hz h0 h1 hm hv
    | true => exact back_yy a cap zs s w hz h0 h1 hm hv

/-- what the frame tells of a slice that came in -/
theorem ints_of_row {w : World} {a : Option Addr} {len cap : Nat} {zs : List Int}
    (h : (a = none ∧ len = 0 ∧ cap = 0 ∧ zs = []) ∨ ∃ x, a = some x ∧ len ≤ cap ∧ cap ≤ maxLen ∧ zs.length = cap ∧ (∀ i, i < zs.length → w.cell? (x.add i) = some (.int .i64 (zs.getD i 0))) ∧ ∀ n ∈ zs, (Lit.int .i64 n).wf = true) :
    IntsAt w (.slice a len cap) (zs.take len) ∧ (zs.take len).length ≤ maxLen := by
  rcases h with ⟨rfl, rfl, rfl, rfl⟩ | ⟨x, rfl, hl, hm, hz, hc, _⟩
  · exact ⟨.inl ⟨rfl, _, _, rfl⟩, by simp [maxLen]⟩
  · have hlen : (zs.take len).length = len := by rw [List.length_take]; omega
    refine ⟨?_, by rw [hlen]; omega⟩
    by_cases hp : 0 < len
    · obtain ⟨b, off, rfl, hcc⟩ := ints_at hc (by omega)
      refine .inr ⟨by rw [hlen]; exact hp, b, off, cap, by rw [hlen], fun k hk => ?_⟩
      rw [hlen] at hk
      rw [hcc k (by omega)]
      congr 2
      rw [List.getD_eq_getElem?_getD, List.getD_eq_getElem?_getD, List.getElem?_take_of_lt hk]
    · have : len = 0 := by omega
      subst this
      exact .inl ⟨rfl, _, _, rfl⟩
end Go.Proofs.Yteplnfncpidglaa
