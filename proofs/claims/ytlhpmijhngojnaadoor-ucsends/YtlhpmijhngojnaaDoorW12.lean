/-
  WALKS: the program's May, Take and Fits, in the forms that the laws use: where the ranges lie in memory.
-/
import Derived.Test.YtlhpmijhngojnaaDoorC3
import Derived.Test.YtlhpmijhngojnaaDoorA2
namespace Go.Proofs.YtlhpmijhngojnaaDoor
open Go.RowKit
open Go.Lib (encodeRune)

theorem smay_is (lo hi : Int) (b : Bool) (w : World) (R : Ran w) (h : anyR lo hi = b) :
    Calls Tryd.prog 20 #[.agg #[.int .i64 lo, .int .i64 hi]] w fun e w' => e = .returned (.bool b) ∧ Below w.heap.size w w' := by
  subst h; exact smay_any lo hi w R
set_option maxHeartbeats 400000 in
theorem pmay_is (c : Int) (b : Bool) (w : World) (R : Ran w) (h : mayU c = b) : Calls Tryd.prog 12 #[.int .i64 c] w fun e w' => e = .returned (.bool b) ∧ Below w.heap.size w w' := by
  have H := hide ((any_may c).trans h)
  have R1 := hide R
  clear h R
  go_enter Tryd.func12, Tryd.ntmps12
  go_wp2_with (go_at_call 20; refine (smay_is _ _ b _ R1.out H.out).mono ?_; rintro e w1 ⟨rfl, bb⟩)
  go_ret
  exact ⟨rfl, bb⟩
theorem begun_is (s : ByteArray) (w : World) (h : 0 < s.size) (lo hi : Int) (hlo : lowN s.data.toList = lo) (hhi : highN s.data.toList = hi) :
    Calls Tryd.prog 21 #[.string s] w fun e w' => e = .returned (.agg #[.int .i64 lo, .int .i64 hi]) ∧ Below w.heap.size w w' := by
  subst hlo hhi; exact begun_any s w h
set_option maxHeartbeats 400000 in
theorem pfits_is (s : ByteArray) (b : Bool) (w : World) (R : Ran w) (h : fitB s.data.toList = b) :
    Calls Tryd.prog 14 #[.string s] w fun e w' => e = .returned (.bool b) ∧ Below w.heap.size w w' := by
  have R1 := hide R
  clear R
  by_cases hz : 0 < s.size
  · have hne := eq_some s hz
    have hn : s.data.toList ≠ [] := by
      rw [list_one s hz]; simp
    obtain ⟨lo, hlo⟩ : ∃ z, lowN s.data.toList = z := ⟨_, rfl⟩
    obtain ⟨hi, hhi⟩ : ∃ z, highN s.data.toList = z := ⟨_, rfl⟩
    have hs := any_fit s.data.toList hn
    rw [hlo, hhi, h] at hs
    have Hs := hide hs
    have Hlo := hide hlo
    have Hhi := hide hhi
    clear hs hlo hhi h hn
    go_enter Tryd.func14, Tryd.ntmps14
    go_wp2_with (first
      | (go_at_call 21; refine (begun_is _ _ hz lo hi Hlo.out Hhi.out).mono ?_; rintro e w1 ⟨rfl, bb⟩)
      | (go_at_call 20; refine (smay_is _ _ b _ (R1.out.next bb) Hs.out).mono ?_; rintro e w2 ⟨rfl, bb2⟩))
    go_ret
    exact ⟨rfl, bb.trans (bb2.mono bb.size)⟩
  · have hne := eq_none s hz
    rw [fit_empty s hz] at h
    subst h
    go_enter Tryd.func14, Tryd.ntmps14
    go_wp2
    go_ret
    exact ⟨rfl, Below.refl _ _⟩

/-! ### Take -/
theorem take_nil {l : List UInt8} (h : chars l = []) : takeC l = 0 ∧ takeN l = 0 ∧ prefL l 1 = [] := by
  obtain ⟨t, e, _, ht, _⟩ := chars_split l
  rw [h] at e
  have e : l = t := by simpa [textL] using e
  rw [← e] at ht
  have hf : firstN l = 0 := by unfold firstN; rw [if_pos ht]
  unfold takeC takeN
  rw [hf, if_pos (.inl rfl), if_pos (.inl rfl)]
  refine ⟨rfl, rfl, ?_⟩
  unfold prefL
  rw [h]; rfl
theorem take_cons {l : List UInt8} {c : Int} {r : List Int} (h : chars l = c :: r) : mayB c = true ∧ firstC l = c ∧ firstN l = (encodeRune c).length ∧ prefL l 1 = encodeRune c := by
  obtain ⟨t, e, hm, ht, _⟩ := chars_split l
  rw [h] at e hm
  rw [allMay_cons, Bool.and_eq_true] at hm
  have hb := hm.1
  have e2 : l = encodeRune c ++ (textL r ++ t) := by rw [e]; simp [textL]
  have hd := dec_enc c hb (textL r ++ t)
  have hg := not_bad_enc c hb (textL r ++ t)
  have hne : encodeRune c ++ (textL r ++ t) ≠ [] := by simp [enc_ne c]
  have h0 := (mayB_iff c).1 hb
  refine ⟨hb, ?_, ?_, ?_⟩
  · rw [e2]; unfold firstC; rw [if_neg (by simp [hne, hg]), hd]; simp; omega
  · rw [e2]; unfold firstN; rw [if_neg (by simp [hne, hg]), hd]
  · unfold prefL; rw [h]; simp [textL]

theorem prefix_is (s f : ByteArray) (w : World) (hs : s.size ≤ 281474976710656) (h : f = ⟨(prefL s.data.toList 1).toArray⟩) :
    Calls Tryd.prog 17 #[.string s, .int .i64 1] w fun e w' => e = .returned (.string f) ∧ Below w.heap.size w w' := by
  subst h; exact prefix_any s 1 w hs
theorem chars_none (f : ByteArray) (w : World) (hf : f.data.toList = []) :
    Calls Tryd.prog 18 #[.string f] w fun e w' => ∃ a cap, e = .returned (.tuple #[.slice a 0 cap, .bool true]) ∧ Below w.heap.size w w' := by
  have hz : f.size = 0 := by have : f.data.toList.length = f.size := by simp
                             rw [hf] at this; simpa using this.symm
  have ha : allMay [] = true := rfl
  have hc := chars_text [] ha
  refine (chars_yes f w (by omega) (by rw [hf]; decide)).mono ?_
  rintro e w' ⟨v, rfl, ho, b⟩
  rw [hf, show chars ([] : List UInt8) = [] from hc.1] at ho
  rcases ho.2 with ⟨rfl, _⟩ | ⟨g, cap, cur, rfl, _⟩
  · exact ⟨_, _, rfl, b⟩
  · exact ⟨_, _, rfl, b⟩
theorem chars_one (f : ByteArray) (c : Int) (w : World) (hb : mayB c = true) (hf : f.data.toList = encodeRune c) :
    Calls Tryd.prog 18 #[.string f] w fun e w' => ∃ g cap, e = .returned (.tuple #[.slice (some ⟨g, 0, none⟩) 1 cap, .bool true]) ∧ w'.cell? ⟨g, 0, none⟩ = some (.int .i64 c) ∧ w.heap.size ≤ g ∧ Below w.heap.size w w' := by
  have hz : f.size = (encodeRune c).length := by have : f.data.toList.length = f.size := by simp
                                                 rw [hf] at this; exact this.symm
  have hl := (enc_len c).2
  have ha : allMay [c] = true := by rw [allMay_cons, hb]; rfl
  have hc := chars_text [c] ha
  rw [textL_one] at hc
  refine (chars_yes f w (by omega) (by rw [hf]; unfold validB; rw [hc.2]; simp)).mono ?_
  rintro e w' ⟨v, rfl, ho, b⟩
  rw [hf, hc.1] at ho
  rcases ho.2 with ⟨_, hn⟩ | ⟨g, cap, cur, rfl, hg, _⟩
  · simp at hn
  · have := ho.cellAt 0 (by simp)
    exact ⟨g, cap, rfl, by simpa using this, hg, b⟩

set_option maxRecDepth 20000 in
set_option maxHeartbeats 1000000 in
theorem ptake_is (s : ByteArray) (c n : Int) (w : World) (R : Ran w) (hs : s.size ≤ 100000) (hc : takeC s.data.toList = c) (hn : (takeN s.data.toList : Int) = n) :
    Calls Tryd.prog 10 #[.string s] w fun e w' => e = .returned (.tuple #[.int .i64 c, .int .i64 n]) ∧ Below w.heap.size w w' := by
  have R1 := hide R
  have hs2 : s.size ≤ 281474976710656 := by omega
  clear R
  obtain ⟨f, hf⟩ : ∃ f : ByteArray, f = ⟨(prefL s.data.toList 1).toArray⟩ := ⟨_, rfl⟩
  have hfl : f.data.toList = prefL s.data.toList 1 := by rw [hf]
  have Hf := hide hf
  clear hf
  cases hl : chars s.data.toList with
  | nil =>
    obtain ⟨t1, t2, t3⟩ := take_nil hl
    rw [t1] at hc
    rw [t2] at hn
    rw [t3] at hfl
    have hn : (0 : Int) = n := hn
    subst hc hn
    have Hfl := hide hfl
    clear hfl hl t1 t2 t3
    go_enter Tryd.func10, Tryd.ntmps10
    go_wp2_with (first
      | (go_at_call 17; refine (prefix_is _ f _ hs2 Hf.out).mono ?_; rintro e w1 ⟨rfl, bb⟩)
      | (go_at_call 18; refine (chars_none _ _ Hfl.out).mono ?_; rintro e w2 ⟨a, cap, rfl, bb2⟩))
    go_ret2
    exact ⟨rfl, bb.trans (bb2.mono bb.size)⟩
  | cons d r =>
    obtain ⟨t0, t1, t2, t3⟩ := take_cons hl
    rw [t3] at hfl
    have hlen := enc_len d
    have hz : f.size = (encodeRune d).length := by have : f.data.toList.length = f.size := by simp
                                                   rw [hfl] at this; exact this.symm
    have ec : takeC s.data.toList = if mayU d = false then 0 else d := by
      unfold takeC; rw [t1, t2]
      by_cases h : mayU d = false
      · rw [if_pos (.inr h), if_pos h]
      · rw [if_neg h, if_neg]
        intro hh
        rcases hh with hh | hh
        · omega
        · exact h hh
    have en : takeN s.data.toList = if mayU d = false then 0 else f.size := by
      unfold takeN; rw [t1, t2, hz]
      by_cases h : mayU d = false
      · rw [if_pos (.inr h), if_pos h]
      · rw [if_neg h, if_neg]
        intro hh
        rcases hh with hh | hh
        · omega
        · exact h hh
    rw [ec] at hc
    rw [en] at hn
    cases hm : mayU d with
    | false =>
      rw [hm, if_pos rfl] at hc hn
      have hn : (0 : Int) = n := hn
      subst hc hn
      have Hm := hide hm
      have Hfl := hide hfl
      clear hfl hl t1 t2 t3 hm ec en hz hlen
      go_enter Tryd.func10, Tryd.ntmps10
      go_wp2_with (first
        | (go_at_call 17; refine (prefix_is _ f _ hs2 Hf.out).mono ?_; rintro e w1 ⟨rfl, bb⟩)
        | (go_at_call 18; refine (chars_one _ d _ t0 Hfl.out).mono ?_; rintro e w2 ⟨g, cap, rfl, hcell, hg, bb2⟩; replace bb := bb.trans (bb2.mono bb.size); clear bb2)
        | (go_at_call 12; refine (pmay_is d false _ (R1.out.next bb) Hm.out).mono ?_; rintro e w3 ⟨rfl, bb3⟩; replace bb := bb.trans (bb3.mono bb.size)))
      go_ret2
      exact ⟨rfl, bb⟩
    | true =>
      rw [hm, if_neg (by decide)] at hc hn
      subst hc hn
      have Hm := hide hm
      have Hfl := hide hfl
      clear hfl hl t1 t2 t3 hm ec en hz hlen
      go_enter Tryd.func10, Tryd.ntmps10
      go_wp2_with (first
        | (go_at_call 17; refine (prefix_is _ f _ hs2 Hf.out).mono ?_; rintro e w1 ⟨rfl, bb⟩)
        | (go_at_call 18; refine (chars_one _ _ _ t0 Hfl.out).mono ?_; rintro e w2 ⟨g, cap, rfl, hcell, hg, bb2⟩; have hgl := World.block_lt_of_cell? _ _ hcell; replace bb := bb.trans (bb2.mono bb.size); clear bb2)
        | (go_at_call 12; refine (pmay_is _ true _ (R1.out.next bb) Hm.out).mono ?_; rintro e w3 ⟨rfl, bb3⟩; have hcell3 := (bb3.cell (p := ⟨g, 0, none⟩) hgl).trans hcell; replace bb := bb.trans (bb3.mono bb.size); clear bb3))
      go_ret2
      exact ⟨rfl, bb⟩
end Go.Proofs.YtlhpmijhngojnaaDoor
