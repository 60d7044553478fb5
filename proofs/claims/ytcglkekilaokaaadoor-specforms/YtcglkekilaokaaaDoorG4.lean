/-
  WALKS: the program's begin (layer 6).
-/
import Derived.Test.YtcglkekilaokaaaDoorG2
import Derived.Test.YtcglkekilaokaaaDoorG3
import Derived.Test.YtcglkekilaokaaaDoorW6
namespace Go.Proofs.YtcglkekilaokaaaDoor
open Go.RowKit

set_option maxHeartbeats 400000 in
theorem clone_any (s : ByteArray) (w : World) (hs : s.size ≤ 2000000) :
    Calls Tryd.prog 31 #[.string s] w fun e w' => e = .returned (.string s) ∧ Below w.heap.size w w' := by
  go_enter Tryd.func31, Tryd.ntmps31
  go_wp2_with (go_at_call 39; refine (stringslite_Clone s _ (by omega)).mono ?_; rintro e w1 ⟨rfl, bb⟩)
  go_ret
  exact ⟨rfl, bb⟩
theorem figs_is (s : ByteArray) (a b : Int) (w : World) (hs : s.size ≤ 2000000) (h1 : ((figS 0 0 s.data.toList).1 : Int) = a) (h2 : ((figS 0 0 s.data.toList).2 : Int) = b) :
    Calls Tryd.prog 32 #[.string s] w fun e w' => e = .returned (.tuple #[.int .i64 a, .int .i64 b]) ∧ Below w.heap.size w w' := by
  subst h1 h2; exact figs_any s w hs

/-- three cells of the call's own block, put anew -/
theorem put3 {w W : World} {a0 b0 c0 : Value} (B : Below w.heap.size w W) (X : Bx W w.heap.size #[a0, b0, c0] 23) (a b c : Value) :
    Bx (((W.setCell ⟨w.heap.size, 0, none⟩ a).setCell ⟨w.heap.size, 1, none⟩ b).setCell ⟨w.heap.size, 2, none⟩ c) w.heap.size #[a, b, c] 23 ∧ Below w.heap.size w (((W.setCell ⟨w.heap.size, 0, none⟩ a).setCell ⟨w.heap.size, 1, none⟩ b).setCell ⟨w.heap.size, 2, none⟩ c) :=
  ⟨((X.put 0 a).put 1 b).put 2 c, ((B.setCell (p := ⟨w.heap.size, 0, none⟩) (Nat.le_refl _) _).setCell (p := ⟨w.heap.size, 1, none⟩) (Nat.le_refl _) _).setCell (p := ⟨w.heap.size, 2, none⟩) (Nat.le_refl _) _⟩
set_option maxRecDepth 20000 in
set_option maxHeartbeats 1000000 in
theorem begin_any (s : ByteArray) (w : World) (hs : s.size ≤ 1000000) :
    Calls Tryd.prog 18 #[.string s] w fun e w' => e = .returned (.tuple #[.agg #[.string (nmX s), .int .i64 (bgM s.data.toList), .bool (bgS s.data.toList)], .int .i64 (bgN s.data.toList)]) ∧ Below w.heap.size w w' := by
  have hs2 : s.size ≤ 2000000 := by omega
  have hl := list_len s
  obtain ⟨nm, hnm⟩ : ∃ x, nmX s = x := ⟨_, rfl⟩
  have hns : nm.size ≤ 2000000 := by
    rw [← hnm, size_list, nmX_list, List.length_take]; omega
  have hex : s.extract 0 (endN s.data.toList) = nm := hnm
  obtain ⟨n, hn⟩ : ∃ n : Nat, endN s.data.toList = n := ⟨_, rfl⟩
  obtain ⟨k, hk⟩ : ∃ k : Nat, badN s.data.toList = k := ⟨_, rfl⟩
  have hnl : n ≤ s.size := by
    have := end_le s.data.toList s.data.toList.length
    have e : endN s.data.toList = endK s.data.toList s.data.toList.length := rfl
    omega
  have hkl : k ≤ s.size := by have := bad_le s.data.toList; omega
  have hnk : n ≤ k := by have := end_bad s.data.toList; omega
  rw [hnm]
  rw [hn] at hex
  have HN : Hid ((endN s.data.toList : Int) = (n : Int)) := congrArg Nat.cast hn
  have HK : Hid ((badN s.data.toList : Int) = (k : Int)) := congrArg Nat.cast hk
  have X0 := Bx.made w #[.string ⟨#[]⟩, .int .i64 0, .bool false] 23
  have B0 : ∀ o, Below w.heap.size w (w.alloc o) := fun o => (Below.refl _ w).alloc (Nat.le_refl _) _
  cases hb : bareX s.data.toList with
  | true =>
    have e1 : bgS s.data.toList = false := by unfold bgS; rw [hb]; rfl
    have e2 : bgM s.data.toList = 0 := by unfold bgM; rw [hb]; rfl
    have e3 : bgN s.data.toList = k := by unfold bgN; rw [hb, if_pos rfl, hk]
    rw [e1, e2, e3]
    have hc : n = 0 ∨ n < k ∨ n = s.size := by
      have : endN s.data.toList = 0 ∨ endN s.data.toList < badN s.data.toList ∨ endN s.data.toList = s.data.toList.length := by simpa [bareX] using hb
      rw [hn, hk, hl] at this
      exact this
    clear hb e1 e2 e3 hn hk hnm
    have key : n = 0 ∨ (¬ n = 0 ∧ n < k) ∨ (¬ n = 0 ∧ ¬ n < k ∧ n = s.size) := by omega
    clear hc
    rcases key with h1 | ⟨h1, h2⟩ | ⟨h1, h2, h3⟩
    · subst h1
      have e0 : nm = ⟨#[]⟩ := by rw [← hex]; apply arr_ext; rw [head_list]; rfl
      subst e0
      go_enter Tryd.func18, Tryd.ntmps18
      go_wp2_with (first
        | (go_at_call 29; refine (pend_is s 0 _ hs2 HN.out).mono ?_; rintro e w1 ⟨rfl, bb⟩; have X := X0.next bb; have B := (B0 _).trans (bb.mono (by simp)); clear bb)
        | (go_at_call 30; refine (pbad_is s k _ hs2 HK.out).mono ?_; rintro e w2 ⟨rfl, bb⟩; replace X := X.next bb; replace B := B.trans (bb.mono B.size); clear bb)
        | (go_at_call 31; refine (clone_any ⟨#[]⟩ _ hns).mono ?_; rintro e w3 ⟨rfl, bb⟩; replace X := X.next bb; replace B := B.trans (bb.mono B.size); clear bb; have XL := fun o => cells3 (X.later o); have x0 := fun o => (XL o).1; have x1 := fun o => (XL o).2.1; have x2 := fun o => (XL o).2.2; clear XL; have z0 := fun o => (X.later o).free 0; have z1 := fun o => (X.later o).free 1; have z2 := fun o => (X.later o).free 2))
      obtain ⟨X3, B3⟩ := put3 (B.alloc B.size (.cells #[.string ⟨#[]⟩, .int .i64 0, .bool false] 23)) (X.later _) (.string ⟨#[]⟩) (.int .i64 0) (.bool false)
      exact bodyPost_ret (v := .tuple #[.agg #[.string ⟨#[]⟩, .int .i64 0, .bool false], .int .i64 k]) (ret_cell_tmp Tryd.results18 _ _ rfl X3 Tryd.underlying23 rfl (by kernel_rfl)) rfl ⟨rfl, B3⟩
    · clear hkl
      go_enter Tryd.func18, Tryd.ntmps18
      go_wp2_with (first
        | (go_at_call 29; refine (pend_is s n _ hs2 HN.out).mono ?_; rintro e w1 ⟨rfl, bb⟩; have X := X0.next bb; have B := (B0 _).trans (bb.mono (by simp)); clear bb)
        | (go_at_call 30; refine (pbad_is s k _ hs2 HK.out).mono ?_; rintro e w2 ⟨rfl, bb⟩; replace X := X.next bb; replace B := B.trans (bb.mono B.size); clear bb)
        | (go_at_call 31; refine (clone_any nm _ hns).mono ?_; rintro e w3 ⟨rfl, bb⟩; replace X := X.next bb; replace B := B.trans (bb.mono B.size); clear bb; have XL := fun o => cells3 (X.later o); have x0 := fun o => (XL o).1; have x1 := fun o => (XL o).2.1; have x2 := fun o => (XL o).2.2; clear XL; have z0 := fun o => (X.later o).free 0; have z1 := fun o => (X.later o).free 1; have z2 := fun o => (X.later o).free 2))
      obtain ⟨X3, B3⟩ := put3 (B.alloc B.size (.cells #[.string nm, .int .i64 0, .bool false] 23)) (X.later _) (.string nm) (.int .i64 0) (.bool false)
      exact bodyPost_ret (v := .tuple #[.agg #[.string nm, .int .i64 0, .bool false], .int .i64 k]) (ret_cell_tmp Tryd.results18 _ _ rfl X3 Tryd.underlying23 rfl (by kernel_rfl)) rfl ⟨rfl, B3⟩
    · subst h3
      have hks : k = s.size := by omega
      subst hks
      have e0 : s = nm := by rw [← hex]; apply arr_ext; rw [head_list, List.take_of_length_le (by omega)]
      subst e0
      go_enter Tryd.func18, Tryd.ntmps18
      go_wp2_with (first
        | (go_at_call 29; refine (pend_is s s.size _ hs2 HN.out).mono ?_; rintro e w1 ⟨rfl, bb⟩; have X := X0.next bb; have B := (B0 _).trans (bb.mono (by simp)); clear bb)
        | (go_at_call 30; refine (pbad_is s s.size _ hs2 HK.out).mono ?_; rintro e w2 ⟨rfl, bb⟩; replace X := X.next bb; replace B := B.trans (bb.mono B.size); clear bb)
        | (go_at_call 31; refine (clone_any s _ hns).mono ?_; rintro e w3 ⟨rfl, bb⟩; replace X := X.next bb; replace B := B.trans (bb.mono B.size); clear bb; have XL := fun o => cells3 (X.later o); have x0 := fun o => (XL o).1; have x1 := fun o => (XL o).2.1; have x2 := fun o => (XL o).2.2; clear XL; have z0 := fun o => (X.later o).free 0; have z1 := fun o => (X.later o).free 1; have z2 := fun o => (X.later o).free 2))
      obtain ⟨X3, B3⟩ := put3 (B.alloc B.size (.cells #[.string s, .int .i64 0, .bool false] 23)) (X.later _) (.string s) (.int .i64 0) (.bool false)
      exact bodyPost_ret (v := .tuple #[.agg #[.string s, .int .i64 0, .bool false], .int .i64 s.size]) (ret_cell_tmp Tryd.results18 _ _ rfl X3 Tryd.underlying23 rfl (by kernel_rfl)) rfl ⟨rfl, B3⟩
  | false =>
    obtain ⟨p1, p2, p3, p4⟩ := bare_parts hb
    rw [hn, hk] at p2
    rw [hn] at p4
    rw [hn, hl] at p3
    subst p2
    have hc : s.data.toList[k]? = some s[k] := List.getElem?_eq_getElem (by omega)
    have q1 : ((k : Int) == 0) = false := by simp; omega
    have q2 : ((k : Int) == (s.size : Int)) = false := by simp; omega
    have q3 : (((k : Int) == 0) || ((k : Int) == (s.size : Int))) = false := by rw [q1, q2]; rfl
    by_cases h42 : s[k] = 42
    · have f1 : ((s[k].toNat : Int) == 42) = true := by rw [h42]; rfl
      have e1 : bgS s.data.toList = true := by unfold bgS; rw [hb, hn, hc, h42]; rfl
      have e2 : bgM s.data.toList = 0 := by unfold bgM; rw [hn, hc, h42]; simp
      have e3 : (bgN s.data.toList : Int) = (k : Int) + 1 := by unfold bgN; rw [hb, hn, hc, h42]; rfl
      rw [e1, e2, e3]
      clear e1 e2 e3 hc h42 hb p1 hn hk hnm hkl hnl hnk
      go_enter Tryd.func18, Tryd.ntmps18
      go_wp2_with (first
        | (go_at_call 29; refine (pend_is s k _ hs2 HN.out).mono ?_; rintro e w1 ⟨rfl, bb⟩; have X := X0.next bb; have B := (B0 _).trans (bb.mono (by simp)); clear bb)
        | (go_at_call 30; refine (pbad_is s k _ hs2 HK.out).mono ?_; rintro e w2 ⟨rfl, bb⟩; replace X := X.next bb; replace B := B.trans (bb.mono B.size); clear bb)
        | (go_at_call 31; refine (clone_any nm _ hns).mono ?_; rintro e w3 ⟨rfl, bb⟩; replace X := X.next bb; replace B := B.trans (bb.mono B.size); clear bb; have XL := fun o => cells3 (X.later o); have x0 := fun o => (XL o).1; have x1 := fun o => (XL o).2.1; have x2 := fun o => (XL o).2.2; clear XL; have z0 := fun o => (X.later o).free 0; have z1 := fun o => (X.later o).free 1; have z2 := fun o => (X.later o).free 2))
      obtain ⟨X3, B3⟩ := put3 (B.alloc B.size (.cells #[.string nm, .int .i64 0, .bool true] 23)) (X.later _) (.string nm) (.int .i64 0) (.bool true)
      exact bodyPost_ret (v := .tuple #[.agg #[.string nm, .int .i64 0, .bool true], .int .i64 ((k : Int) + 1)]) (ret_cell_tmp Tryd.results18 _ _ rfl X3 Tryd.underlying23 rfl (by kernel_rfl)) rfl ⟨rfl, B3⟩
    have f1 : ((s[k].toNat : Int) == 42) = false := by
      have : s[k].toNat ≠ 42 := fun e => h42 (UInt8.toNat_inj.1 e)
      simp; omega
    by_cases h58 : s[k] = 58
    · have f2 : ((s[k].toNat : Int) == 58) = true := by rw [h58]; rfl
      obtain ⟨R, hR⟩ : ∃ R, s.extract (k + 1) s.size = R := ⟨_, rfl⟩
      have hRl : R.data.toList = s.data.toList.drop (k + 1) := by rw [← hR, cut_list]
      have hRs : R.size ≤ 2000000 := by rw [size_list, hRl, List.length_drop]; omega
      obtain ⟨fa, ha⟩ : ∃ x : Int, ((figS 0 0 R.data.toList).1 : Int) = x := ⟨_, rfl⟩
      obtain ⟨fb, hbb⟩ : ∃ x : Int, ((figS 0 0 R.data.toList).2 : Int) = x := ⟨_, rfl⟩
      have hle := figS_le R.data.toList 0 0 (by omega)
      have hlr := list_len R
      have g1 : 0 ≤ fb := by omega
      have g2 : fb ≤ 2000000 := by omega
      have e1 : bgS s.data.toList = false := by unfold bgS; rw [hb, hn, hc, h58]; rfl
      have e2 : (bgM s.data.toList : Int) = fa := by
        unfold bgM; rw [hn, hc, h58, if_pos ⟨hb, rfl⟩, ← hRl]; exact ha
      have e3 : (bgN s.data.toList : Int) = k + 1 + fb := by
        unfold bgN; rw [hb, hn, hc, h58, ← hRl, ← hbb]; simp
      rw [e1, e2, e3]
      have HA := hide ha
      have HB := hide hbb
      clear e1 e2 e3 hc h42 h58 hb p1 hn hk hnm hkl hnl hnk ha hbb hle hlr hRl
      go_enter Tryd.func18, Tryd.ntmps18
      go_wp2_with (first
        | (go_at_call 29; refine (pend_is s k _ hs2 HN.out).mono ?_; rintro e w1 ⟨rfl, bb⟩; have X := X0.next bb; have B := (B0 _).trans (bb.mono (by simp)); clear bb)
        | (go_at_call 30; refine (pbad_is s k _ hs2 HK.out).mono ?_; rintro e w2 ⟨rfl, bb⟩; replace X := X.next bb; replace B := B.trans (bb.mono B.size); clear bb)
        | (go_at_call 31; refine (clone_any nm _ hns).mono ?_; rintro e w3 ⟨rfl, bb⟩; replace X := X.next bb; replace B := B.trans (bb.mono B.size); clear bb; have XL := fun o => cells3 (X.later o); have x0 := fun o => (XL o).1; have x1 := fun o => (XL o).2.1; have x2 := fun o => (XL o).2.2; clear XL; have z0 := fun o => (X.later o).free 0; have z1 := fun o => (X.later o).free 1; have z2 := fun o => (X.later o).free 2)
        | (go_at_call 32; refine (figs_is R fa fb _ hRs HA.out HB.out).mono ?_; rintro e w4 ⟨rfl, bb⟩; have hw3 := B.size; have hne := Nat.ne_of_lt X.lt; have Y := (Bx.made w3 #[.string nm, .int .i64 0, .bool false] 23).next bb; replace X := (X.later _).next bb; replace B := bel_alloc B bb; clear bb x0 x1 x2 z0 z1 z2; obtain ⟨x0, x1, x2⟩ := cells3 X; obtain ⟨y0, y1, y2⟩ := cells3 Y; have z0 := X.free 0; have z1 := X.free 1; have z2 := X.free 2; have v0 := Y.free 0; have v1 := Y.free 1; have v2 := Y.free 2))
      have Y1 := Y.put 1 (.int .i64 fa)
      obtain ⟨X3, B3⟩ := put3 (B.setCell (p := ⟨w3.heap.size, 1, none⟩) hw3 (.int .i64 fa)) (X.other hne 1 (.int .i64 fa)) (.string nm) (.int .i64 fa) (.bool false)
      exact bodyPost_ret (v := .tuple #[.agg #[.string nm, .int .i64 fa, .bool false], .int .i64 (k + 1 + fb)]) (ret_cell_tmp Tryd.results18 _ _ rfl X3 Tryd.underlying23 rfl (by kernel_rfl)) rfl ⟨rfl, B3⟩
    · have f2 : ((s[k].toNat : Int) == 58) = false := by
        have : s[k].toNat ≠ 58 := fun e => h58 (UInt8.toNat_inj.1 e)
        simp; omega
      have e1 : bgS s.data.toList = false := by unfold bgS; rw [hb, hn, hc]; simpa using h42
      have e2 : bgM s.data.toList = 0 := by unfold bgM; rw [hn, hc, if_neg]; simpa using fun _ => h58
      have e3 : bgN s.data.toList = k := by unfold bgN; rw [hb, hn, hc, if_neg (by decide), if_neg (by simpa using h42), if_neg (by simpa using h58)]
      rw [e1, e2, e3]
      clear e1 e2 e3 hc h42 h58 hb p1 hn hk hnm hkl hnl hnk
      go_enter Tryd.func18, Tryd.ntmps18
      go_wp2_with (first
        | (go_at_call 29; refine (pend_is s k _ hs2 HN.out).mono ?_; rintro e w1 ⟨rfl, bb⟩; have X := X0.next bb; have B := (B0 _).trans (bb.mono (by simp)); clear bb)
        | (go_at_call 30; refine (pbad_is s k _ hs2 HK.out).mono ?_; rintro e w2 ⟨rfl, bb⟩; replace X := X.next bb; replace B := B.trans (bb.mono B.size); clear bb)
        | (go_at_call 31; refine (clone_any nm _ hns).mono ?_; rintro e w3 ⟨rfl, bb⟩; replace X := X.next bb; replace B := B.trans (bb.mono B.size); clear bb; have XL := fun o => cells3 (X.later o); have x0 := fun o => (XL o).1; have x1 := fun o => (XL o).2.1; have x2 := fun o => (XL o).2.2; clear XL; have z0 := fun o => (X.later o).free 0; have z1 := fun o => (X.later o).free 1; have z2 := fun o => (X.later o).free 2))
      obtain ⟨X3, B3⟩ := put3 (B.alloc B.size (.cells #[.string nm, .int .i64 0, .bool false] 23)) (X.later _) (.string nm) (.int .i64 0) (.bool false)
      exact bodyPost_ret (v := .tuple #[.agg #[.string nm, .int .i64 0, .bool false], .int .i64 k]) (ret_cell_tmp Tryd.results18 _ _ rfl X3 Tryd.underlying23 rfl (by kernel_rfl)) rfl ⟨rfl, B3⟩
end Go.Proofs.YtcglkekilaokaaaDoor
