/-
  Variables that are no longer than the laws ask; WALKS: the reference's Few (layer 9), Has (layer 7).
-/
import Derived.Test.YtgnccmmbpgnamaaD2
namespace Go.Proofs.Ytgnccmmbpgnamaa
open Go.RowKit

/-- lengths that a value of the language may have -/
structure WideV (v : Vl) : Prop where
  hl : v.l.length ≤ 9223372036854775807
  hp : v.p.length ≤ 9223372036854775807
  hs : v.s.length ≤ 9223372036854775807
  hlx : ∀ y ∈ v.l, y.length ≤ 9223372036854775807
  hpx : ∀ y ∈ v.p, y.1.length ≤ 9223372036854775807 ∧ y.2.length ≤ 9223372036854775807
theorem few_w (x : Value) (v : Vl) (b : Bool) (w : World) (H : VlAt w x v) (W : WideV v) (h : fewV v = b) : Calls Try.prog 22 #[x] w fun e w' => e = .returned (.bool b) ∧ Below w.heap.size w w' := by
  subst h; exact few_any x v w H W.hl W.hp W.hs W.hlx W.hpx
/-- a value that is no longer than the laws ask -/
structure FewV (v : Vl) : Prop where
  l : v.l.length ≤ 30
  p : v.p.length ≤ 30
  ts : ∀ y ∈ textsV v, y.length ≤ 200
theorem few_of {v : Vl} (h : fewV v = true) : FewV v := by
  unfold fewV fewL fewP at h
  simp only [Bool.and_eq_true, decide_eq_true_eq, List.all_eq_true] at h
  obtain ⟨⟨h1, h2⟩, ⟨h3, h4⟩, h5⟩ := h
  rw [List.take_of_length_le (by omega)] at h1 h2
  refine ⟨h4, h5, fun y hy => ?_⟩
  unfold textsV at hy
  split at hy
  · rw [List.mem_singleton] at hy; rw [hy]; exact h3
  · split at hy
    · exact h1 y hy
    · split at hy
      · unfold flatP at hy
        rw [List.mem_flatMap] at hy
        obtain ⟨q, hq, hy⟩ := hy
        have := h2 q hq
        simp only [List.mem_cons, List.not_mem_nil, or_false] at hy
        rcases hy with rfl | rfl
        · exact this.1
        · exact this.2
      · simp at hy
theorem FewV.t4 {v : Vl} (h : FewV v) : ∀ y ∈ textsV v, y.length ≤ 140737488355328 := fun y hy => Nat.le_trans (h.ts y hy) (by omega)
/-- one of the variables, its cells' words opaque -/
theorem BindsAt.one {w : World} {v : Value} {bs : List Bd} (h : BindsAt w v bs) (k : Nat) (hk : k < bs.length) : ∃ (b off cap : Nat) (kd : Int) (M S : ByteArray) (sl sp : Value), v = .slice (some ⟨b, off, none⟩) bs.length cap ∧ b < w.heap.size ∧
    w.cell? ⟨b, off + k * 5, none⟩ = some (.string M) ∧ w.cell? ⟨b, off + k * 5 + 1, none⟩ = some (.int .i64 kd) ∧ w.cell? ⟨b, off + k * 5 + 2, none⟩ = some (.string S) ∧ w.cell? ⟨b, off + k * 5 + 3, none⟩ = some sl ∧ w.cell? ⟨b, off + k * 5 + 4, none⟩ = some sp ∧
    VlAt w (.agg #[.int .i64 kd, .string S, sl, sp]) bs[k].2 ∧ M.data.toList = bs[k].1 := by
  obtain ⟨b, off, cap, sl, sp, e, hb, c0, c1, c2, c3, c4, g1, g2⟩ := h.at k hk
  exact ⟨b, off, cap, _, _, _, sl, sp, e, hb, c0, c1, c2, c3, c4, ⟨sl, sp, rfl, g1, g2⟩, rfl⟩
def fewD (b : Bd) : Bool := decide (b.1.length ≤ 200) && fewV b.2
/-- 20 variables of names of 200 bytes at most -/
def fewB (bs : List Bd) : Bool := (bs.take 21).all fewD && decide (bs.length ≤ 20)
structure WideB (bs : List Bd) : Prop where
  len : bs.length ≤ 9223372036854775807
  nm : ∀ b ∈ bs, b.1.length ≤ 9223372036854775807
  vl : ∀ b ∈ bs, WideV b.2
structure FewD (b : Bd) : Prop where
  nm : b.1.length ≤ 200
  vl : FewV b.2
theorem fewB_of {bs : List Bd} (h : fewB bs = true) : bs.length ≤ 20 ∧ ∀ b ∈ bs, FewD b := by
  unfold fewB at h
  rw [Bool.and_eq_true, decide_eq_true_eq] at h
  obtain ⟨h1, h2⟩ := h
  rw [List.take_of_length_le (by omega), List.all_eq_true] at h1
  refine ⟨h2, fun b hb => ?_⟩
  have := h1 b hb
  unfold fewD at this
  rw [Bool.and_eq_true, decide_eq_true_eq] at this
  exact ⟨this.1, few_of this.2⟩
set_option maxRecDepth 20000 in
set_option maxHeartbeats 2000000 in
theorem bfew_any (v : Value) (bs : List Bd) (w : World) (h : BindsAt w v bs) (hw : WideB bs) : Calls Try.prog 10 #[v] w fun e w' => e = .returned (.bool (fewB bs)) ∧ Below w.heap.size w w' := by
  obtain ⟨la, lc, rfl⟩ := h.form
  have H := hide h
  have HW := hide hw
  have hln := hw.len
  clear h hw
  go_enter Try.func10, Try.ntmps10
  go_wp2
  go_loopw [3] (fun i wr => ∃ k : Nat, k ≤ bs.length ∧ k ≤ 21 ∧ i = .int .i64 k ∧ (bs.take k).all fewD = true ∧ Below w.heap.size w wr) (fun i _ => 21 - (intOf i).toNat)
  case atStart => exact ⟨0, Nat.zero_le _, by omega, rfl, by simp, Below.refl _ _⟩
  case round =>
    obtain ⟨k, hk, hk31, rfl, hall, B⟩ := hrel
    by_cases hgo : k < bs.length ∧ k < 21
    · obtain ⟨hlt, h31⟩ := hgo
      obtain ⟨b, off, cap, kd, M, S, sl, sp, e, hb, c0, c1, c2, c3, c4, hv, hm⟩ := (H.out.later B).one k hlt
      cases e
      have hsn := all_snoc fewD bs k hlt
      rw [hall, Bool.true_and] at hsn
      have hbad := all_not fewD bs k 21 hlt h31
      have hn := HW.out.nm _ (List.getElem_mem hlt)
      have hy := hide (HW.out.vl _ (List.getElem_mem hlt))
      obtain ⟨y, ey⟩ : ∃ y, bs[k] = y := ⟨_, rfl⟩
      rw [ey] at hsn hbad hn hy hv hm
      have hNs : M.size = y.1.length := by rw [← hm, ← size_list]
      rw [← hNs] at hn
      have hd : fewD y = (decide (M.size ≤ 200) && fewV y.2) := by unfold fewD; rw [hNs]
      rw [hd] at hsn hbad
      have Hsn := hide hsn
      have Hbad := hide hbad
      have Hv := hide hv
      clear hsn hbad ey hNs hall hd hm hv
      by_cases h2 : 200 < M.size
      · have hf : fewB bs = false := by
          have := Hbad.out (by simp; omega)
          unfold fewB
          rw [this]; rfl
        have Hf := hide hf
        clear hf
        go_wp2
        all_goals go_ret
        all_goals exact ⟨ret_bool Hf.out.symm, B⟩
      · have hle : decide (M.size ≤ 200) = true := by simp; omega
        have Hle := hide hle
        clear hle
        obtain ⟨r, hr⟩ : ∃ r, fewV y.2 = r := ⟨_, rfl⟩
        have Hr := hide hr
        cases r with
        | true =>
          have hg : (bs.take (k + 1)).all fewD = true := by rw [Hsn.out, Hle.out, hr]; rfl
          have Hg := hide hg
          clear hg hr
          go_wp2_with (go_at_call 22; refine (few_w _ _ true _ Hv.out hy.out Hr.out).mono ?_; rintro e w2 ⟨rfl, bb⟩)
          go_roundw
          case rel => exact ⟨k + 1, by omega, by omega, by go_num, Hg.out, B.trans (bb.mono B.size)⟩
          case measure => simp [intOf]; omega
        | false =>
          have hf : fewB bs = false := by
            have := Hbad.out (by rw [hr, Bool.and_false])
            unfold fewB
            rw [this]; rfl
          have Hf := hide hf
          clear hf hr
          go_wp2_with (go_at_call 22; refine (few_w _ _ false _ Hv.out hy.out Hr.out).mono ?_; rintro e w2 ⟨rfl, bb⟩)
          all_goals go_ret
          all_goals exact ⟨ret_bool Hf.out.symm, B.trans (bb.mono B.size)⟩
    · have hend := all_end fewD bs k 21 hall (by omega)
      have hf : fewB bs = decide (bs.length ≤ 20) := by unfold fewB; rw [hend]; rfl
      have Hf := hide hf
      clear hend hall hf
      by_cases hlt : k < bs.length
      · have h31 : ¬ k < 21 := fun h => hgo ⟨hlt, h⟩
        clear hgo
        go_wp2
        all_goals go_ret
        all_goals exact ⟨ret_bool (by rw [Hf.out, Bool.eq_iff_iff]; simp; omega), B⟩
      · clear hgo
        go_wp2
        all_goals go_ret
        all_goals exact ⟨ret_bool (by rw [Hf.out, Bool.eq_iff_iff]; simp; omega), B⟩
theorem bfew_is (v : Value) (bs : List Bd) (r : Bool) (w : World) (h : BindsAt w v bs) (hw : WideB bs) (hr : fewB bs = r) : Calls Try.prog 10 #[v] w fun e w' => e = .returned (.bool r) ∧ Below w.heap.size w w' := by
  subst hr; exact bfew_any v bs w h hw
theorem contains_snoc (ps : List (List UInt8)) (k : Nat) (h : k < ps.length) (x : List UInt8) : (ps.take (k + 1)).contains x = ((ps.take k).contains x || (ps.getD k [] == x)) := by
  have e : ps.take (k + 1) = ps.take k ++ [ps.getD k []] := list_snoc h
  have hc : ∀ (a : List (List UInt8)) (y : List UInt8), (a ++ [y]).contains x = (a.contains x || (y == x)) := by
    intro a y
    rw [Bool.eq_iff_iff]
    simp only [List.contains_iff_mem, List.mem_append, List.mem_singleton, Bool.or_eq_true, beq_iff_eq]
    exact ⟨fun h => h.imp id Eq.symm, fun h => h.imp id Eq.symm⟩
  rw [e, hc]
set_option maxRecDepth 20000 in
set_option maxHeartbeats 1000000 in
theorem has_row (ps : List (List UInt8)) (b off cap : Nat) (s : ByteArray) (w : World) (hmax : ps.length ≤ 1000000)
    (hc : ∀ k, k < ps.length → w.cell? ⟨b, off + k, none⟩ = some (.string ⟨(ps.getD k []).toArray⟩)) :
    Calls Try.prog 26 #[.slice (some ⟨b, off, none⟩) ps.length cap, .string s] w fun e w' => e = .returned (.bool (ps.contains s.data.toList)) ∧ Below w.heap.size w w' := by
  go_enter Try.func26, Try.ntmps26
  go_wp2
  go_loopw [5] (fun i wr => ∃ (k q : Nat), k ≤ ps.length ∧ i = .int .i64 k ∧ wr = w.drewN q ∧ (ps.take k).contains s.data.toList = false) (fun i _ => ps.length - (intOf i).toNat)
  case atStart => exact ⟨0, 0, Nat.zero_le _, rfl, rfl, by simp⟩
  case round =>
    obtain ⟨k, q, hk, rfl, hw, ht⟩ := hrel
    subst hw
    by_cases hlt : k < ps.length
    · have h1 := hc k hlt
      have hsn := contains_snoc ps k hlt s.data.toList
      rw [ht, Bool.false_or] at hsn
      obtain ⟨x, hx⟩ : ∃ x, ps.getD k [] = x := ⟨_, rfl⟩
      rw [hx] at h1 hsn
      have hmem : x ∈ ps := by
        have : ps.getD k [] = ps[k] := by simp [hlt]
        rw [← hx, this]; exact List.getElem_mem hlt
      have hxy := arr_eq (x := x) (y := s.data.toList)
      have es : (⟨s.data.toList.toArray⟩ : ByteArray) = s := rfl
      rw [es] at hxy
      generalize (⟨x.toArray⟩ : ByteArray) = X at *
      have Hsn := hide hsn
      have Hmem := hide hmem
      have Hxy := hide hxy
      have Hc := hide hc
      clear hx hc hsn hmem hxy ht es
      go_wp2
      · rename_i hh
        go_ret
        refine ⟨ret_bool ?_, below_drewN (Below.refl _ _) _⟩
        rw [Hxy.out, decide_eq_true_eq] at hh
        rw [← hh]
        exact (List.contains_iff_mem.2 Hmem.out).symm
      · rename_i hh
        go_roundw
        case rel =>
          refine ⟨k + 1, _, hlt, by go_num, rfl, ?_⟩
          rw [Hsn.out]
          rw [Hxy.out, decide_eq_false_iff_not] at hh
          simpa using hh
        case measure => simp [intOf]; omega
    · have Ht := hide ht
      clear ht
      go_wp2
      go_ret
      refine ⟨ret_bool ?_, below_drewN (Below.refl _ _) _⟩
      have := Ht.out
      rw [List.take_of_length_le (by omega)] at this
      exact this.symm
theorem has_any (ps : List (List UInt8)) (v : Value) (s : ByteArray) (w : World) (hmax : ps.length ≤ 1000000) (h : StrsAt w v ps) :
    Calls Try.prog 26 #[v, .string s] w fun e w' => e = .returned (.bool (ps.contains s.data.toList)) ∧ Below w.heap.size w w' := by
  rcases h with ⟨rfl, ao, cap, rfl⟩ | ⟨_, b, off, cap, rfl, hc⟩
  · go_enter Try.func26, Try.ntmps26
    go_wp2
    go_loop [5] (fun i => i = .int .i64 0) (fun _ => 0)
    case atStart => rfl
    case round =>
      subst hrel
      go_wp2
      go_ret
      exact ⟨rfl, Below.refl _ _⟩
  · exact has_row ps b off cap s w hmax hc
theorem has_is (ps : List (List UInt8)) (v : Value) (s : ByteArray) (r : Bool) (w : World) (hmax : ps.length ≤ 1000000) (h : StrsAt w v ps) (hr : ps.contains s.data.toList = r) :
    Calls Try.prog 26 #[v, .string s] w fun e w' => e = .returned (.bool r) ∧ Below w.heap.size w w' := by
  subst hr; exact has_any ps v s w hmax h
end Go.Proofs.Ytgnccmmbpgnamaa
