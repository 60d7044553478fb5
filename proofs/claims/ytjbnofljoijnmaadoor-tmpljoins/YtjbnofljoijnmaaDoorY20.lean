/-
  Joined by program out of the texts C4 C5 C6.
-/
import Derived.Test.YtjbnofljoijnmaaDoorY19
/-
  WALKS: the law TmplReserved.
-/
namespace Go.Proofs.YtjbnofljoijnmaaDoor
open Go.RowKit Go.Lib

end Go.Proofs.YtjbnofljoijnmaaDoor

/-
  WALKS: the law TmplBack.
-/
namespace Go.Proofs.YtjbnofljoijnmaaDoor
open Go.RowKit Go.Lib

/-- what any parts are that memory can hold -/
def WideT (ts : List Pt) : Prop := ts.length ≤ 9223372036854775807 ∧ (∀ x ∈ ts, x.specs.length ≤ 9223372036854775807) ∧ ∀ x ∈ ts, x.lit.length ≤ 9223372036854775807 ∧ ∀ y ∈ x.specs, y.name.length ≤ 9223372036854775807
theorem put_le (y : Sp) : (putL y).length ≤ y.name.length + 5 := by
  unfold putL
  split
  · rename_i h
    obtain ⟨_, h2, h3, _⟩ := (may_iff y).1 h
    split
    · simp
    · split
      · have := fig_len y.max.toNat 3 (by omega)
        simp only [List.length_append, List.length_cons]
        omega
      · omega
  · simp
theorem join_le (ps : List (List UInt8)) (M : Nat) (h : ∀ p ∈ ps, p.length ≤ M) : (joinC ps).length ≤ ps.length * (M + 1) := by
  induction ps with
  | nil => simp [joinC]
  | cons a r ih =>
    have h1 := h a (by simp)
    have h2 := ih (fun p hp => h p (by simp [hp]))
    cases r with
    | nil =>
      show a.length ≤ 1 * (M + 1)
      omega
    | cons b r =>
      show (a ++ 44 :: joinC (b :: r)).length ≤ ((b :: r).length + 1) * (M + 1)
      rw [List.length_append, List.length_cons, Nat.add_mul]
      omega
theorem few_len {x : Pt} (h1 : x.lit.length ≤ 200) (h2 : x.specs.length ≤ 20) (h3 : ∀ y ∈ x.specs, y.name.length ≤ 200) : (putPt x).length ≤ 5000 := by
  have hj := join_le (x.specs.map putL) 205 (fun p hp => by
    obtain ⟨y, hy, rfl⟩ := List.mem_map.1 hp
    have := put_le y
    have := h3 y hy
    omega)
  rw [List.length_map] at hj
  have ho : (opL x.op).length ≤ 1 := by unfold opL; split <;> simp
  unfold putPt bodyL
  rw [List.length_append]
  split
  · simp; omega
  · simp only [List.length_cons, List.length_append, List.length_nil]
    omega
theorem few_all_len {ts : List Pt} (h : ∀ x ∈ ts, (putPt x).length ≤ 5000) : (putF ts).length ≤ 5000 * ts.length := by
  induction ts with
  | nil => simp [putF]
  | cons a r ih =>
    have h1 := h a (by simp)
    have h2 := ih (fun x hx => h x (by simp [hx]))
    show (putPt a ++ putF r).length ≤ 5000 * (r.length + 1)
    rw [List.length_append]
    omega
set_option maxRecDepth 20000 in
set_option maxHeartbeats 4000000 in
theorem back_walk {R : World → Prop} (P : Prg R) (v : Value) (ts : List Pt) (s : ByteArray) (w : World) (hR : R w) (H : PtsAt w v ts) (hw : WideT ts) : Calls Tryd.prog 3 #[v, .string s] w fun e w' => e = .returned (.bool true) ∧ Below w.heap.size w w' := by
  have B := Below.refl w.heap.size w
  obtain ⟨a0, c0, rfl⟩ := H.form
  cases hfew : fewT ts with
  | false =>
    have Hfew := hide hfew
    clear hfew
    go_enter Tryd.func3, Tryd.ntmps3
    go_wp2_with (first | (go_at_call 6; refine (awake_any P _ hR).mono ?_; rintro e w1 ⟨rfl, bb⟩; replace B := bb; have hR1 := P.next _ _ hR bb; have H1 := H.later bb; clear bb) | (go_at_call 7; refine (few_is _ ts false _ H1 hw.1 hw.2.1 hw.2.2 Hfew.out).mono ?_; rintro e w2 ⟨rfl, hw2⟩; rw [hw2]; clear hw2))
    all_goals go_ret
    all_goals exact ⟨rfl, B⟩
  | true =>
    obtain ⟨hsm, hl30⟩ := small_few hfew
    have hpl : (putF ts).length ≤ 150000 := by
      have := few_all_len (ts := ts) (fun x hx => by
        obtain ⟨a, b, c⟩ := (few_all hfew).2 x hx
        exact few_len a b c)
      omega
    have Hfew := hide hfew
    have Hsm := hide hsm
    have Hpl := hide hpl
    clear hfew hsm
    by_cases hbig : 100 < s.size
    · go_enter Tryd.func3, Tryd.ntmps3
      go_wp2_with (first | (go_at_call 6; refine (awake_any P _ hR).mono ?_; rintro e w1 ⟨rfl, bb⟩; replace B := bb; have hR1 := P.next _ _ hR bb; have H1 := H.later bb; clear bb) | (go_at_call 7; refine (few_is _ ts true _ H1 hw.1 hw.2.1 hw.2.2 Hfew.out).mono ?_; rintro e w2 ⟨rfl, hw2⟩; rw [hw2]; clear hw2))
      all_goals go_ret
      all_goals exact ⟨rfl, B⟩
    · have M0 : Hid True := trivial
      have P0 : Hid True := trivial
      have Q0 : Hid True := trivial
      cases hm : mayT ts with
      | false =>
        have Hm := hide hm
        clear hm
        cases ho : isT s.data.toList with
        | none =>
          obtain ⟨k, hk⟩ : ∃ k, badT s.data.toList = k := ⟨_, rfl⟩
          have hkl := badT_le s.data.toList
          rw [hk, ← size_list] at hkl
          have Ho := hide ho
          have Hk := hide hk
          clear ho hk
          go_enter Tryd.func3, Tryd.ntmps3
          go_wp2_with (first | (go_at_call 6; refine (awake_any P _ hR).mono ?_; rintro e w1 ⟨rfl, bb⟩; replace B := bb; have hR1 := P.next _ _ hR bb; have H1 := H.later bb; clear bb) | (go_at_call 7; refine (few_is _ ts true _ H1 hw.1 hw.2.1 hw.2.2 Hfew.out).mono ?_; rintro e w2 ⟨rfl, hw2⟩; rw [hw2]; clear hw2) | (go_at_call 8; have z := M0; refine (pmayT_is P _ ts false _ hR1 H1 Hsm.out Hm.out).mono ?_; rintro e w3 ⟨rfl, bb⟩; replace B := B.trans (bb.mono B.size); replace hR1 := P.next _ _ hR1 bb; replace H1 := H1.later bb; clear bb M0 z) | (go_at_call 10; refine (pno_is P s k _ hR1 (by omega) Ho.out Hk.out).mono ?_; rintro e w7 ⟨rfl, bb⟩; replace B := B.trans (bb.mono B.size); clear bb))
          all_goals go_ret
          all_goals exact ⟨rfl, B⟩
        | some us =>
          obtain ⟨hsu, _, hpu, hmu⟩ := small_is ho (by rw [← size_list]; omega)
          have hpu2 : s.data.toList = putT us := (put_is ho).2.symm
          have hlu : (putF us).length ≤ 1000000 := by rw [hpu, ← size_list]; omega
          have Ho := hide ho
          have Hsu := hide hsu
          have Hmu := hide hmu
          have Hpu := hide hpu2
          have Hlu := hide hlu
          clear ho hsu hmu hpu hpu2 hlu
          go_enter Tryd.func3, Tryd.ntmps3
          go_wp2_with (first | (go_at_call 6; refine (awake_any P _ hR).mono ?_; rintro e w1 ⟨rfl, bb⟩; replace B := bb; have hR1 := P.next _ _ hR bb; have H1 := H.later bb; clear bb) | (go_at_call 7; refine (few_is _ ts true _ H1 hw.1 hw.2.1 hw.2.2 Hfew.out).mono ?_; rintro e w2 ⟨rfl, hw2⟩; rw [hw2]; clear hw2) | (go_at_call 8; have z := M0; refine (pmayT_is P _ ts false _ hR1 H1 Hsm.out Hm.out).mono ?_; rintro e w3 ⟨rfl, bb⟩; replace B := B.trans (bb.mono B.size); replace hR1 := P.next _ _ hR1 bb; replace H1 := H1.later bb; clear bb M0 z) | (go_at_call 10; refine (pyes_is P s us _ hR1 (by omega) Ho.out).mono ?_; rintro e w7 ⟨vb, rfl, hvb, bb⟩; replace B := B.trans (bb.mono B.size); replace hR1 := P.next _ _ hR1 bb; clear bb) | (go_at_call 8; refine (pmayT_is P _ us true _ hR1 hvb Hsu.out Hmu.out).mono ?_; rintro e w8 ⟨rfl, bb⟩; replace B := B.trans (bb.mono B.size); replace hR1 := P.next _ _ hR1 bb; replace hvb := hvb.later bb; clear bb) | (go_at_call 9; refine (pputT_is P _ us s _ hR1 hvb Hsu.out Hlu.out Hpu.out).mono ?_; rintro e w9 ⟨rfl, bb⟩; replace B := B.trans (bb.mono B.size); replace hR1 := P.next _ _ hR1 bb; replace hvb := hvb.later bb; clear bb))
          all_goals go_ret
          all_goals exact ⟨rfl, B⟩
      | true =>
        obtain ⟨PB, hPB⟩ : ∃ PB : ByteArray, PB = ⟨(putT ts).toArray⟩ := ⟨_, rfl⟩
        have hPBl : PB.data.toList = putT ts := by rw [hPB]
        have hPBs : PB.size ≤ 150000 := by
          rw [size_list, hPBl]
          unfold putT
          rw [if_pos hm]; exact hpl
        have his : isT PB.data.toList = some ts := by rw [hPBl]; exact is_putT hm
        have Hm := hide hm
        have HPB := hide hPBl
        have HIS := hide his
        clear hm hPB hPBl his
        cases ho : isT s.data.toList with
        | none =>
          obtain ⟨k, hk⟩ : ∃ k, badT s.data.toList = k := ⟨_, rfl⟩
          have hkl := badT_le s.data.toList
          rw [hk, ← size_list] at hkl
          have Ho := hide ho
          have Hk := hide hk
          clear ho hk
          go_enter Tryd.func3, Tryd.ntmps3
          go_wp2_with (first | (go_at_call 6; refine (awake_any P _ hR).mono ?_; rintro e w1 ⟨rfl, bb⟩; replace B := bb; have hR1 := P.next _ _ hR bb; have H1 := H.later bb; clear bb) | (go_at_call 7; refine (few_is _ ts true _ H1 hw.1 hw.2.1 hw.2.2 Hfew.out).mono ?_; rintro e w2 ⟨rfl, hw2⟩; rw [hw2]; clear hw2) | (go_at_call 8; have z := M0; refine (pmayT_is P _ ts true _ hR1 H1 Hsm.out Hm.out).mono ?_; rintro e w3 ⟨rfl, bb⟩; replace B := B.trans (bb.mono B.size); replace hR1 := P.next _ _ hR1 bb; replace H1 := H1.later bb; clear bb M0 z) | (go_at_call 9; have z := P0; refine (pputT_is P _ ts PB _ hR1 H1 Hsm.out (by omega) HPB.out).mono ?_; rintro e w4 ⟨rfl, bb⟩; replace B := B.trans (bb.mono B.size); replace hR1 := P.next _ _ hR1 bb; replace H1 := H1.later bb; clear bb P0 z) | (go_at_call 10; have z := Q0; refine (pyes_is P PB ts _ hR1 (by omega) HIS.out).mono ?_; rintro e w5 ⟨va, rfl, hva, bb⟩; replace B := B.trans (bb.mono B.size); replace hR1 := P.next _ _ hR1 bb; replace H1 := H1.later bb; clear bb Q0 z) | (go_at_call 11; refine (same_any _ _ ts _ hva H1 (by omega) (fun x hx => by have := (Hsm.out.2 x hx).1; omega)).mono ?_; rintro e w6 ⟨rfl, bb⟩; replace B := B.trans (bb.mono B.size); replace hR1 := P.next _ _ hR1 bb; replace H1 := H1.later bb; clear bb) | (go_at_call 10; refine (pno_is P s k _ hR1 (by omega) Ho.out Hk.out).mono ?_; rintro e w7 ⟨rfl, bb⟩; replace B := B.trans (bb.mono B.size); clear bb))
          all_goals go_ret
          all_goals exact ⟨rfl, B⟩
        | some us =>
          obtain ⟨hsu, _, hpu, hmu⟩ := small_is ho (by rw [← size_list]; omega)
          have hpu2 : s.data.toList = putT us := (put_is ho).2.symm
          have hlu : (putF us).length ≤ 1000000 := by rw [hpu, ← size_list]; omega
          have Ho := hide ho
          have Hsu := hide hsu
          have Hmu := hide hmu
          have Hpu := hide hpu2
          have Hlu := hide hlu
          clear ho hsu hmu hpu hpu2 hlu
          go_enter Tryd.func3, Tryd.ntmps3
          go_wp2_with (first | (go_at_call 6; refine (awake_any P _ hR).mono ?_; rintro e w1 ⟨rfl, bb⟩; replace B := bb; have hR1 := P.next _ _ hR bb; have H1 := H.later bb; clear bb) | (go_at_call 7; refine (few_is _ ts true _ H1 hw.1 hw.2.1 hw.2.2 Hfew.out).mono ?_; rintro e w2 ⟨rfl, hw2⟩; rw [hw2]; clear hw2) | (go_at_call 8; have z := M0; refine (pmayT_is P _ ts true _ hR1 H1 Hsm.out Hm.out).mono ?_; rintro e w3 ⟨rfl, bb⟩; replace B := B.trans (bb.mono B.size); replace hR1 := P.next _ _ hR1 bb; replace H1 := H1.later bb; clear bb M0 z) | (go_at_call 9; have z := P0; refine (pputT_is P _ ts PB _ hR1 H1 Hsm.out (by omega) HPB.out).mono ?_; rintro e w4 ⟨rfl, bb⟩; replace B := B.trans (bb.mono B.size); replace hR1 := P.next _ _ hR1 bb; replace H1 := H1.later bb; clear bb P0 z) | (go_at_call 10; have z := Q0; refine (pyes_is P PB ts _ hR1 (by omega) HIS.out).mono ?_; rintro e w5 ⟨va, rfl, hva, bb⟩; replace B := B.trans (bb.mono B.size); replace hR1 := P.next _ _ hR1 bb; replace H1 := H1.later bb; clear bb Q0 z) | (go_at_call 11; refine (same_any _ _ ts _ hva H1 (by omega) (fun x hx => by have := (Hsm.out.2 x hx).1; omega)).mono ?_; rintro e w6 ⟨rfl, bb⟩; replace B := B.trans (bb.mono B.size); replace hR1 := P.next _ _ hR1 bb; replace H1 := H1.later bb; clear bb) | (go_at_call 10; refine (pyes_is P s us _ hR1 (by omega) Ho.out).mono ?_; rintro e w7 ⟨vb, rfl, hvb, bb⟩; replace B := B.trans (bb.mono B.size); replace hR1 := P.next _ _ hR1 bb; clear bb) | (go_at_call 8; refine (pmayT_is P _ us true _ hR1 hvb Hsu.out Hmu.out).mono ?_; rintro e w8 ⟨rfl, bb⟩; replace B := B.trans (bb.mono B.size); replace hR1 := P.next _ _ hR1 bb; replace hvb := hvb.later bb; clear bb) | (go_at_call 9; refine (pputT_is P _ us s _ hR1 hvb Hsu.out Hlu.out Hpu.out).mono ?_; rintro e w9 ⟨rfl, bb⟩; replace B := B.trans (bb.mono B.size); replace hR1 := P.next _ _ hR1 bb; replace hvb := hvb.later bb; clear bb))
          all_goals go_ret
          all_goals exact ⟨rfl, B⟩
end Go.Proofs.YtjbnofljoijnmaaDoor

/-
  WALKS: the law TmplTells.
-/
namespace Go.Proofs.YtjbnofljoijnmaaDoor
open Go.RowKit Go.Lib

theorem strs_form {w : World} {v : Value} {ps : List (List UInt8)} (h : StrsAt w v ps) : ∃ a cap, v = .slice a ps.length cap := by
  rcases h with ⟨rfl, ao, cap, rfl⟩ | ⟨hp, b, off, cap, rfl, hc⟩
  · exact ⟨_, _, rfl⟩
  · exact ⟨_, _, rfl⟩
theorem texts_same (ts : List Pt) (u v : Value) (w : World) (hn : (namesT ts).length ≤ 1000000) (h1 : StrsAt w u (namesT ts)) (h2 : StrsAt w v (namesT ts)) : Calls Tryd.prog 12 #[u, v] w fun e w' => e = .returned (.bool true) ∧ Below w.heap.size w w' := by
  refine (texts_any (namesT ts) (namesT ts) u v w (by omega) h1 h2).mono ?_
  rintro e w' ⟨rfl, bb⟩
  exact ⟨by simp, bb⟩
end Go.Proofs.YtjbnofljoijnmaaDoor
