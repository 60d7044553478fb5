/-
  WALKS: the reference's Very, of any variables (layer 9).
-/
import Derived.Test.YtgnccmmbpgnamaaE1
namespace Go.Proofs.Ytgnccmmbpgnamaa
open Go.RowKit

/-- variables that are no longer than the laws ask, and their like -/
structure Fd (bs : List Bd) : Prop where
  len : bs.length ≤ 100
  all : ∀ b ∈ bs, FewD b
theorem canon_few {v : Vl} (h : FewV v) : FewV (canonV v) := by
  have ht : ∀ y ∈ textsV (canonV v), y.length ≤ 200 := by rw [texts_canon]; exact h.ts
  cases hd : definedV v with
  | false =>
    rw [canon_no hd]
    exact ⟨by simp [zeroV], by simp [zeroV], by rw [← canon_no hd]; exact ht⟩
  | true =>
    have hc := canon_yes hd
    refine ⟨?_, ?_, ht⟩
    · unfold ofV at hc
      split at hc
      · have e := Option.some.inj hc
        rw [← e]; simp
      · split at hc
        · rename_i h1 h2
          have e := Option.some.inj hc
          rw [← e]
          show (textsV v).length ≤ 30
          unfold textsV
          rw [if_neg (by rw [h2.1]; omega), if_pos h2.1]
          exact h.l
        · split at hc
          · cases hc
          · have e := Option.some.inj hc
            rw [← e]; simp
    · unfold ofV at hc
      split at hc
      · have e := Option.some.inj hc
        rw [← e]; simp
      · split at hc
        · have e := Option.some.inj hc
          rw [← e]; simp
        · split at hc
          · cases hc
          · rename_i h1 h2 h3
            have e := Option.some.inj hc
            rw [← e]
            have hk : v.kind = 3 := by
              apply Classical.byContradiction
              intro e; exact h3 (.inl e)
            show (pairsL (textsV v)).length ≤ 30
            unfold textsV
            rw [if_neg (by rw [hk]; omega), if_neg (by rw [hk]; omega), if_pos hk, pairs_flat]
            exact h.p
theorem zero_few : FewV zeroV := ⟨by simp [zeroV], by simp [zeroV], fun y hy => by
  have : textsV zeroV = [] := by unfold textsV zeroV; simp
  rw [this] at hy; cases hy⟩
theorem get_few {bs : List Bd} (h : ∀ b ∈ bs, FewD b) (n : List UInt8) : FewV (getV bs n) := by
  unfold getV
  cases hf : firstV bs n with
  | none => exact zero_few
  | some v => exact canon_few (h _ (first_mem hf)).vl
theorem Fd.canon {bs : List Bd} (h : Fd bs) : Fd (canonB bs) := by
  refine ⟨by rw [canonB_len]; exact Nat.le_trans (names_len bs) h.len, fun b hb => ?_⟩
  obtain ⟨_, _, h3, h4⟩ := canon_all hb
  obtain ⟨x, hx, hxe⟩ := List.mem_map.1 (is_mem h3)
  exact ⟨by rw [← hxe]; exact (h.all x hx).nm, by rw [h4]; exact get_few h.all _⟩
theorem fd_of {bs : List Bd} (h : fewB bs = true) : Fd bs := ⟨by have := (fewB_of h).1; omega, (fewB_of h).2⟩
theorem texts_eq {M M' : ByteArray} {x y : List UInt8} (h : M.data.toList = x) (h' : M'.data.toList = y) : (M.toList == M'.toList) = decide (x = y) := by
  rw [Lib.toList_data, Lib.toList_data, h, h', Bool.eq_iff_iff]; simp
theorem same_array {M M' : ByteArray} (h : M.data.toList = M'.data.toList) : M = M' := ByteArray.ext (Array.ext' h)
/-- the cells of two variables -/
structure Ten (W : World) (b o b' o' : Nat) (M S M' S' : ByteArray) (k k' : Int) (l p l' p' : Value) : Prop where
  c0 : W.cell? ⟨b, o, none⟩ = some (.string M)
  c1 : W.cell? ⟨b, o + 1, none⟩ = some (.int .i64 k)
  c2 : W.cell? ⟨b, o + 2, none⟩ = some (.string S)
  c3 : W.cell? ⟨b, o + 3, none⟩ = some l
  c4 : W.cell? ⟨b, o + 4, none⟩ = some p
  d0 : W.cell? ⟨b', o', none⟩ = some (.string M')
  d1 : W.cell? ⟨b', o' + 1, none⟩ = some (.int .i64 k')
  d2 : W.cell? ⟨b', o' + 2, none⟩ = some (.string S')
  d3 : W.cell? ⟨b', o' + 3, none⟩ = some l'
  d4 : W.cell? ⟨b', o' + 4, none⟩ = some p'
section
variable {W W' : World} {b o b' o' : Nat} {M S M' S' : ByteArray} {k k' : Int} {l p l' p' : Value}
theorem Ten.next (h : Ten W b o b' o' M S M' S' k k' l p l' p') (bb : Below W.heap.size W W') : Ten W' b o b' o' M S M' S' k k' l p l' p' :=
  ⟨(bb.cell (p := ⟨b, _, none⟩) (lt_of_cell h.c0)).trans h.c0, (bb.cell (p := ⟨b, _, none⟩) (lt_of_cell h.c0)).trans h.c1, (bb.cell (p := ⟨b, _, none⟩) (lt_of_cell h.c0)).trans h.c2, (bb.cell (p := ⟨b, _, none⟩) (lt_of_cell h.c0)).trans h.c3, (bb.cell (p := ⟨b, _, none⟩) (lt_of_cell h.c0)).trans h.c4,
   (bb.cell (p := ⟨b', _, none⟩) (lt_of_cell h.d0)).trans h.d0, (bb.cell (p := ⟨b', _, none⟩) (lt_of_cell h.d0)).trans h.d1, (bb.cell (p := ⟨b', _, none⟩) (lt_of_cell h.d0)).trans h.d2, (bb.cell (p := ⟨b', _, none⟩) (lt_of_cell h.d0)).trans h.d3, (bb.cell (p := ⟨b', _, none⟩) (lt_of_cell h.d0)).trans h.d4⟩
theorem Ten.drew (h : Ten W b o b' o' M S M' S' k k' l p l' p') : Ten W.drew b o b' o' M S M' S' k k' l p l' p' := h.next (b_drew W)
theorem Ten.all (h : Ten W b o b' o' M S M' S' k k' l p l' p') : W.cell? ⟨b, o, none⟩ = some (.string M) ∧ W.cell? ⟨b, o + 1, none⟩ = some (.int .i64 k) ∧ W.cell? ⟨b, o + 2, none⟩ = some (.string S) ∧ W.cell? ⟨b, o + 3, none⟩ = some l ∧ W.cell? ⟨b, o + 4, none⟩ = some p ∧
    W.cell? ⟨b', o', none⟩ = some (.string M') ∧ W.cell? ⟨b', o' + 1, none⟩ = some (.int .i64 k') ∧ W.cell? ⟨b', o' + 2, none⟩ = some (.string S') ∧ W.cell? ⟨b', o' + 3, none⟩ = some l' ∧ W.cell? ⟨b', o' + 4, none⟩ = some p' := ⟨h.c0, h.c1, h.c2, h.c3, h.c4, h.d0, h.d1, h.d2, h.d3, h.d4⟩
end
set_option maxRecDepth 20000 in
set_option maxHeartbeats 4000000 in
theorem bvery_any (u v : Value) (xs bs : List Bd) (r : Bool) (w : World) (HA : BindsAt w u xs) (HB : BindsAt w v bs) (FA : Fd xs) (FB : Fd bs) (hr : veryB xs bs = r) : Calls Try.prog 17 #[u, v] w fun e w' => e = .returned (.bool r) ∧ Below w.heap.size w w' := by
  obtain ⟨ua, uc, rfl⟩ := HA.form
  obtain ⟨va, vc, rfl⟩ := HB.form
  have hla := FA.len
  have hlb := FB.len
  have GA := hide FA.all
  have GB := hide FB.all
  obtain ⟨m, hm⟩ : ∃ m, xs.length = m := ⟨_, rfl⟩
  obtain ⟨m', hm'⟩ : ∃ m, bs.length = m := ⟨_, rfl⟩
  rw [hm] at HA hla ⊢
  rw [hm'] at HB hlb ⊢
  have Hm := hide hm
  have Hm' := hide hm'
  have HA := hide HA
  have HB := hide HB
  have Hr := hide hr
  clear FA FB hm hm' hr
  by_cases hl : m = m'
  · subst hl
    go_enter Try.func17, Try.ntmps17
    go_wp2
    go_loopw [5] (fun i wr => ∃ q : Nat, q ≤ m ∧ i = .int .i64 q ∧ xs.take q = bs.take q ∧ Below w.heap.size w wr) (fun i _ => m - (intOf i).toNat)
    case atStart => exact ⟨0, Nat.zero_le _, rfl, rfl, Below.refl _ _⟩
    case round =>
      obtain ⟨q, hq, rfl, htk, Bw⟩ := hrel
      by_cases hlt : q < m
      · have hqa : q < xs.length := by rw [Hm.out]; exact hlt
        have hqb : q < bs.length := by rw [Hm'.out]; exact hlt
        obtain ⟨b, off, cap, kd, M, S, sl, sp, ea, hb, c0, c1, c2, c3, c4, hv, hM⟩ := (HA.out.later Bw).one q hqa
        obtain ⟨b', off', cap', kd', M', S', sl', sp', eb, hb', d0, d1, d2, d3, d4, hv', hM'⟩ := (HB.out.later Bw).one q hqb
        rw [Hm.out] at ea
        rw [Hm'.out] at eb
        cases ea
        cases eb
        have hsn := take_eq_snoc hqa hqb htk
        have fa := GA.out _ (List.getElem_mem hqa)
        have fb := GB.out _ (List.getElem_mem hqb)
        obtain ⟨x, hx⟩ : ∃ x, xs[q] = x := ⟨_, rfl⟩
        obtain ⟨y, hy⟩ : ∃ y, bs[q] = y := ⟨_, rfl⟩
        have hne : x ≠ y → veryB xs bs = false := by
          intro hxy
          cases hv : veryB xs bs with
          | false => rfl
          | true =>
            have e := (veryB_iff xs bs).1 hv
            subst e
            exact absurd (hx.symm.trans hy) hxy
        rw [hx, hy] at hsn
        rw [hx] at hv hM fa
        rw [hy] at hv' hM' fb
        have hxy := texts_eq hM hM'
        have h0 : (0 : Int) ≤ q := by omega
        have h1 : (q : Int) < m := by omega
        have Hv := hide hv
        have Hv' := hide hv'
        have Fa := hide fa.vl
        have Fb := hide fb.vl
        have Hsn := hide hsn
        have Hne := hide hne
        clear fa fb hsn hne hx hy hv hv' htk hqa hqb
        by_cases hn : x.1 = y.1
        · have hMM : M = M' := same_array (by rw [hM, hM', hn])
          subst hMM
          obtain ⟨t, ht⟩ : ∃ t, veryV x.2 y.2 = t := ⟨_, rfl⟩
          have Ht := hide ht
          cases t with
          | true =>
            have Hnx := hide (Hsn.out.2 (Prod.ext hn ((very_iff _ _).1 ht)))
            have T : Ten wr b (off + q * 5) b' (off' + q * 5) M S M S' kd kd' sl sp sl' sp' := ⟨c0, c1, c2, c3, c4, d0, d1, d2, d3, d4⟩
            clear ht hn hM hM' hxy
            go_wp2
            go_region_held3 (fun W => W.cell? ⟨b, off + q * 5, none⟩ = some (.string M) ∧ W.cell? ⟨b, off + q * 5 + 1, none⟩ = some (.int .i64 kd) ∧ W.cell? ⟨b, off + q * 5 + 2, none⟩ = some (.string S) ∧ W.cell? ⟨b, off + q * 5 + 3, none⟩ = some sl ∧ W.cell? ⟨b, off + q * 5 + 4, none⟩ = some sp ∧
                W.cell? ⟨b', off' + q * 5, none⟩ = some (.string M) ∧ W.cell? ⟨b', off' + q * 5 + 1, none⟩ = some (.int .i64 kd') ∧ W.cell? ⟨b', off' + q * 5 + 2, none⟩ = some (.string S') ∧ W.cell? ⟨b', off' + q * 5 + 3, none⟩ = some sl' ∧ W.cell? ⟨b', off' + q * 5 + 4, none⟩ = some sp') (first | with_reducible exact T.all | with_reducible exact T.drew.all)
              ((go_at_call 13; refine (rvery_any _ _ _ _ true _ (Hv.out.later (b_drew _)) (Hv'.out.later (b_drew _)) (by have := Fa.out.l; omega) (by have := Fa.out.p; omega) (by have := Fb.out.p; omega) Ht.out).mono ?_; rintro e w2 ⟨rfl, bb⟩; replace bb := (b_drew wr).trans (bb.mono (b_drew wr).size); replace T := T.next bb))
            go_wp2
            go_roundw
            case rel => exact ⟨q + 1, by omega, by go_num, Hnx.out, Bw.trans (bb.mono Bw.size)⟩
            case measure => simp [intOf]; omega
          | false =>
            have hf : r = false := by
              rw [← Hr.out]
              refine Hne.out (fun e => ?_)
              rw [e, (very_iff _ _).2 rfl] at ht
              cases ht
            have Hf := hide hf
            clear hf
            have T : Ten wr b (off + q * 5) b' (off' + q * 5) M S M S' kd kd' sl sp sl' sp' := ⟨c0, c1, c2, c3, c4, d0, d1, d2, d3, d4⟩
            clear ht hn hM hM' hxy
            go_wp2
            go_region_held3 (fun W => W.cell? ⟨b, off + q * 5, none⟩ = some (.string M) ∧ W.cell? ⟨b, off + q * 5 + 1, none⟩ = some (.int .i64 kd) ∧ W.cell? ⟨b, off + q * 5 + 2, none⟩ = some (.string S) ∧ W.cell? ⟨b, off + q * 5 + 3, none⟩ = some sl ∧ W.cell? ⟨b, off + q * 5 + 4, none⟩ = some sp ∧
                W.cell? ⟨b', off' + q * 5, none⟩ = some (.string M) ∧ W.cell? ⟨b', off' + q * 5 + 1, none⟩ = some (.int .i64 kd') ∧ W.cell? ⟨b', off' + q * 5 + 2, none⟩ = some (.string S') ∧ W.cell? ⟨b', off' + q * 5 + 3, none⟩ = some sl' ∧ W.cell? ⟨b', off' + q * 5 + 4, none⟩ = some sp') (first | with_reducible exact T.all | with_reducible exact T.drew.all)
              ((go_at_call 13; refine (rvery_any _ _ _ _ false _ (Hv.out.later (b_drew _)) (Hv'.out.later (b_drew _)) (by have := Fa.out.l; omega) (by have := Fa.out.p; omega) (by have := Fb.out.p; omega) Ht.out).mono ?_; rintro e w2 ⟨rfl, bb⟩; replace bb := (b_drew wr).trans (bb.mono (b_drew wr).size); replace T := T.next bb))
            go_wp2
            go_ret
            exact ⟨ret_bool Hf.out.symm, Bw.trans (bb.mono Bw.size)⟩
        · have hf : r = false := by rw [← Hr.out]; exact Hne.out (fun e => hn (by rw [e]))
          have hMf : (M.toList == M'.toList) = false := by rw [hxy]; simp [hn]
          have Hf := hide hf
          clear hf hn hM hM' hxy
          go_wp2
          go_quiet ((fail))
          go_wp2
          go_ret
          exact ⟨ret_bool Hf.out.symm, Bw.trans ((b_drewN _ nq).mono Bw.size)⟩
      · have he : xs = bs := by
          rw [List.take_of_length_le (by rw [Hm.out]; omega), List.take_of_length_le (by rw [Hm'.out]; omega)] at htk
          exact htk
        have hf : r = true := by rw [← Hr.out]; exact (veryB_iff _ _).2 he
        have Hf := hide hf
        clear hf he htk
        go_wp2
        go_ret
        exact ⟨ret_bool Hf.out.symm, Bw⟩
  · have hf : r = false := by
      rw [← Hr.out]
      cases hv : veryB xs bs with
      | false => rfl
      | true =>
        have e := (veryB_iff xs bs).1 hv
        subst e
        exact absurd (Hm.out.symm.trans Hm'.out) hl
    have hlf : ((m : Int) == (m' : Int)) = false := by rw [beq_eq_false_iff_ne]; omega
    have Hf := hide hf
    clear hf
    go_enter Try.func17, Try.ntmps17
    go_wp2
    go_ret
    exact ⟨ret_bool Hf.out.symm, Below.refl _ _⟩
end Go.Proofs.Ytgnccmmbpgnamaa
