/-
  WALKS: the reference's Same (layer 9).
-/
import Derived.Test.YtgnccmmbpgnamaaE6
namespace Go.Proofs.Ytgnccmmbpgnamaa
open Go.RowKit

theorem rbcanon_n (v : Value) (bs cs : List Bd) (m : Nat) (w : World) (h : BindsAt w v bs) (F : Fd bs) (hc : canonB bs = cs) (hm : cs.length = m) : Calls Try.prog 19 #[v] w fun e w' => ∃ a c, e = .returned (.slice a m c) ∧ BindsAt w' (.slice a m c) cs ∧ Below w.heap.size w w' := by
  subst hm; exact rbcanon_is v bs cs w h F hc
set_option maxRecDepth 20000 in
set_option maxHeartbeats 4000000 in
theorem rbsame_any (u v : Value) (xs0 bs0 : List Bd) (r : Bool) (w0 : World) (HA0 : BindsAt w0 u xs0) (HB0 : BindsAt w0 v bs0) (FA0 : Fd xs0) (FB0 : Fd bs0) (hr0 : sameB xs0 bs0 = r) : Calls Try.prog 21 #[u, v] w0 fun e w' => e = .returned (.bool r) ∧ Below w0.heap.size w0 w' := by
  obtain ⟨xs, hxs⟩ : ∃ xs, canonB xs0 = xs := ⟨_, rfl⟩
  obtain ⟨bs, hbs⟩ : ∃ bs, canonB bs0 = bs := ⟨_, rfl⟩
  have FA : Fd xs := by rw [← hxs]; exact FA0.canon
  have FB : Fd bs := by rw [← hbs]; exact FB0.canon
  have hr : veryB xs bs = r := by rw [← hxs, ← hbs]; exact hr0
  have hla := FA.len
  have hlb := FB.len
  have GA := hide FA.all
  have GB := hide FB.all
  obtain ⟨m, hm⟩ : ∃ m, xs.length = m := ⟨_, rfl⟩
  obtain ⟨m', hm'⟩ : ∃ m, bs.length = m := ⟨_, rfl⟩
  rw [hm] at hla
  rw [hm'] at hlb
  have Hm := hide hm
  have Hm' := hide hm'
  have Hr := hide hr
  have cA := hide (rbcanon_n u xs0 xs m w0 HA0 FA0 hxs hm)
  have cB := hide (fun W (B : Below w0.heap.size w0 W) => rbcanon_n v bs0 bs m' W (HB0.later B) FB0 hbs hm')
  have T1 : Hid True := trivial
  have T2 : Hid True := trivial
  clear FA FB hm hm' hr HA0 HB0 FA0 FB0 hxs hbs hr0
  by_cases hl : m = m'
  · subst hl
    go_enter Try.func21, Try.ntmps21
    go_wp2_with (first
      | (have z := T1; go_at_call 19; refine cA.out.mono ?_; rintro e w1 ⟨ua, uc, rfl, HA1, b1⟩; clear T1 z)
      | (have z := T2; go_at_call 19; refine (cB.out _ b1).mono ?_; rintro e w ⟨va, vc, rfl, HB, b2⟩; clear T2 z; have HA := HA1.later b2; have B0 := b1.trans (b2.mono b1.size)))
    replace HA := hide HA
    replace HB := hide HB
    clear cA cB HA1 b1 b2
    go_loopw [7] (fun i wr => ∃ q : Nat, q ≤ m ∧ i = .int .i64 q ∧ xs.take q = bs.take q ∧ Below w.heap.size w wr) (fun i _ => m - (intOf i).toNat)
    case atStart => exact ⟨0, Nat.zero_le _, rfl, rfl, Below.refl _ _⟩
    case round =>
      obtain ⟨q, hq, rfl, htk, Bw⟩ := hrel
      by_cases hlt : q < m
      · have hqa : q < xs.length := by rw [Hm.out]; exact hlt
        have hqb : q < bs.length := by rw [Hm'.out]; exact hlt
        obtain ⟨b, off, cap, kd, M, S, sl, sp, ea, hb, c0, c1, c2, c3, c4, hv, hM⟩ := (HA.out.later Bw).one q hqa
        obtain ⟨b', off', cap', kd', M', S', sl', sp', eb, hb', d0, d1, d2, d3, d4, hv', hM'⟩ := (HB.out.later Bw).one q hqb
        rw [Hm.out] at ea
        rw [Hm'.out] at eb
        cases ea
        cases eb
        have hsn := take_eq_snoc hqa hqb htk
        have fa := GA.out _ (List.getElem_mem hqa)
        have fb := GB.out _ (List.getElem_mem hqb)
        obtain ⟨x, hx⟩ : ∃ x, xs[q] = x := ⟨_, rfl⟩
        obtain ⟨y, hy⟩ : ∃ y, bs[q] = y := ⟨_, rfl⟩
        have hne : x ≠ y → veryB xs bs = false := by
          intro hxy
          cases hv : veryB xs bs with
          | false => rfl
          | true =>
            have e := (veryB_iff xs bs).1 hv
            subst e
            exact absurd (hx.symm.trans hy) hxy
        rw [hx, hy] at hsn
        rw [hx] at hv hM fa
        rw [hy] at hv' hM' fb
        have hxy := texts_eq hM hM'
        have h0 : (0 : Int) ≤ q := by omega
        have h1 : (q : Int) < m := by omega
        have Hv := hide hv
        have Hv' := hide hv'
        have Fa := hide fa.vl
        have Fb := hide fb.vl
        have Hsn := hide hsn
        have Hne := hide hne
        clear fa fb hsn hne hx hy hv hv' htk hqa hqb
        by_cases hn : x.1 = y.1
        · have hMM : M = M' := same_array (by rw [hM, hM', hn])
          subst hMM
          obtain ⟨t, ht⟩ : ∃ t, veryV x.2 y.2 = t := ⟨_, rfl⟩
          have Ht := hide ht
          cases t with
          | true =>
            have Hnx := hide (Hsn.out.2 (Prod.ext hn ((very_iff _ _).1 ht)))
            have T : Ten wr b (off + q * 5) b' (off' + q * 5) M S M S' kd kd' sl sp sl' sp' := ⟨c0, c1, c2, c3, c4, d0, d1, d2, d3, d4⟩
            clear ht hn hM hM' hxy
            go_wp2
            go_region_held3 (fun W => W.cell? ⟨b, off + q * 5, none⟩ = some (.string M) ∧ W.cell? ⟨b, off + q * 5 + 1, none⟩ = some (.int .i64 kd) ∧ W.cell? ⟨b, off + q * 5 + 2, none⟩ = some (.string S) ∧ W.cell? ⟨b, off + q * 5 + 3, none⟩ = some sl ∧ W.cell? ⟨b, off + q * 5 + 4, none⟩ = some sp ∧
                W.cell? ⟨b', off' + q * 5, none⟩ = some (.string M) ∧ W.cell? ⟨b', off' + q * 5 + 1, none⟩ = some (.int .i64 kd') ∧ W.cell? ⟨b', off' + q * 5 + 2, none⟩ = some (.string S') ∧ W.cell? ⟨b', off' + q * 5 + 3, none⟩ = some sl' ∧ W.cell? ⟨b', off' + q * 5 + 4, none⟩ = some sp') (first | with_reducible exact T.all | with_reducible exact T.drew.all)
              ((go_at_call 13; refine (rvery_any _ _ _ _ true _ (Hv.out.later (b_drew _)) (Hv'.out.later (b_drew _)) (by have := Fa.out.l; omega) (by have := Fa.out.p; omega) (by have := Fb.out.p; omega) Ht.out).mono ?_; rintro e w2 ⟨rfl, bb⟩; replace bb := (b_drew wr).trans (bb.mono (b_drew wr).size); replace T := T.next bb))
            go_wp2
            go_roundw
            case rel => exact ⟨q + 1, by omega, by go_num, Hnx.out, Bw.trans (bb.mono Bw.size)⟩
            case measure => simp [intOf]; omega
          | false =>
            have hf : r = false := by
              rw [← Hr.out]
              refine Hne.out (fun e => ?_)
              rw [e, (very_iff _ _).2 rfl] at ht
              cases ht
            have Hf := hide hf
            clear hf
            have T : Ten wr b (off + q * 5) b' (off' + q * 5) M S M S' kd kd' sl sp sl' sp' := ⟨c0, c1, c2, c3, c4, d0, d1, d2, d3, d4⟩
            clear ht hn hM hM' hxy
            go_wp2
            go_region_held3 (fun W => W.cell? ⟨b, off + q * 5, none⟩ = some (.string M) ∧ W.cell? ⟨b, off + q * 5 + 1, none⟩ = some (.int .i64 kd) ∧ W.cell? ⟨b, off + q * 5 + 2, none⟩ = some (.string S) ∧ W.cell? ⟨b, off + q * 5 + 3, none⟩ = some sl ∧ W.cell? ⟨b, off + q * 5 + 4, none⟩ = some sp ∧
                W.cell? ⟨b', off' + q * 5, none⟩ = some (.string M) ∧ W.cell? ⟨b', off' + q * 5 + 1, none⟩ = some (.int .i64 kd') ∧ W.cell? ⟨b', off' + q * 5 + 2, none⟩ = some (.string S') ∧ W.cell? ⟨b', off' + q * 5 + 3, none⟩ = some sl' ∧ W.cell? ⟨b', off' + q * 5 + 4, none⟩ = some sp') (first | with_reducible exact T.all | with_reducible exact T.drew.all)
              ((go_at_call 13; refine (rvery_any _ _ _ _ false _ (Hv.out.later (b_drew _)) (Hv'.out.later (b_drew _)) (by have := Fa.out.l; omega) (by have := Fa.out.p; omega) (by have := Fb.out.p; omega) Ht.out).mono ?_; rintro e w2 ⟨rfl, bb⟩; replace bb := (b_drew wr).trans (bb.mono (b_drew wr).size); replace T := T.next bb))
            go_wp2
            go_ret
            exact ⟨ret_bool Hf.out.symm, B0.trans ((Bw.trans (bb.mono Bw.size)).mono B0.size)⟩
        · have hf : r = false := by rw [← Hr.out]; exact Hne.out (fun e => hn (by rw [e]))
          have hMf : (M.toList == M'.toList) = false := by rw [hxy]; simp [hn]
          have Hf := hide hf
          clear hf hn hM hM' hxy
          go_wp2
          go_quiet ((fail))
          go_wp2
          go_ret
          exact ⟨ret_bool Hf.out.symm, B0.trans ((Bw.trans ((b_drewN _ nq).mono Bw.size)).mono B0.size)⟩
      · have he : xs = bs := by
          rw [List.take_of_length_le (by rw [Hm.out]; omega), List.take_of_length_le (by rw [Hm'.out]; omega)] at htk
          exact htk
        have hf : r = true := by rw [← Hr.out]; exact (veryB_iff _ _).2 he
        have Hf := hide hf
        clear hf he htk
        go_wp2
        go_ret
        exact ⟨ret_bool Hf.out.symm, B0.trans (Bw.mono B0.size)⟩
  · have hf : r = false := by
      rw [← Hr.out]
      cases hv : veryB xs bs with
      | false => rfl
      | true =>
        have e := (veryB_iff xs bs).1 hv
        subst e
        exact absurd (Hm.out.symm.trans Hm'.out) hl
    have hlf : ((m : Int) == (m' : Int)) = false := by rw [beq_eq_false_iff_ne]; omega
    have Hf := hide hf
    clear hf
    go_enter Try.func21, Try.ntmps21
    go_wp2_with (first
      | (have z := T1; go_at_call 19; refine cA.out.mono ?_; rintro e w1 ⟨ua, uc, rfl, HA1, b1⟩; clear T1 z)
      | (have z := T2; go_at_call 19; refine (cB.out _ b1).mono ?_; rintro e w ⟨va, vc, rfl, HB, b2⟩; clear T2 z; have B0 := b1.trans (b2.mono b1.size)))
    go_ret
    exact ⟨ret_bool Hf.out.symm, B0⟩
end Go.Proofs.Ytgnccmmbpgnamaa
