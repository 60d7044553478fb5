/-
  WALKS: the program's same, slices.EqualFunc, the program's Same (layer 9).
-/
import Derived.Test.YtgnccmmbpgnamaaG6
namespace Go.Proofs.Ytgnccmmbpgnamaa
open Go.RowKit

/-- two variables' boxes -/
structure Tb (w W : World) (x y : Array Value) : Prop where
  bel : Below w.heap.size w W
  fst : Bx W w.heap.size x 41
  snd : Bx W (w.heap.size + 1) y 41
theorem Tb.made (w : World) (x y : Array Value) : Tb w ((w.alloc (.cells x 41)).alloc (.cells y 41)) x y := by
  refine ⟨((Below.refl _ _).alloc (Nat.le_refl _) _).alloc (by simp) _, (Bx.made _ _ _).later _, ?_⟩
  have := Bx.made (w.alloc (.cells x 41)) y 41
  simpa using this
def sameD (x y : Bd) : Bool := decide (x.1 = y.1) && sameV x.2 y.2
set_option maxRecDepth 20000 in
set_option maxHeartbeats 4000000 in
theorem psame_one (M S M' S' : ByteArray) (kd kd' : Int) (a1 a2 b1 b2 : Option Addr) (n1 n2 m1 m2 c1 c2 d1 d2 : Nat) (x y : Bd) (r : Bool) (w : World) (hM : M.data.toList = x.1) (hM' : M'.data.toList = y.1)
    (hv : VlAt w (.agg #[.int .i64 kd, .string S, .slice a1 n1 c1, .slice a2 n2 c2]) x.2) (hv' : VlAt w (.agg #[.int .i64 kd', .string S', .slice b1 m1 d1, .slice b2 m2 d2]) y.2) (Fx : FewV x.2) (Fy : FewV y.2) (hr : sameD x y = r) :
    Calls Try.prog 33 #[.agg #[.string M, .int .i64 kd, .string S, .slice a1 n1 c1, .slice a2 n2 c2], .agg #[.string M', .int .i64 kd', .string S', .slice b1 m1 d1, .slice b2 m2 d2]] w fun e w' => e = .returned (.bool r) ∧ Below w.heap.size w w' := by
  have T := Tb.made w #[.string M, .int .i64 kd, .string S, .slice a1 n1 c1, .slice a2 n2 c2] #[.string M', .int .i64 kd', .string S', .slice b1 m1 d1, .slice b2 m2 d2]
  have ht := texts_eq hM hM'
  have B := T.bel
  have hv2 := hide (hv.later T.bel)
  have hv2' := hide (hv'.later T.bel)
  obtain ⟨x0, x1, x2, x3, x4⟩ := cells5 T.fst
  obtain ⟨y0, y1, y2, y3, y4⟩ := cells5 T.snd
  unfold sameD at hr
  clear T hv hv' hM hM'
  by_cases hn : x.1 = y.1
  · rw [decide_eq_true hn] at ht
    rw [decide_eq_true hn, Bool.true_and] at hr
    have Hr := hide hr
    clear hr hn
    go_enter Try.func33, Try.ntmps33
    go_wp2_with (go_at_call 44; refine (same_few _ _ x.2 y.2 r _ hv2.out hv2'.out Fx Fy Hr.out).mono ?_; rintro e w2 ⟨rfl, bb⟩)
    go_ret
    exact ⟨rfl, B.trans (bb.mono B.size)⟩
  · rw [decide_eq_false hn] at ht
    rw [decide_eq_false hn, Bool.false_and] at hr
    subst hr
    clear hn
    go_enter Try.func33, Try.ntmps33
    go_wp2
    go_ret
    exact ⟨rfl, B⟩
set_option maxRecDepth 20000 in
set_option maxHeartbeats 4000000 in
/-- slices.EqualFunc, by same, of canonical variables -/
theorem equal_any (u v : Value) (xs bs : List Bd) (r : Bool) (w : World) (HA : BindsAt w u xs) (HB : BindsAt w v bs) (FA : Fd xs) (FB : Fd bs) (CA : ∀ b ∈ xs, canonV b.2 = b.2) (CB : ∀ b ∈ bs, canonV b.2 = b.2) (hr : veryB xs bs = r) : Calls Try.prog 32 #[u, v, .func (.func 33) #[] #[]] w fun e w' => e = .returned (.bool r) ∧ Below w.heap.size w w' := by
  obtain ⟨ua, uc, rfl⟩ := HA.form
  obtain ⟨va, vc, rfl⟩ := HB.form
  have eg : ∀ args w, (callFunc 33 args).run Try.prog w = .ok (.enter 33 args) w := enters_of Try.func33 (by kernel_rfl) rfl
  have hla := FA.len
  have hlb := FB.len
  have GA := hide FA.all
  have GB := hide FB.all
  have CA := hide CA
  have CB := hide CB
  obtain ⟨m, hm⟩ : ∃ m, xs.length = m := ⟨_, rfl⟩
  obtain ⟨m', hm'⟩ : ∃ m, bs.length = m := ⟨_, rfl⟩
  rw [hm] at HA hla ⊢
  rw [hm'] at HB hlb ⊢
  have Hm := hide hm
  have Hm' := hide hm'
  have HA := hide HA
  have HB := hide HB
  have Hr := hide hr
  clear FA FB hm hm' hr
  by_cases hl : m = m'
  · subst hl
    go_enter Try.func32, Try.ntmps32
    go_wp2
    go_loopw [17] (fun i wr => ∃ q : Nat, q ≤ m ∧ i = .int .i64 q ∧ xs.take q = bs.take q ∧ Below w.heap.size w wr) (fun i _ => m - (intOf i).toNat)
    case atStart => exact ⟨0, Nat.zero_le _, rfl, rfl, Below.refl _ _⟩
    case round =>
      obtain ⟨q, hq, rfl, htk, Bw⟩ := hrel
      by_cases hlt : q < m
      · have hqa : q < xs.length := by rw [Hm.out]; exact hlt
        have hqb : q < bs.length := by rw [Hm'.out]; exact hlt
        obtain ⟨b, off, cap, kd, M, S, a1, n1, k1, a2, n2, k2, ea, hb, c0, c1, c2, c3, c4, hv, hM⟩ := (HA.out.later Bw).open q hqa
        obtain ⟨b', off', cap', kd', M', S', a1', n1', k1', a2', n2', k2', eb, hb', d0, d1, d2, d3, d4, hv', hM'⟩ := (HB.out.later Bw).open q hqb
        rw [Hm.out] at ea
        rw [Hm'.out] at eb
        cases ea
        cases eb
        have hsn := take_eq_snoc hqa hqb htk
        have fa := (GA.out _ (List.getElem_mem hqa)).vl
        have fb := (GB.out _ (List.getElem_mem hqb)).vl
        have hsv := same_very (CA.out _ (List.getElem_mem hqa)) (CB.out _ (List.getElem_mem hqb))
        obtain ⟨x, hx⟩ : ∃ x, xs[q] = x := ⟨_, rfl⟩
        obtain ⟨y, hy⟩ : ∃ y, bs[q] = y := ⟨_, rfl⟩
        have hne : x ≠ y → veryB xs bs = false := by
          intro hxy
          cases hv : veryB xs bs with
          | false => rfl
          | true =>
            have e := (veryB_iff xs bs).1 hv
            subst e
            exact absurd (hx.symm.trans hy) hxy
        rw [hx, hy] at hsn hsv
        rw [hx] at hv hM fa
        rw [hy] at hv' hM' fb
        have hsd : sameD x y = true ↔ x = y := by
          unfold sameD
          rw [hsv, Bool.and_eq_true, decide_eq_true_eq, very_iff]
          exact ⟨fun h => Prod.ext h.1 h.2, fun h => by rw [h]; exact ⟨rfl, rfl⟩⟩
        have T := Tb.made wr #[.string M, .int .i64 kd, .string S, .slice a1 n1 k1, .slice a2 n2 k2] #[.string M', .int .i64 kd', .string S', .slice a1' n1' k1', .slice a2' n2' k2']
        have bA := b_alloc wr (.cells #[.string M, .int .i64 kd, .string S, .slice a1 n1 k1, .slice a2 n2 k2] 41)
        have e0 := (bA.cell (p := ⟨b', _, none⟩) hb').trans d0
        have e1 := (bA.cell (p := ⟨b', _, none⟩) hb').trans d1
        have e2 := (bA.cell (p := ⟨b', _, none⟩) hb').trans d2
        have e3 := (bA.cell (p := ⟨b', _, none⟩) hb').trans d3
        have e4 := (bA.cell (p := ⟨b', _, none⟩) hb').trans d4
        obtain ⟨x0, x1, x2, x3, x4⟩ := cells5 T.fst
        obtain ⟨y0, y1, y2, y3, y4⟩ := cells5 T.snd
        have Bt := T.bel
        have Hv := hide (hv.later T.bel)
        have Hv' := hide (hv'.later T.bel)
        have HM := hide hM
        have HM' := hide hM'
        have Fa := hide fa
        have Fb := hide fb
        have h0 : (0 : Int) ≤ q := by omega
        have h1 : (q : Int) < m := by omega
        obtain ⟨t, ht⟩ : ∃ t, sameD x y = t := ⟨_, rfl⟩
        have Ht := hide ht
        cases t with
        | true =>
          have Hnx := hide (hsn.2 (hsd.1 ht))
          clear hsn hsv hsd hne hx hy hv hv' hM hM' htk hqa hqb fa fb T bA d0 d1 d2 d3 d4 ht
          go_wp2_with (go_at_fn 33; refine (psame_one M S M' S' kd kd' a1 a2 a1' a2' n1 n2 n1' n2' k1 k2 k1' k2' x y true _ HM.out HM'.out Hv.out Hv'.out Fa.out Fb.out Ht.out).mono ?_; rintro e w2 ⟨rfl, bb⟩; replace bb := Bt.trans (bb.mono Bt.size))
          go_roundw
          case rel => exact ⟨q + 1, by omega, by go_num, Hnx.out, Bw.trans (bb.mono Bw.size)⟩
          case measure => simp [intOf]; omega
        | false =>
          have hf : r = false := by
            rw [← Hr.out]
            refine hne (fun e => ?_)
            rw [hsd.2 e] at ht
            cases ht
          have Hf := hide hf
          clear hsn hsv hsd hne hx hy hv hv' hM hM' htk hqa hqb fa fb T bA d0 d1 d2 d3 d4 ht hf
          go_wp2_with (go_at_fn 33; refine (psame_one M S M' S' kd kd' a1 a2 a1' a2' n1 n2 n1' n2' k1 k2 k1' k2' x y false _ HM.out HM'.out Hv.out Hv'.out Fa.out Fb.out Ht.out).mono ?_; rintro e w2 ⟨rfl, bb⟩; replace bb := Bt.trans (bb.mono Bt.size))
          go_ret
          exact ⟨ret_bool Hf.out.symm, Bw.trans (bb.mono Bw.size)⟩
      · have he : xs = bs := by
          rw [List.take_of_length_le (by rw [Hm.out]; omega), List.take_of_length_le (by rw [Hm'.out]; omega)] at htk
          exact htk
        have hf : r = true := by rw [← Hr.out]; exact (veryB_iff _ _).2 he
        have Hf := hide hf
        clear hf he htk
        go_wp2
        go_ret
        exact ⟨ret_bool Hf.out.symm, Bw⟩
  · have hf : r = false := by
      rw [← Hr.out]
      cases hv : veryB xs bs with
      | false => rfl
      | true =>
        have e := (veryB_iff xs bs).1 hv
        subst e
        exact absurd (Hm.out.symm.trans Hm'.out) hl
    have hlf : ((m : Int) == (m' : Int)) = false := by rw [beq_eq_false_iff_ne]; omega
    have Hf := hide hf
    clear hf
    go_enter Try.func32, Try.ntmps32
    go_wp2
    go_ret
    exact ⟨ret_bool Hf.out.symm, Below.refl _ _⟩
theorem pbcanon_is (v : Value) (bs cs : List Bd) (w : World) (h : BindsAt w v bs) (F : Fd bs) (hc : canonB bs = cs) : Calls Try.prog 18 #[v] w fun e w' => BindsPost w cs e w' := by
  subst hc; exact pbcanon_any v bs w h F
theorem psame_any (u v : Value) (xs bs : List Bd) (r : Bool) (w : World) (HA : BindsAt w u xs) (HB : BindsAt w v bs) (FA : Fd xs) (FB : Fd bs) (hr : sameB xs bs = r) : Calls Try.prog 20 #[u, v] w fun e w' => e = .returned (.bool r) ∧ Below w.heap.size w w' := by
  have HA0 := hide HA
  have HB0 := hide HB
  obtain ⟨ua, uc, rfl⟩ := HA.form
  obtain ⟨va, vc, rfl⟩ := HB.form
  have T1 : Hid True := trivial
  have T2 : Hid True := trivial
  clear HA HB
  go_enter Try.func20, Try.ntmps20
  go_wp2_with (first
    | (have z := T1; go_at_call 18; refine (pbcanon_any _ xs _ HA0.out FA).mono ?_; rintro e w1 ⟨a1, c1, rfl, h1, b1⟩; clear T1 z)
    | (have z := T2; go_at_call 18; refine (pbcanon_any _ bs _ (HB0.out.later b1) FB).mono ?_; rintro e w2 ⟨a2, c2, rfl, h2, b2⟩; clear T2 z)
    | (go_at_call 32; refine (equal_any _ _ _ _ r _ (h1.later b2) h2 FA.canon FB.canon (fun b hb => (canon_all hb).1) (fun b hb => (canon_all hb).1) hr).mono ?_; rintro e w3 ⟨rfl, b3⟩))
  go_ret
  exact ⟨rfl, b1.trans ((b2.trans (b3.mono b2.size)).mono b1.size)⟩
end Go.Proofs.Ytgnccmmbpgnamaa
