/-
  Joined by program out of the texts H6 H8.
-/
import Derived.Test.YtjbnofljoijnmaaDoorY24
import Derived.Test.YtjbnofljoijnmaaDoorY18
import Derived.Defers
import Derived.Recover
import Derived.Laws.Pointers
/-
  WALKS: the program's reader of layer 7: templates.
-/
namespace Go.Proofs.YtjbnofljoijnmaaDoor
open Go.RowKit Go.Lib

theorem TySp.ne {W : World} {a : Addr} {n c b p : Nat} {s : ByteArray} (h : TySp W (.slice (some a) n c)) (hr : Rd W b s p) : a.block ≠ b := by
  intro e
  obtain ⟨cur, fr, hc⟩ := h a n c rfl
  unfold Rd Bx at hr
  rw [e, hr] at hc
  have := congrArg (fun o : Option Obj => match o with | some (.cells _ t _) => t | _ => 0) hc
  simp at this
theorem Held.moved {W W' : World} {b p : Nat} {s : ByteArray} {ps : List (Pt × Value)} (h : Held W ps) (hr : Rd W b s p) (m : Mv b W W') : Held W' ps := by
  intro x hx
  obtain ⟨h1, h2⟩ := h x hx
  constructor
  · rcases h1 with h1 | ⟨hp1, g, off, cap, e, hc⟩
    · exact .inl h1
    · refine .inr ⟨hp1, g, off, cap, e, fun k hk => ?_⟩
      rw [e] at h2
      have hne : g ≠ b := h2.ne hr
      have hl : g < W.heap.size := lt_of_cell (hc 0 hp1).1
      have hb : ∀ j, W'.cell? ⟨g, j, none⟩ = W.cell? ⟨g, j, none⟩ := fun j => World.cell?_of_block (m.kept g hl hne)
      rw [hb, hb, hb]
      exact hc k hk
  · intro a n c e
    obtain ⟨cur, fr, hc⟩ := h2 a n c e
    rw [e] at h2
    exact ⟨cur, fr, (m.kept a.block (lt_of_block hc) (h2.ne hr)).trans hc⟩
/-- what reading a template comes to -/
def TmplPost (b : Nat) (s : ByteArray) (w : World) (e : Ending) (w' : World) : Prop :=
  Mv b w w' ∧ match isT s.data.toList with
  | some ts => ∃ a c ps, e = .returned (.slice a ts.length c) ∧ ps.map (·.1) = ts ∧ w'.ownsRow w.heap.size 37 3 (.slice a ts.length c) ps.length (ptsV ps) ∧ Held w' ps
  | none => e = fault (badT s.data.toList)
theorem tmpl_none {b : Nat} {s : ByteArray} {w w' : World} {n : Nat} (h : isT s.data.toList = none) (hn : badT s.data.toList = n) (m : Mv b w w') : TmplPost b s w (fault n) w' := by
  refine ⟨m, ?_⟩
  rw [h, hn]
theorem tmpl_some {b : Nat} {s : ByteArray} {w w' : World} {a : Option Addr} {c : Nat} {ps : List (Pt × Value)} (h : isT s.data.toList = some (ps.map (·.1))) (m : Mv b w w') (ho : w'.ownsRow w.heap.size 37 3 (.slice a ps.length c) ps.length (ptsV ps)) (hh : Held w' ps) : TmplPost b s w (.returned (.slice a ps.length c)) w' := by
  refine ⟨m, ?_⟩
  rw [h]
  exact ⟨a, c, ps, by rw [List.length_map], rfl, by rw [List.length_map]; exact ho, hh⟩
/-- what a template that is read holds in memory -/
structure Tx (w W : World) (b q : Nat) (s : ByteArray) (v : Value) (ps : List (Pt × Value)) : Prop where
  mv : Mv b w W
  rd : Rd W b s q
  own : W.ownsRow w.heap.size 37 3 v ps.length (ptsV ps)
  held : Held W ps
  lt : b < w.heap.size
section
variable {w W W' : World} {b q q' : Nat} {s : ByteArray} {v v' : Value} {ps : List (Pt × Value)} {x : Pt × Value}
theorem Tx.le (h : Tx w W b q s v ps) : w.heap.size ≤ W.heap.size := by
  apply Classical.byContradiction
  intro hn
  have h1 := h.rd.lt
  have h2 := h.lt
  have h3 : W.heap.size < w.heap.size := by omega
  have h4 := h.mv.kept W.heap.size h3 (by omega)
  rw [Array.getElem?_eq_none (Nat.le_refl _), Array.getElem?_eq_getElem h3] at h4
  cases h4
theorem Tx.next (h : Tx w W b q s v ps) (bb : Below W.heap.size W W') : Tx w W' b q s v ps :=
  ⟨h.mv.trans (Mv.of bb h.rd.lt), h.rd.next bb, own_later h.own bb, h.held.later bb, h.lt⟩
theorem Tx.moved (h : Tx w W b q s v ps) (m : Mv b W W') (r : Rd W' b s q') : Tx w W' b q' s v ps :=
  ⟨h.mv.trans m, r, own_moved h.own m h.lt, h.held.moved h.rd m, h.lt⟩
theorem Tx.alloc (h : Tx w W b q s v ps) (o : Obj) : Tx w (W.alloc o) b q s v ps := h.next ((Below.refl _ _).alloc (Nat.le_refl _) _)
/-- a part more -/
theorem Tx.snoc (h : Tx w W b q s v ps) (h1 : SpecsAt W x.2 x.1.specs) (h2 : TySp W x.2) (hg : W.grownBy W' v.ownBlock) (ho : W'.ownsRow w.heap.size 37 3 v' (ps.length + 1) (ptsV ps ++ ptV x)) : Tx w W' b q s v' (ps ++ [x]) := by
  have hl := h.lt
  have hr : ∀ i, i < w.heap.size → some i ≠ v.ownBlock := fun i hi e => by have := (h.own.lt i e.symm).1; omega
  have hb : ∀ i, i < w.heap.size → W'.heap[i]? = W.heap[i]? := fun i hi => hg.block i (by have := h.le; omega) (hr i hi)
  refine ⟨⟨h.mv.bel.grown hg (by have := h.rd.lt; omega) (fun j hj => by have := (h.own.lt j hj).1; omega), fun i hi hn => (hb i hi).trans (h.mv.kept i hi hn)⟩, (hb b hl).trans h.rd, ?_, (h.held.snoc h1 h2).grown h.own hg, hl⟩
  rw [List.length_append, ptsV_snoc]
  exact ho
end
set_option maxRecDepth 20000 in
set_option maxHeartbeats 4000000 in
theorem template_any (b : Nat) (s : ByteArray) (w w0 : World) (R : Rans w0) (h0 : w0.heap.size ≤ b) (B0 : Below w0.heap.size w0 w) (hr : Rd w b s 0) (hs : s.size ≤ 1000000) :
    Calls Tryd.prog 22 #[.pointer (some ⟨b, 0, none⟩)] w fun e w' => TmplPost b s w e w' := by
  obtain ⟨i0, hi, hz0, hz1, hz2⟩ := info_parts info45
  have T0 : Tx w w b 0 s (.slice none 0 0) [] := ⟨Mv.refl _ _, hr, World.ownsRow_nil _ _ _ _, fun p hp => by (cases hp), hr.lt⟩
  obtain ⟨res, eres⟩ : ∃ res, isT s.data.toList = res := ⟨_, rfl⟩
  obtain ⟨G, hG0⟩ : ∃ G, badT s.data.toList = G := ⟨_, rfl⟩
  have Eres := hide eres
  have HG0 := hide hG0
  have start : res = (isT (s.data.toList.drop 0)).map (([] : List (Pt × Value)).map (·.1) ++ ·) ∧ G = 0 + goT outT (s.data.toList.drop 0) := by
    rw [List.drop_zero, eres]
    refine ⟨by simp, ?_⟩
    rw [← hG0, Nat.zero_add]; rfl
  have Hst := hide start
  have HT0 := hide T0
  clear eres hG0 start T0 hr
  go_enter Tryd.func22, Tryd.ntmps22
  go_wp2
  go_loopw [3] (fun v wr => ∃ (q : Nat) (ps : List (Pt × Value)) (va : Option Addr) (vc : Nat), v = .slice va ps.length vc ∧ q ≤ s.size ∧ ps.length ≤ q ∧ res = (isT (s.data.toList.drop q)).map (ps.map (·.1) ++ ·) ∧ G = q + goT outT (s.data.toList.drop q) ∧ Tx w wr b q s (.slice va ps.length vc) ps) (fun _ wr => s.size - posAt wr b)
  case atStart => exact ⟨0, [], none, 0, rfl, Nat.zero_le _, Nat.le_refl _, Hst.out.1, Hst.out.2, HT0.out⟩
  case round =>
    clear Hst HT0
    obtain ⟨q, ps, va, vc, rfl, hqs, hps, hres, hG, E⟩ := hrel
    have hpos := E.rd.pos
    obtain ⟨L, hL⟩ : ∃ L : ByteArray, L.data.toList = s.data.toList.drop q := ⟨⟨(s.data.toList.drop q).toArray⟩, rfl⟩
    have hLs : L.size = s.size - q := by rw [size_list, hL, List.length_drop, ← size_list]
    have HL := hide hL
    have T0 : Hid True := trivial
    have T1 : Hid True := trivial
    by_cases hq : q < s.size
    · have hL0 : 0 < L.size := by omega
      have hE := eq_some L hL0
      have hone := list_one L hL0
      by_cases h123 : L[0] = 123
      · have hc : ((L[0].toNat : Int) == 123) = true := by rw [h123]; rfl
        rw [h123, hL] at hone
        have eany : Hid (∀ W, Below w0.heap.size w0 W → Rd W b s q → Calls Tryd.prog 32 #[.pointer (some ⟨b, 0, none⟩)] W fun e w' => ExprPost b s q W e w') := fun W hB hW => expression_any b s q W w0 R h0 hB hW hs _ hone
        have Hres := hide hres
        have HGq := hide hG
        have HE := hide E
        clear hone hL hres hG E h123
        go_wp2_with (first
          | (go_at_call 31; have z := T0; refine (left_any b s L q _ HE.out.rd hqs HL.out).mono ?_; rintro e w1 ⟨rfl, bb⟩; have E1 := HE.out.next bb; clear T0 z bb)
          | (go_at_call 31; have z := T1; refine (left_any b s L q _ E1.rd hqs HL.out).mono ?_; rintro e w2 ⟨rfl, bb⟩; have E2 := E1.next bb; clear T1 z bb))
        go_at_call 32
        refine (eany.out _ (B0.trans (E2.mv.bel.mono h0)) E2.rd).mono ?_
        rintro e w3 ⟨m3, ⟨hn, he⟩ | ⟨x, q', a, c, h1, h2, h3, h4, h5, he, h6, h7, h8⟩⟩
        · have hr2 : isT s.data.toList = none := by rw [Eres.out, Hres.out, hn]; rfl
          rw [← HGq.out] at he
          have Hr2 := hide hr2
          have M3 := E2.mv.trans m3
          unfold fault at he
          subst he
          clear hr2 hn
          go_wp2
          exact ⟨rfl, tmpl_none Hr2.out HG0.out M3⟩
        · subst he
          have hr2 : res = (isT (s.data.toList.drop q')).map ((ps ++ [(x, Value.slice a x.specs.length c)]).map (·.1) ++ ·) := by
            rw [Hres.out, h4]
            cases isT (s.data.toList.drop q') <;> simp
          have hG2 : G = q' + goT outT (s.data.toList.drop q') := by rw [HGq.out]; exact h5
          have hpv : ptV (x, Value.slice a x.specs.length c) = [.string ⟨#[]⟩, .int .u8 (x.op.toNat : Int), .slice a x.specs.length c] := by unfold ptV; rw [h3]
          have E3 := E2.moved m3 h8
          have Hr2 := hide hr2
          have HG2 := hide hG2
          have Hpv := hide hpv
          have H6 := hide h6
          have H7 := hide h7
          have HE3 := hide E3
          clear hr2 hG2 hpv h3 h4 h5 h6 h7 h8 E1 E2 E3 m3 HE Hres HGq
          go_wp2_with (at_builtin; refine wpList_append_lies _ rfl _ _ 22 rfl w.heap.size 37 i0 (.agg #[.string ⟨#[]⟩, .int .u8 0, .slice none 0 0]) 3 48 Tryd.underlying22 hi hz0 hz1 hz2 rfl (by decide) (.slice va ps.length vc) ps.length (ptsV ps) rfl (HE3.out.alloc (.cells #[.string ⟨#[]⟩, .int .u8 (x.op.toNat : Int), .slice a x.specs.length c] 37)).own ⟨w3.heap.size, 0, none⟩ 1 1 [.string ⟨#[]⟩, .int .u8 (x.op.toNat : Int), .slice a x.specs.length c] rfl rfl ?c1 ?c2 (by decide) ?c3 ?c4 ?c5 _ rfl ?_)
          case c1 =>
            intro j u hj
            match j, hj with
            | 0, hj => simp at hj; subst hj; simp [Addr.add]
            | 1, hj => simp at hj; subst hj; simp [Addr.add]
            | 2, hj => simp at hj; subst hj; simp [Addr.add]
          case c2 => intro u hu; simp at hu; rcases hu with rfl | rfl | rfl <;> rfl
          case c3 => unfold maxLen; omega
          case c4 => omega
          case c5 => have := HE3.out.le; simp; omega
          intro g cap w4 hown hgrow hat hlt
          have bal : Below w3.heap.size w3 (w3.alloc (.cells #[.string ⟨#[]⟩, .int .u8 (x.op.toNat : Int), .slice a x.specs.length c] 37)) := (Below.refl _ _).alloc (Nat.le_refl _) _
          have E4 := (HE3.out.alloc (.cells #[.string ⟨#[]⟩, .int .u8 (x.op.toNat : Int), .slice a x.specs.length c] 37)).snoc (x := (x, .slice a x.specs.length c)) (H6.out.later bal) (H7.out.later bal) hgrow (by rw [Hpv.out]; exact hown)
          have HE4 := hide E4
          have hns : (ps ++ [(x, Value.slice a x.specs.length c)]).length = ps.length + 1 := by simp
          clear hown hgrow hat hlt E4 bal
          have hp4 := HE4.out.rd.pos
          go_wp2
          go_roundw
          case rel => exact ⟨q', ps ++ [(x, .slice a x.specs.length c)], some ⟨g, 0, none⟩, cap, by rw [hns], h2, by omega, Hr2.out, HG2.out, by rw [hns]; exact HE4.out⟩
          case measure => rw [hp4, hpos]; omega
      · have hc : ((L[0].toNat : Int) == 123) = false := by
          have : L[0].toNat ≠ 123 := fun e => h123 (UInt8.toNat_inj.1 e)
          simp; omega
        rw [hL] at hone
        have hnb : ∀ t, s.data.toList.drop q ≠ 123 :: t := by
          intro t e
          rw [hone] at e
          exact h123 (List.cons.inj e).1
        have hne : s.data.toList.drop q ≠ [] := by rw [hone]; simp
        have hlit := isT_lit hne hnb
        have hgo := lit_go (s.data.toList.drop q)
        have hll := litLen_le (s.data.toList.drop q)
        rw [List.length_drop, ← size_list] at hll
        have lany := fun W (RW : Rans W) (hW : Rd W b s q) => literal_any b s q W RW hW hq hs hnb
        unfold LitPost at lany
        obtain ⟨n, hn⟩ : ∃ n, litLen (s.data.toList.drop q) = n := ⟨_, rfl⟩
        rw [hn] at hlit hgo hll lany
        by_cases hn0 : n = 0
        · have hr2 : isT s.data.toList = none := by rw [Eres.out, hres, hlit, if_pos hn0]; rfl
          have lany2 : Hid (∀ W, Rans W → Rd W b s q → Calls Tryd.prog 33 #[.pointer (some ⟨b, 0, none⟩)] W fun e w' => e = fault G ∧ Mv b W w') := by
            intro W RW hW
            refine (lany W RW hW).mono ?_
            rintro e w' ⟨m, he⟩
            rw [if_pos hn0] at he
            exact ⟨by rw [he, hG], m⟩
          have Hr2 := hide hr2
          have HE := hide E
          clear hone hL hres hG E h123 hnb hne hlit hgo hll lany hn hr2
          go_wp2_with (first
            | (go_at_call 31; have z := T0; refine (left_any b s L q _ HE.out.rd hqs HL.out).mono ?_; rintro e w1 ⟨rfl, bb⟩; have E1 := HE.out.next bb; clear T0 z bb)
            | (go_at_call 31; have z := T1; refine (left_any b s L q _ E1.rd hqs HL.out).mono ?_; rintro e w2 ⟨rfl, bb⟩; have E2 := E1.next bb; clear T1 z bb)
            | (go_at_call 33; refine (lany2.out _ (R.next (B0.trans (E2.mv.bel.mono h0))) E2.rd).mono ?_; rintro e w3 ⟨he, m3⟩; unfold fault at he; subst he))
          exact ⟨rfl, tmpl_none Hr2.out HG0.out (E2.mv.trans m3)⟩
        · obtain ⟨P, hP⟩ : ∃ P : ByteArray, (⟨((s.data.toList.drop q).take n).toArray⟩ : ByteArray) = P := ⟨_, rfl⟩
          have hPl : P.data.toList = (s.data.toList.drop q).take n := by rw [← hP]
          rw [hP] at lany
          have lany2 : Hid (∀ W, Rans W → Rd W b s q → Calls Tryd.prog 33 #[.pointer (some ⟨b, 0, none⟩)] W fun e w' => e = .returned (.agg #[.string P, .int .u8 0, .slice none 0 0]) ∧ Mv b W w' ∧ Rd w' b s (q + n)) := by
            intro W RW hW
            refine (lany W RW hW).mono ?_
            rintro e w' ⟨m, he⟩
            rw [if_neg hn0] at he
            exact ⟨he.1, m, he.2⟩
          have hdd : (s.data.toList.drop q).drop n = s.data.toList.drop (q + n) := by rw [List.drop_drop]
          rw [hdd] at hlit hgo
          rw [if_neg hn0, ← hPl] at hlit
          have hr2 : res = (isT (s.data.toList.drop (q + n))).map ((ps ++ [((⟨P.data.toList, 0, []⟩ : Pt), Value.slice none 0 0)]).map (·.1) ++ ·) := by
            rw [hres, hlit]
            cases isT (s.data.toList.drop (q + n)) <;> simp
          have hG2 : G = q + n + goT outT (s.data.toList.drop (q + n)) := by rw [hG, hgo]; omega
          have hpv : ptV ((⟨P.data.toList, 0, []⟩ : Pt), Value.slice none 0 0) = [.string P, .int .u8 0, .slice none 0 0] := rfl
          have hqn : q + n ≤ s.size := by omega
          have hn1 : 0 < n := by omega
          have Hr2 := hide hr2
          have HG2 := hide hG2
          have Hpv := hide hpv
          have HE := hide E
          clear hone hL hres hG E h123 hnb hne hlit hgo hll lany hn hr2 hG2 hpv hP hPl hdd hn0
          go_wp2_with (first
            | (go_at_call 31; have z := T0; refine (left_any b s L q _ HE.out.rd hqs HL.out).mono ?_; rintro e w1 ⟨rfl, bb⟩; have E1 := HE.out.next bb; clear T0 z bb)
            | (go_at_call 31; have z := T1; refine (left_any b s L q _ E1.rd hqs HL.out).mono ?_; rintro e w2 ⟨rfl, bb⟩; have E2 := E1.next bb; clear T1 z bb)
            | (go_at_call 33; refine (lany2.out _ (R.next (B0.trans (E2.mv.bel.mono h0))) E2.rd).mono ?_; rintro e w3 ⟨rfl, m3, h8⟩; have HE3 := hide (E2.moved m3 h8); clear E1 E2 m3 h8 HE)
            | (at_builtin; refine wpList_append_lies _ rfl _ _ 22 rfl w.heap.size 37 i0 (.agg #[.string ⟨#[]⟩, .int .u8 0, .slice none 0 0]) 3 48 Tryd.underlying22 hi hz0 hz1 hz2 rfl (by decide) (.slice va ps.length vc) ps.length (ptsV ps) rfl (HE3.out.alloc (.cells #[.string P, .int .u8 0, .slice none 0 0] 37)).own ⟨w3.heap.size, 0, none⟩ 1 1 [.string P, .int .u8 0, .slice none 0 0] rfl rfl ?c1 ?c2 (by decide) ?c3 ?c4 ?c5 _ rfl ?_))
          case c1 =>
            intro j u hj
            match j, hj with
            | 0, hj => simp at hj; subst hj; simp [Addr.add]
            | 1, hj => simp at hj; subst hj; simp [Addr.add]
            | 2, hj => simp at hj; subst hj; simp [Addr.add]
          case c2 => intro u hu; simp at hu; rcases hu with rfl | rfl | rfl <;> rfl
          case c3 => unfold maxLen; omega
          case c4 => omega
          case c5 => have := HE3.out.le; simp; omega
          intro g cap w4 hown hgrow hat hlt
          have E4 := (HE3.out.alloc (.cells #[.string P, .int .u8 0, .slice none 0 0] 37)).snoc (x := ((⟨P.data.toList, 0, []⟩ : Pt), .slice none 0 0)) (.inl ⟨rfl, none, 0, rfl⟩) (TySp.none _) hgrow (by rw [Hpv.out]; exact hown)
          have HE4 := hide E4
          have hns : (ps ++ [((⟨P.data.toList, 0, []⟩ : Pt), Value.slice none 0 0)]).length = ps.length + 1 := by simp
          clear hown hgrow hat hlt E4
          have hp4 := HE4.out.rd.pos
          go_wp2
          go_roundw
          case rel => exact ⟨q + n, ps ++ [((⟨P.data.toList, 0, []⟩ : Pt), .slice none 0 0)], some ⟨g, 0, none⟩, cap, by rw [hns], hqn, by omega, Hr2.out, HG2.out, by rw [hns]; exact HE4.out⟩
          case measure => rw [hp4, hpos]; omega
    · have hL0 : ¬ 0 < L.size := by omega
      have hE := eq_none L hL0
      have hqe : s.data.toList.drop q = [] := by rw [← hL]; exact list_none L hL0
      have hr2 : isT s.data.toList = some (ps.map (·.1)) := by rw [Eres.out, hres, hqe, isT_nil]; simp
      have Hr2 := hide hr2
      have HE := hide E
      clear hr2 hqe hres hG E hL
      go_wp2_with (go_at_call 31; refine (left_any b s L q _ HE.out.rd hqs HL.out).mono ?_; rintro e w1 ⟨rfl, bb⟩; have E1 := HE.out.next bb; clear bb)
      all_goals go_ret
      all_goals exact tmpl_some Hr2.out E1.mv E1.own E1.held
end Go.Proofs.YtjbnofljoijnmaaDoor

/-
  WALKS: the program's Parse of layer 7: a fault is caught.
-/
namespace Go.Proofs.YtjbnofljoijnmaaDoor
open Go.RowKit Go.Lib

/-- the three named results in memory -/
structure Three (w W : World) (x y z : Value) : Prop where
  bel : Below w.heap.size w W
  x : Bx W w.heap.size #[x] 22
  y : Bx W (w.heap.size + 1) #[y] 3
  z : Bx W (w.heap.size + 1 + 1) #[z] 26
theorem Three.put {w W : World} {x y z : Value} (h : Three w W x y z) (x' y' z' : Value) : Three w (((W.setCell ⟨w.heap.size, 0, none⟩ x').setCell ⟨w.heap.size + 1, 0, none⟩ y').setCell ⟨w.heap.size + 1 + 1, 0, none⟩ z') x' y' z' := by
  refine ⟨((h.bel.setCell (p := ⟨_, 0, none⟩) (Nat.le_refl _) _).setCell (p := ⟨_, 0, none⟩) (by simp) _).setCell (p := ⟨_, 0, none⟩) (by simp; omega) _, ?_, ?_, ?_⟩
  · exact ((h.x.put 0 x').other (by omega) 0 y').other (by omega) 0 z'
  · exact ((h.y.other (by omega) 0 x').put 0 y').other (by omega) 0 z'
  · exact ((h.z.other (by omega) 0 x').other (by omega) 0 y').put 0 z'
theorem Three.drew {w W : World} {x y z : Value} (h : Three w W x y z) : Three w W.drew x y z := ⟨h.bel.drew, h.x, h.y, h.z⟩
theorem Three.moved {w W W' : World} {x y z : Value} (h : Three w W x y z) (m : Mv (w.heap.size + 1 + 1 + 1) W W') : Three w W' x y z :=
  ⟨h.bel.trans (m.bel.mono (by omega)), h.x.moved m (by omega), h.y.moved m (by omega), h.z.moved m (by omega)⟩
theorem Held.put {W : World} {ps : List (Pt × Value)} {k : Nat} {cs : Array Value} {t : TypeId} (h : Held W ps) (hb : Bx W k cs t) (ht : t ≠ 39) (j : Nat) (v : Value) : Held (W.setCell ⟨k, j, none⟩ v) ps := by
  have ne : ∀ a n c, TySp W (.slice (some a) n c) → a.block ≠ k := by
    intro a n c h2 e
    obtain ⟨cur, fr, hc⟩ := h2 a n c rfl
    unfold Bx at hb
    rw [e, hb] at hc
    exact ht (congrArg (fun o : Option Obj => match o with | some (.cells _ t _) => t | _ => 0) hc)
  intro x hx
  obtain ⟨h1, h2⟩ := h x hx
  constructor
  · rcases h1 with h1 | ⟨hp1, g, off, cap, e, hc⟩
    · exact .inl h1
    · refine .inr ⟨hp1, g, off, cap, e, fun q hq => ?_⟩
      rw [e] at h2
      have hne : g ≠ k := ne _ _ _ h2
      have hbb : ∀ i, (W.setCell ⟨k, j, none⟩ v).cell? ⟨g, i, none⟩ = W.cell? ⟨g, i, none⟩ := fun i => World.cell?_of_block (heap_setCell_other _ _ _ _ hne)
      rw [hbb, hbb, hbb]
      exact hc q hq
  · intro a n c e
    obtain ⟨cur, fr, hc⟩ := h2 a n c e
    rw [e] at h2
    exact ⟨cur, fr, (heap_setCell_other _ _ _ _ (ne _ _ _ h2)).trans hc⟩

theorem catch_idle (p q r : Addr) (w : World) :
    CallsD Tryd.prog 21 #[.pointer (some p), .pointer (some q), .pointer (some r)] .returning w fun e u' w' => e = .returned (.tuple #[]) ∧ u' = .returning ∧ w' = w := by
  refine callsD_of_wpS Tryd.func21 rfl fun c₀ cs hu => ?_
  apply wpS_seq
  apply wpS_region
  simp [wpOpsS, go_sem, recoverD, hu, Tryd.ntmps21, Exit.thenS]
  refine wpS_of_wp ?_
  go_wp2
  cases c₀
  simp_all [bodyPostS, results, Tryd.results21]
set_option maxRecDepth 20000 in
set_option maxHeartbeats 1000000 in
theorem catch_fault (n : Nat) (x y z : Value) (w W : World) (h : Three w W x y z) :
    CallsD Tryd.prog 21 #[.pointer (some ⟨w.heap.size, 0, none⟩), .pointer (some ⟨w.heap.size + 1, 0, none⟩), .pointer (some ⟨w.heap.size + 1 + 1, 0, none⟩)] (.panicking [{ v := .iface 52 (.agg #[.int .i64 (n : Int)]), recovered := false }]) W fun e u' w' =>
      e = .returned (.tuple #[]) ∧ u' = .panicking [{ v := .iface 52 (.agg #[.int .i64 (n : Int)]), recovered := true }] ∧ Three w w' (.slice none 0 0) (.int .i64 (n : Int)) (.int .i64 2) := by
  refine callsD_of_wpS Tryd.func21 rfl fun c₀ cs hu => ?_
  apply wpS_seq
  apply wpS_region
  simp [wpOpsS, go_sem, recoverD, hu, Tryd.ntmps21, Exit.thenS]
  refine wpS_of_wp ?_
  have x0 := h.x.cell 0 x rfl
  have y0 := h.y.cell 0 y rfl
  have z0 := h.z.cell 0 z rfl
  have f0 := h.x.free 0
  have f1 := h.y.free 0
  have f2 := h.z.free 0
  have HH := hide h
  clear h
  have hta : ∀ (v : Value) (w : World), (Instr.typeAssert (.iface 52 v) 20 52 false).run Tryd.prog w = .ok v w := fun _ _ => by kernel_rfl
  have hfd : ∀ (v : Value) (w : World), (Instr.field 52 (.agg #[v]) 0).run Tryd.prog w = .ok v w := fun _ _ => by kernel_rfl
  change Code.wp _ _ _ ⟨#[.pointer (some ⟨w.heap.size, 0, none⟩), .pointer (some ⟨w.heap.size + 1, 0, none⟩), .pointer (some ⟨w.heap.size + 1 + 1, 0, none⟩), .iface 52 (.agg #[.int .i64 (n : Int)]), .iface 52 (.agg #[.int .i64 (n : Int)]), undef, undef, undef, undef, undef], []⟩ _
  go_wp2
  go_region
  all_goals exact ⟨rfl, _, rfl, .tuple #[], results_none Tryd.results21 _ _ _, rfl, rfl, (HH.out.put _ _ _).drew⟩
set_option maxRecDepth 20000 in
set_option maxHeartbeats 1000000 in
theorem parse_any (s : ByteArray) (w : World) (R : Rans w) (hs : s.size ≤ 1000000) : Calls Tryd.prog 10 #[.string s] w fun e w' => ParsePost w s.data.toList e w' := by
  have hmf : ∀ (fn : Fn) (first cap : Array Value) (w : World), (Instr.makeFunc fn first cap).run Tryd.prog w = .ok (.func fn first cap) w := fun _ _ _ _ => rfl
  have A1 : Three w ((((w.alloc (.cells #[.slice none 0 0] 22)).alloc (.cells #[.int .i64 0] 3)).alloc (.cells #[.int .i64 0] 26)).alloc (.cells #[.string s, .int .i64 0] 56)) (.slice none 0 0) (.int .i64 0) (.int .i64 0) := by
    refine ⟨((((Below.refl _ _).alloc (Nat.le_refl _) _).alloc (by simp) _).alloc (by simp; omega) _).alloc (by simp; omega) _, (((Bx.made w _ _).later _).later _).later _, ?_, ?_⟩
    · have := ((Bx.made (w.alloc (.cells #[.slice none 0 0] 22)) #[.int .i64 0] 3).later (.cells #[.int .i64 0] 26)).later (.cells #[.string s, .int .i64 0] 56)
      simpa using this
    · have := (Bx.made ((w.alloc (.cells #[.slice none 0 0] 22)).alloc (.cells #[.int .i64 0] 3)) #[.int .i64 0] 26).later (.cells #[.string s, .int .i64 0] 56)
      simpa using this
  have A2 : Rd ((((w.alloc (.cells #[.slice none 0 0] 22)).alloc (.cells #[.int .i64 0] 3)).alloc (.cells #[.int .i64 0] 26)).alloc (.cells #[.string s, .int .i64 0] 56)) (w.heap.size + 1 + 1 + 1) s 0 := by
    have := Bx.made (((w.alloc (.cells #[.slice none 0 0] 22)).alloc (.cells #[.int .i64 0] 3)).alloc (.cells #[.int .i64 0] 26)) #[.string s, .int .i64 0] 56
    unfold Rd
    simpa using this
  have tany := template_any (w.heap.size + 1 + 1 + 1) s _ w R (by omega) A1.bel A2 hs
  unfold TmplPost at tany
  have HA1 := hide A1
  have Hsl := hide (size_list s)
  cases hT : isT s.data.toList with
  | none =>
    rw [hT] at tany
    have HT := hide hT
    obtain ⟨G, hG⟩ : ∃ G, badT s.data.toList = G := ⟨_, rfl⟩
    rw [hG] at tany
    have HG := hide hG
    have Tany := hide tany
    clear tany hT hG A1 A2
    go_enter_defers Tryd.func10, Tryd.ntmps10
    go_wp2_with (go_at_call 22; refine Tany.out.mono ?_; rintro e w1 ⟨M, he⟩; simp only at he; unfold fault at he; subst he; have A := HA1.out.moved M)
    refine leaves_cons (f := 21) (args := #[.pointer (some ⟨w.heap.size, 0, none⟩), .pointer (some ⟨w.heap.size + 1, 0, none⟩), .pointer (some ⟨w.heap.size + 1 + 1, 0, none⟩)]) (by simp) (by simp [go_sem]) ?_
    refine (catch_fault G _ _ _ w w1 A).mono ?_
    rintro e u' w'' ⟨rfl, rfl, A2⟩
    have x0 := A2.x.cell 0 _ rfl
    have y0 := A2.y.cell 0 _ rfl
    have z0 := A2.z.cell 0 _ rfl
    simp [Leaves, settle, results, Tryd.results10, go_sem, x0, y0, z0]
    exact parse_none HT.out HG.out A2.bel
  | some ts =>
    rw [hT] at tany
    have HT := hide hT
    have Tany := hide tany
    clear tany hT A1 A2
    go_enter_defers Tryd.func10, Tryd.ntmps10
    go_wp2_with (go_at_call 22; refine Tany.out.mono ?_; rintro e w1 ⟨M, a, c, ps, rfl, hps, ho, hh⟩; have A := HA1.out.moved M; have x0 := A.x.cell 0 _ rfl; have y0 := A.y.cell 0 _ rfl; have z0 := A.z.cell 0 _ rfl; have f0 := A.x.free 0; have f1 := A.y.free 0; have f2 := A.z.free 0)
    have A3 := A.put (.slice a ts.length c) (.int .i64 (s.size : Int)) (.int .i64 0)
    have hb : (w.heap.size + 1 + 1) < ((((w.alloc (.cells #[.slice none 0 0] 22)).alloc (.cells #[.int .i64 0] 3)).alloc (.cells #[.int .i64 0] 26)).alloc (.cells #[.string s, .int .i64 0] 56)).heap.size := by simp
    have ho3 := own_put (b := w.heap.size + 1 + 1) (j := 0) (u := .int .i64 0) (own_put (b := w.heap.size + 1) (j := 0) (u := .int .i64 (s.size : Int)) (own_put (b := w.heap.size) (j := 0) (u := .slice a ts.length c) ho (by omega)) (by omega)) hb
    have hh3 := ((hh.put A.x (by decide) 0 (.slice a ts.length c)).put (A.y.other (by omega) 0 (.slice a ts.length c)) (by decide) 0 (.int .i64 (s.size : Int))).put ((A.z.other (by omega) 0 (.slice a ts.length c)).other (by omega) 0 (.int .i64 (s.size : Int))) (by decide) 0 (.int .i64 0)
    have hpl : ts.length = ps.length := by rw [← hps, List.length_map]
    have hP := PtsAt.of_owns ho3 hh3
    rw [hps] at hP
    clear x0 y0 z0 f0 f1 f2
    have x0 := A3.x.cell 0 _ rfl
    have y0 := A3.y.cell 0 _ rfl
    have z0 := A3.z.cell 0 _ rfl
    refine leaves_cons (f := 21) (args := #[.pointer (some ⟨w.heap.size, 0, none⟩), .pointer (some ⟨w.heap.size + 1, 0, none⟩), .pointer (some ⟨w.heap.size + 1 + 1, 0, none⟩)]) (by simp) (by simp [go_sem]) ?_
    refine (catch_idle _ _ _ _).mono ?_
    rintro e u' w'' ⟨rfl, rfl, hw⟩
    subst hw
    have HP := hide hP
    have HA3 := hide A3
    clear hP A3 ho3 hh3
    refine ⟨_, ?_, parse_some HT.out Hsl.out.symm HP.out HA3.out.bel⟩
    simp [results, Tryd.results10, go_sem, x0, y0, z0]
end Go.Proofs.YtjbnofljoijnmaaDoor
