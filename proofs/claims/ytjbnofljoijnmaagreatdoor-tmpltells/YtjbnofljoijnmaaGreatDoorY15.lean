/-
  Joined by program out of the texts A8 A9.
-/
import Derived.Test.YtjbnofljoijnmaaGreatDoorY14
import Derived.Test.YtjbnofljoijnmaaGreatDoorW3
/-
  WALKS: the reference's May.
-/
namespace Go.Proofs.YtjbnofljoijnmaaGreatDoor
open Go.RowKit

/-- does a literal stand ahead of a place? -/
def litAhead (ts : List Pt) : Nat → Bool
  | 0 => false
  | i + 1 => match ts[i]? with | some x => x.specs.isEmpty | none => false
theorem ahead_next (ts : List Pt) (k : Nat) (h : k < ts.length) : litAhead ts (k + 1) = ts[k].specs.isEmpty := by
  simp [litAhead, List.getElem?_eq_getElem h]
theorem may_next (ts : List Pt) (k : Nat) (h : k < ts.length) : mayF (litAhead ts k) (ts.drop k) = (mayPt ts[k] && !(litAhead ts k && ts[k].specs.isEmpty) && mayF (litAhead ts (k + 1)) (ts.drop (k + 1))) := by
  rw [List.drop_eq_getElem_cons h, ahead_next ts k h]; rfl
theorem roper_is (c : UInt8) (b : Bool) (w : World) (h : operB c = b) : Calls Tryz.prog 21 #[.int .u8 (c.toNat : Int)] w fun e w' => e = .returned (.bool b) ∧ w' = w := by
  subst h; exact roper_any c w
theorem bel_alloc {w W w1 : World} {o : Obj} (hB : Below w.heap.size w W) (bb : Below (W.alloc o).heap.size (W.alloc o) w1) : Below w.heap.size w w1 := (hB.alloc hB.size o).trans (bb.mono (hB.alloc hB.size o).size)
set_option maxRecDepth 20000 in
set_option maxHeartbeats 4000000 in
theorem rmayT_any (v : Value) (ts : List Pt) (w : World) (h : PtsAt w v ts) (hn : ts.length ≤ 100000) (hs : ∀ x ∈ ts, x.specs.length ≤ 100000) (hl : ∀ x ∈ ts, x.lit.length ≤ 100000) :
    Calls Tryz.prog 13 #[v] w fun e w' => e = .returned (.bool (mayT ts)) ∧ Below w.heap.size w w' := by
  obtain ⟨ao, cp, rfl⟩ := h.form
  have H := hide h
  have Hs := hide hs
  have Hl := hide hl
  clear h hs hl
  go_enter Tryz.func13, Tryz.ntmps13
  go_wp2
  go_loopw [3] (fun i wr => ∃ k : Nat, k ≤ ts.length ∧ i = .int .i64 k ∧ Below w.heap.size w wr ∧ mayT ts = mayF (litAhead ts k) (ts.drop k)) (fun i _ => ts.length - (intOf i).toNat)
  case atStart => exact ⟨0, Nat.zero_le _, rfl, Below.refl _ _, rfl⟩
  case round =>
    obtain ⟨k, hk, rfl, hB, hm⟩ := hrel
    by_cases hlt : k < ts.length
    · obtain ⟨b, off, cap, a, n, e, hb, h1, h2, h3, h4⟩ := (H.out.later hB).at k hlt
      cases e
      rw [may_next ts k hlt] at hm
      have hsk := Hs.out _ (List.getElem_mem hlt)
      have hlk := Hl.out _ (List.getElem_mem hlt)
      have hnx := ahead_next ts k hlt
      obtain ⟨x, hx⟩ : ∃ x, ts[k] = x := ⟨_, rfl⟩
      rw [hx] at h1 h2 h3 h4 hsk hlk hm hnx
      obtain ⟨L, hL⟩ : ∃ L : ByteArray, (⟨x.lit.toArray⟩ : ByteArray) = L := ⟨_, rfl⟩
      have hLl : L.data.toList = x.lit := by rw [← hL]
      have hLs : L.size ≤ 100000 := by rw [size_list, hLl]; exact hlk
      rw [hL] at h1
      obtain ⟨m, em⟩ : ∃ m, x.specs.length = m := ⟨_, rfl⟩
      rw [em] at h3 h4 hsk
      by_cases hm0 : m = 0
      · subst hm0
        have hse : x.specs.isEmpty = true := by rw [List.isEmpty_iff]; exact List.eq_nil_of_length_eq_zero em
        have hpt : mayPt x = (x.op == 0 && literalB x.lit) := by unfold mayPt; rw [if_pos hse]
        rw [hse, Bool.and_true] at hm
        obtain ⟨lb, hlb⟩ : ∃ lb, literalB L.data.toList = lb := ⟨_, rfl⟩
        rw [hpt, ← hLl, hlb] at hm
        have Hlb := hide hlb
        have Hm := hide hm
        clear hpt hlb hm h4 em hL hLl hlk hx
        by_cases ho : x.op = 0
        · have ho2 : x.op.toNat = 0 := by rw [ho]; rfl
          rw [ho2] at h2
          cases lb
          · have hr : mayT ts = false := by rw [Hm.out]; simp
            have Hr := hide hr
            clear hr
            go_wp2_with (go_at_call 22; refine (rliteral_is L false _ (by omega) Hlb.out).mono ?_; rintro e w1 ⟨rfl, bb⟩; replace hB := bel_alloc hB bb; clear bb)
            all_goals go_ret
            all_goals exact ⟨ret_bool Hr.out.symm, hB⟩
          · have hgo : mayT ts = (!litAhead ts k && mayF (litAhead ts (k + 1)) (ts.drop (k + 1))) := by rw [Hm.out]; simp [ho]
            have Hgo := hide hgo
            clear hgo Hm
            by_cases hk0 : 0 < k
            · obtain ⟨p, hp⟩ : ∃ p, (ts[k - 1]'(by omega)).specs.length = p := ⟨_, rfl⟩
              have hah : litAhead ts k = (ts[k - 1]'(by omega)).specs.isEmpty := by
                have := ahead_next ts (k - 1) (by omega)
                rw [show k - 1 + 1 = k by omega] at this
                exact this
              have Hah := hide hah
              have Hp := hide hp
              clear hah hp
              by_cases hp0 : p = 0
              · have hr : mayT ts = false := by
                  have e : (ts[k - 1]'(by omega)).specs.isEmpty = true := by rw [List.isEmpty_iff]; exact List.eq_nil_of_length_eq_zero (by rw [Hp.out]; exact hp0)
                  rw [Hgo.out, Hah.out, e]; rfl
                have Hr := hide hr
                subst hp0
                clear hr
                go_wp2_with (go_at_call 22; refine (rliteral_is L true _ (by omega) Hlb.out).mono ?_; rintro e w1 ⟨rfl, bb⟩; replace hB := bel_alloc hB bb; clear bb; obtain ⟨b2, off2, cap2, a2, n2, e2, hb2, g1, g2, g3, g4⟩ := (H.out.later hB).at (k - 1) (by omega); cases e2; rw [Hp.out] at g3; clear g1 g2 g4)
                all_goals go_ret
                all_goals exact ⟨ret_bool Hr.out.symm, hB⟩
              · have hgo2 : mayT ts = mayF (litAhead ts (k + 1)) (ts.drop (k + 1)) := by
                  have e : (ts[k - 1]'(by omega)).specs.isEmpty = false := by
                    cases hh : (ts[k - 1]'(by omega)).specs.isEmpty with
                    | false => rfl
                    | true => rw [List.isEmpty_iff] at hh; have := Hp.out; rw [hh] at this; exact absurd this.symm hp0
                  rw [Hgo.out, Hah.out, e]; rfl
                have Hgo2 := hide hgo2
                have hp1 : ((p : Int) == 0) = false := by simp; omega
                clear hgo2
                go_wp2_with (go_at_call 22; refine (rliteral_is L true _ (by omega) Hlb.out).mono ?_; rintro e w1 ⟨rfl, bb⟩; replace hB := bel_alloc hB bb; clear bb; obtain ⟨b2, off2, cap2, a2, n2, e2, hb2, g1, g2, g3, g4⟩ := (H.out.later hB).at (k - 1) (by omega); cases e2; rw [Hp.out] at g3; clear g1 g2 g4)
                go_roundw
                case rel => exact ⟨k + 1, by omega, by go_num, hB, Hgo2.out⟩
                case measure => simp [intOf]; omega
            · have hk1 : k = 0 := by omega
              have hgo2 : mayT ts = mayF (litAhead ts (k + 1)) (ts.drop (k + 1)) := by
                rw [Hgo.out, hk1]; rfl
              have Hgo2 := hide hgo2
              clear hgo2
              subst hk1
              simp only [Nat.zero_mul, Nat.add_zero] at h1 h2 h3
              go_wp2_with (go_at_call 22; refine (rliteral_is L true _ (by omega) Hlb.out).mono ?_; rintro e w1 ⟨rfl, bb⟩; replace hB := bel_alloc hB bb; clear bb)
              go_roundw
              case rel => exact ⟨0 + 1, by omega, by go_num, hB, Hgo2.out⟩
              case measure => simp [intOf]; omega
        · have hr : mayT ts = false := by
            have : (x.op == 0) = false := by simp [ho]
            rw [Hm.out, this]; simp
          have Hr := hide hr
          have ho2 : ((x.op.toNat : Int) != 0) = true := by
            have : x.op.toNat ≠ 0 := fun e => ho (UInt8.toNat_inj.1 e)
            simp; omega
          have hB2 := hB.alloc hB.size (.cells #[.string L, .int .u8 x.op.toNat, .slice a 0 n] 43)
          clear hr
          go_wp2
          all_goals go_ret
          all_goals exact ⟨ret_bool Hr.out.symm, hB2⟩
      · have hse : x.specs.isEmpty = false := by
          cases hh : x.specs.isEmpty with
          | false => rfl
          | true => rw [List.isEmpty_iff] at hh; rw [hh] at em; exact absurd em.symm hm0
        have hpt : mayPt x = (x.lit.isEmpty && operB x.op && x.specs.all mayX) := by unfold mayPt; rw [if_neg (by rw [hse]; decide)]
        rw [hse, Bool.and_false, Bool.not_false, Bool.and_true, hpt] at hm
        have hm1 : ((m : Int) == 0) = false := by simp; omega
        have Hm := hide hm
        have H4 := hide h4
        have Hem := hide em
        have HLl := hide hLl
        clear hpt hm h4 em hL hLl hlk hx
        have hB2 := hB.alloc hB.size (.cells #[.string L, .int .u8 x.op.toNat, .slice a m n] 43)
        by_cases hL0 : 0 < L.size
        · have hE := eq_some L hL0
          have hr : mayT ts = false := by
            have : x.lit.isEmpty = false := by
              rw [← HLl.out]
              cases hh : L.data.toList with
              | nil => rw [list_one L hL0] at hh; cases hh
              | cons a t => rfl
            rw [Hm.out, this]; simp
          have Hr := hide hr
          clear hr
          go_wp2
          all_goals go_ret
          all_goals exact ⟨ret_bool Hr.out.symm, hB2⟩
        · have hE := eq_none L hL0
          have hle : x.lit.isEmpty = true := by rw [← HLl.out, list_none L hL0]; rfl
          obtain ⟨ob, hob⟩ : ∃ ob, operB x.op = ob := ⟨_, rfl⟩
          have hm2 := Hm.out
          rw [hle, hob, Bool.true_and] at hm2
          have Hm2 := hide hm2
          have Hob := hide hob
          clear hm2 hob hle
          cases ob
          · have hr : mayT ts = false := by rw [Hm2.out]; rfl
            have Hr := hide hr
            clear hr
            go_wp2_with (go_at_call 21; refine (roper_is x.op false _ Hob.out).mono ?_; rintro e w1 ⟨rfl, hw⟩; rw [hw])
            all_goals go_ret
            all_goals exact ⟨ret_bool Hr.out.symm, hB2⟩
          · have X0 := Bx.made wr #[.string L, .int .u8 x.op.toNat, .slice a m n] 43
            have hS0 : SpecsAt (wr.alloc (.cells #[.string L, .int .u8 x.op.toNat, .slice a m n] 43)) (.slice a m n) x.specs := H4.out.later ((Below.refl _ _).alloc (Nat.le_refl _) _)
            go_wp2_with (go_at_call 21; refine (roper_is x.op true _ Hob.out).mono ?_; rintro e w1 ⟨rfl, hw⟩; rw [hw])
            go_loopw [5] (fun j wq => ∃ q : Nat, q ≤ m ∧ j = .int .i64 q ∧ (x.specs.take q).all mayX = true ∧ Below w.heap.size w wq ∧ Bx wq wr.heap.size #[.string L, .int .u8 x.op.toNat, .slice a m n] 43 ∧ SpecsAt wq (.slice a m n) x.specs) (fun j _ => m - (intOf j).toNat)
            case atStart => exact ⟨0, Nat.zero_le _, rfl, by simp, hB2, X0, hS0⟩
            case round =>
              obtain ⟨q, hq, rfl, hqa, hBq, X, hS⟩ := hrel
              have x2 := X.cell 2 (.slice a m n) rfl
              by_cases hqm : q < m
              · have hqs : q < x.specs.length := by rw [Hem.out]; exact hqm
                have g4 := hS
                rw [← Hem.out] at g4
                obtain ⟨sb, so, sc, es, hsb, s1, s2, s3⟩ := g4.at q hqs
                rw [Hem.out] at es
                cases es
                have hsn2 := all_snoc mayX x.specs q hqs
                rw [hqa, Bool.true_and] at hsn2
                have hbad2 := all_not mayX x.specs q hqs
                obtain ⟨y, hy⟩ : ∃ y, x.specs[q] = y := ⟨_, rfl⟩
                rw [hy] at s1 s2 s3 hsn2 hbad2
                obtain ⟨N, hN⟩ : ∃ N : ByteArray, (⟨y.name.toArray⟩ : ByteArray) = N := ⟨_, rfl⟩
                rw [hN] at s1
                obtain ⟨mx, hmx⟩ : ∃ mx, y.max = mx := ⟨_, rfl⟩
                obtain ⟨st, hst⟩ : ∃ st, y.star = st := ⟨_, rfl⟩
                rw [hmx] at s2
                rw [hst] at s3
                have hsp : spA N mx st = y := by
                  rw [← hN, ← hmx, ← hst]; rfl
                obtain ⟨mb, hmb⟩ : ∃ mb, mayX y = mb := ⟨_, rfl⟩
                rw [hmb] at hsn2 hbad2
                have hmb2 : mayX (spA N mx st) = mb := by rw [hsp]; exact hmb
                have Hmb := hide hmb2
                have Hsn2 := hide hsn2
                have Hbad2 := hide hbad2
                have HX := hide X
                have HS := hide hS
                clear hsn2 hbad2 hy hN hmx hst hsp hmb hmb2 g4 hqa X hS h1 h2 h3
                cases mb
                · have hr : mayT ts = false := by rw [Hm2.out, Hbad2.out rfl]; simp
                  have Hr := hide hr
                  clear hr
                  go_wp2_with (go_at_call 31; refine (rxmay_is N mx st false _ Hmb.out).mono ?_; rintro e w1 ⟨rfl, bb⟩; replace hBq := hBq.trans (bb.mono hBq.size); clear bb)
                  all_goals go_ret
                  all_goals exact ⟨ret_bool Hr.out.symm, hBq⟩
                · go_wp2_with (go_at_call 31; refine (rxmay_is N mx st true _ Hmb.out).mono ?_; rintro e w1 ⟨rfl, bb⟩)
                  go_roundw
                  case rel => exact ⟨q + 1, by omega, by go_num, Hsn2.out, hBq.trans (bb.mono hBq.size), HX.out.next bb, HS.out.later bb⟩
                  case measure => simp [intOf]; omega
              · have hqe : q = m := by omega
                have hgo : mayT ts = mayF (litAhead ts (k + 1)) (ts.drop (k + 1)) := by
                  rw [hqe, ← Hem.out, List.take_length] at hqa
                  rw [Hm2.out, hqa]; simp
                have Hgo := hide hgo
                clear hgo hqa hS X h1 h2 h3
                subst hqe
                go_wp2
                go_roundw
                case rel => exact ⟨k + 1, by omega, by go_num, hBq, Hgo.out⟩
                case measure => simp [intOf]; omega
    · have hke : k = ts.length := by omega
      have hr : mayT ts = true := by rw [hm, hke, List.drop_length]; rfl
      have Hr := hide hr
      clear hm hr
      go_wp2
      all_goals go_ret
      all_goals exact ⟨ret_bool Hr.out.symm, hB⟩
theorem rmayT_is (v : Value) (ts : List Pt) (r : Bool) (w : World) (h : PtsAt w v ts) (hn : ts.length ≤ 100000) (hs : ∀ x ∈ ts, x.specs.length ≤ 100000) (hl : ∀ x ∈ ts, x.lit.length ≤ 100000) (hr : mayT ts = r) :
    Calls Tryz.prog 13 #[v] w fun e w' => e = .returned (.bool r) ∧ Below w.heap.size w w' := by
  subst hr; exact rmayT_any v ts w h hn hs hl
end Go.Proofs.YtjbnofljoijnmaaGreatDoor

/-
  WALKS: the reference's Put.
-/
namespace Go.Proofs.YtjbnofljoijnmaaGreatDoor
open Go.RowKit Go.Lib

def insP (x : Pt) (q : Nat) : List UInt8 := if q = 0 then [] else 123 :: (opL x.op ++ joinC ((x.specs.take q).map putL))
theorem join_snocC (ps : List (List UInt8)) (p : List UInt8) (h : ps ≠ []) : joinC (ps ++ [p]) = joinC ps ++ 44 :: p := by
  induction ps with
  | nil => exact absurd rfl h
  | cons a r ih =>
    cases r with
    | nil => rfl
    | cons b r =>
      show a ++ 44 :: joinC ((b :: r) ++ [p]) = (a ++ 44 :: joinC (b :: r)) ++ 44 :: p
      rw [ih (by simp)]; simp
theorem insP_first (x : Pt) (h : 0 < x.specs.length) : insP x 1 = 123 :: opL x.op ++ putL x.specs[0] := by
  have e : x.specs.take 1 = [x.specs[0]] := by
    have := List.take_succ_eq_append_getElem h
    simpa using this
  unfold insP
  rw [if_neg (by omega), e]; simp [joinC]
theorem insP_next (x : Pt) (q : Nat) (hq : q ≠ 0) (h : q < x.specs.length) : insP x (q + 1) = insP x q ++ [44] ++ putL x.specs[q] := by
  unfold insP
  rw [if_neg (by omega), if_neg hq, List.take_succ_eq_append_getElem h, List.map_append]
  show 123 :: (opL x.op ++ joinC ((x.specs.take q).map putL ++ [putL x.specs[q]])) = _
  rw [join_snocC _ _ (by simp; constructor; exact hq; intro e; rw [e] at h; simp at h)]; simp
theorem insP_all (x : Pt) (h : 0 < x.specs.length) : putPt x = x.lit ++ insP x x.specs.length ++ [125] := by
  have hne : x.specs.isEmpty = false := by
    cases hs : x.specs with
    | nil => rw [hs] at h; simp at h
    | cons a t => rfl
  unfold putPt insP bodyL
  rw [if_neg (by rw [hne]; decide), if_neg (by omega), List.take_length]; simp
theorem insP_mono (x : Pt) (q d : Nat) (h : q + d ≤ x.specs.length) : (insP x q).length ≤ (insP x (q + d)).length := by
  induction d with
  | zero => exact Nat.le_refl _
  | succ d ih =>
    have := ih (by omega)
    by_cases h0 : q + d = 0
    · have e : q = 0 := by omega
      subst e
      simp [insP]
    · have e := insP_next x (q + d) h0 (by omega)
      rw [show q + (d + 1) = q + d + 1 by omega, e]
      simp; omega
theorem putF_app (a b : List Pt) : putF (a ++ b) = putF a ++ putF b := by unfold putF; rw [List.map_append, List.flatten_append]
theorem putF_take (ts : List Pt) (k : Nat) (h : k < ts.length) : putF (ts.take (k + 1)) = putF (ts.take k) ++ putPt ts[k] := by
  rw [List.take_succ_eq_append_getElem h, putF_app]
  show putF (ts.take k) ++ (putPt ts[k] ++ []) = _
  rw [List.append_nil]
theorem putF_len (ts : List Pt) (k : Nat) (h : k < ts.length) : (putF (ts.take k)).length + (putPt ts[k]).length ≤ (putF ts).length := by
  have e : ts = ts.take (k + 1) ++ ts.drop (k + 1) := (List.take_append_drop _ _).symm
  have e2 : putF ts = putF (ts.take (k + 1)) ++ putF (ts.drop (k + 1)) := by
    conv => lhs; rw [e]
    exact putF_app _ _
  rw [e2, putF_take ts k h]
  simp only [List.length_append]
  omega
theorem put_lenP (x : Pt) (q : Nat) (hq : q ≤ x.specs.length) : x.lit.length + (insP x q).length + (if 0 < x.specs.length then 1 else 0) ≤ (putPt x).length := by
  by_cases h : 0 < x.specs.length
  · have := insP_mono x q (x.specs.length - q) (by omega)
    rw [show q + (x.specs.length - q) = x.specs.length by omega] at this
    rw [insP_all x h, if_pos h]
    simp only [List.length_append, List.length_singleton]
    omega
  · have hq0 : q = 0 := by omega
    rw [if_neg h, hq0]
    have : insP x 0 = [] := rfl
    rw [this]
    unfold putPt
    simp
theorem put_part (x : Pt) (q : Nat) (h : q < x.specs.length) : (insP x q).length + (if q = 0 then 1 + (opL x.op).length else 1) + (putL x.specs[q]).length + 1 + x.lit.length ≤ (putPt x).length := by
  have h1 := put_lenP x (q + 1) (by omega)
  rw [if_pos (by omega)] at h1
  by_cases h0 : q = 0
  · subst h0
    rw [insP_first x h] at h1
    rw [if_pos rfl]
    have : insP x 0 = [] := rfl
    rw [this]
    simp only [List.length_append, List.length_cons, List.length_nil] at h1 ⊢
    omega
  · rw [insP_next x q h0 h] at h1
    rw [if_neg h0]
    simp only [List.length_append, List.length_singleton] at h1
    omega
set_option maxRecDepth 20000 in
set_option maxHeartbeats 4000000 in
theorem rputT_any (v : Value) (ts : List Pt) (w : World) (h : PtsAt w v ts) (hn : ts.length ≤ 100000) (hs : ∀ x ∈ ts, x.specs.length ≤ 100000) (hl : ∀ x ∈ ts, x.lit.length ≤ 100000) (hy : ∀ x ∈ ts, ∀ y ∈ x.specs, y.name.length ≤ 1000000) (hp : (putF ts).length ≤ 10000000) :
    Calls Tryz.prog 15 #[v] w fun e w' => e = .returned (.string ⟨(putT ts).toArray⟩) ∧ Below w.heap.size w w' := by
  obtain ⟨ao, cp, rfl⟩ := h.form
  have B := Below.refl w.heap.size w
  obtain ⟨mb, hmb⟩ : ∃ mb, mayT ts = mb := ⟨_, rfl⟩
  have Hmb := hide hmb
  have H := hide h
  have Hs := hide hs
  have Hl := hide hl
  have Hy := hide hy
  have Hp := hide hp
  clear h hs hl hp hy
  cases mb
  · have e : putT ts = [] := by unfold putT; rw [hmb]; rfl
    rw [e]
    clear e hmb
    go_enter Tryz.func15, Tryz.ntmps15
    go_wp2_with (go_at_call 13; refine (rmayT_is _ ts false _ H.out hn Hs.out Hl.out Hmb.out).mono ?_; rintro e w1 ⟨rfl, bb⟩; replace B := bb; clear bb)
    go_ret
    exact ⟨rfl, B⟩
  · have e : putT ts = putF ts := by unfold putT; rw [hmb]; rfl
    rw [e]
    clear e hmb
    go_enter Tryz.func15, Tryz.ntmps15
    go_wp2_with (go_at_call 13; refine (rmayT_is _ ts true _ H.out hn Hs.out Hl.out Hmb.out).mono ?_; rintro e w1 ⟨rfl, bb⟩; replace B := bb; clear bb)
    go_loopw [3, 4] (fun s i wr => ∃ (k : Nat) (S : ByteArray), k ≤ ts.length ∧ i = .int .i64 k ∧ s = .string S ∧ S.data.toList = putF (ts.take k) ∧ Below w.heap.size w wr) (fun _ i _ => ts.length - (intOf i).toNat)
    case atStart => exact ⟨0, ⟨#[]⟩, Nat.zero_le _, rfl, rfl, rfl, B⟩
    case round =>
      obtain ⟨k, S, hk, rfl, rfl, hS, hB⟩ := hrel
      by_cases hlt : k < ts.length
      · obtain ⟨b, off, cap, a, n, e, hb, h1, h2, h3, h4⟩ := (H.out.later hB).at k hlt
        cases e
        have hsk := Hs.out _ (List.getElem_mem hlt)
        have hyk := Hy.out _ (List.getElem_mem hlt)
        have hft := putF_take ts k hlt
        have hfl := putF_len ts k hlt
        have hpl := put_lenP ts[k]
        have hpp := put_part ts[k]
        have hpn := insP_next ts[k]
        have hp1 := insP_first ts[k]
        have hpa := insP_all ts[k]
        obtain ⟨x, hx⟩ : ∃ x, ts[k] = x := ⟨_, rfl⟩
        rw [hx] at h1 h2 h3 h4 hsk hft hfl hyk
        simp only [hx] at hpl hpp hpn hp1 hpa
        have hSs : S.size = (putF (ts.take k)).length := by rw [size_list, hS]
        obtain ⟨L, hL⟩ : ∃ L : ByteArray, (⟨x.lit.toArray⟩ : ByteArray) = L := ⟨_, rfl⟩
        have hLl : L.data.toList = x.lit := by rw [← hL]
        rw [hL] at h1
        obtain ⟨m, em⟩ : ∃ m, x.specs.length = m := ⟨_, rfl⟩
        rw [em] at h3 h4 hsk
        have hLs : L.size = x.lit.length := by rw [size_list, hLl]
        have htot := Hp.out
        have hlen0 := hpl 0 (Nat.zero_le _)
        have hz : S.size + L.size ≤ maxLen := by unfold maxLen; omega
        have a1 := str_add S L hz
        obtain ⟨S1, hS1⟩ : ∃ S1, S ++ L = S1 := ⟨_, rfl⟩
        have hS1l : S1.data.toList = putF (ts.take k) ++ x.lit := by rw [← hS1, app_list, hS, hLl]
        have Hft := hide hft
        have Hfl := hide hfl
        have Hpl := hide hpl
        have Hpp := hide hpp
        have Hpn := hide hpn
        have Hp1 := hide hp1
        have Hpa := hide hpa
        have H4 := hide h4
        have Hem := hide em
        have HS1 := hide hS1l
        have Hyk := hide hyk
        have Htot := hide htot
        clear hft hfl hpl hpp hpn hp1 hpa h4 em hS1l hyk htot hS hSs hL hLl hLs hlen0 hz
        have hx := hx
        go_wp2
        go_loopw [3, 5] (fun s j wq => ∃ (q : Nat) (R : ByteArray), q ≤ m ∧ j = .int .i64 q ∧ s = .string R ∧ R.data.toList = putF (ts.take k) ++ x.lit ++ insP x q ∧ Below w.heap.size w wq) (fun _ j _ => m - (intOf j).toNat)
        case atStart => exact ⟨0, S1, Nat.zero_le _, rfl, rfl, by rw [HS1.out]; simp [insP], hB⟩
        case round =>
          obtain ⟨q, R, hq, rfl, rfl, hR, hBq⟩ := hrel
          obtain ⟨b2, off2, cap2, a2, n2, e2, hb2, g1, g2, g3, g4⟩ := (H.out.later hBq).at k hlt
          cases e2
          rw [hx] at g1 g2 g3 g4
          rw [Hem.out] at g3
          have hRs : R.size = (putF (ts.take k)).length + x.lit.length + (insP x q).length := by rw [size_list, hR]; simp; omega
          by_cases hqm : q < m
          · have hqs : q < x.specs.length := by rw [Hem.out]; exact hqm
            obtain ⟨sb, so, sc, es, hsb, s1, s2, s3⟩ := g4.at q hqs
            rw [Hem.out] at es
            cases es
            have hyq := Hyk.out _ (List.getElem_mem hqs)
            have hpq := Hpp.out q hqs
            have hnq := fun h0 => Hpn.out q h0 hqs
            have hp1 := Hp1.out (by omega)
            obtain ⟨y, hy⟩ : ∃ y, x.specs[q] = y := ⟨_, rfl⟩
            rw [hy] at s1 s2 s3 hyq hpq
            simp only [hy] at hnq
            obtain ⟨N, hN⟩ : ∃ N : ByteArray, (⟨y.name.toArray⟩ : ByteArray) = N := ⟨_, rfl⟩
            have hNs : N.size ≤ 1000000 := by rw [size_list, ← hN]; exact hyq
            rw [hN] at s1
            obtain ⟨mx, hmx⟩ : ∃ mx, y.max = mx := ⟨_, rfl⟩
            obtain ⟨st, hst⟩ : ∃ st, y.star = st := ⟨_, rfl⟩
            rw [hmx] at s2
            rw [hst] at s3
            have hsp : spA N mx st = y := by rw [← hN, ← hmx, ← hst]; rfl
            obtain ⟨PB, hPB⟩ : ∃ PB : ByteArray, PB = ⟨(putL y).toArray⟩ := ⟨_, rfl⟩
            have hPBl : PB.data.toList = putL (spA N mx st) := by rw [hPB, hsp]
            have hPBs : PB.size = (putL y).length := by rw [size_list, hPBl, hsp]
            have HPB := hide hPBl
            have htot := Htot.out
            have hfl := Hfl.out
            have Hsp := hide hsp
            by_cases hq0 : q = 0
            · rw [if_pos hq0] at hpq
              subst hq0
              simp only [hy] at hp1
              simp only [Nat.zero_mul, Nat.add_zero] at s1 s2 s3
              by_cases ho : x.op = 0
              · have ho2 : x.op.toNat = 0 := by rw [ho]; rfl
                rw [ho2] at g2
                have a1 := str_add R ⟨#[123]⟩ (by show R.size + 1 ≤ maxLen; unfold maxLen; omega)
                have e44 : (R ++ ⟨#[123]⟩ : ByteArray).size = R.size + 1 := by rw [ByteArray.size_append]; rfl
                have a2 := str_add (R ++ ⟨#[123]⟩) PB (by rw [e44]; unfold maxLen; omega)
                obtain ⟨R1, hR1⟩ : ∃ R1, R ++ ⟨#[123]⟩ = R1 := ⟨_, rfl⟩
                rw [hR1] at a1 a2
                obtain ⟨R2, hR2⟩ : ∃ R2, R1 ++ PB = R2 := ⟨_, rfl⟩
                rw [hR2] at a2
                have hR2l : R2.data.toList = putF (ts.take k) ++ x.lit ++ insP x (0 + 1) := by
                  rw [← hR2, ← hR1, app_list, app_list, hR, hp1, hPBl, hsp, ho]; simp [insP, opL]
                have HR2 := hide hR2l
                clear hR2l hR1 hR2 hnq hp1 hpq hPB hPBl hPBs hsp hy hN hmx hst hyq hR hRs e44 htot hfl g1 g4 h1 h2 h3 hx ho
                go_wp2_with (go_at_call 35; refine (rxput_is N mx st PB _ (by omega) HPB.out).mono ?_; rintro e w2 ⟨rfl, bb⟩; replace hBq := hBq.trans (bb.mono hBq.size); clear bb)
                go_roundw
                case rel => exact ⟨0 + 1, R2, by omega, by go_num, rfl, HR2.out, hBq⟩
                case measure => simp [intOf]; omega
              · have ho2 : ((x.op.toNat : Int) != 0) = true := by
                  have : x.op.toNat ≠ 0 := fun e => ho (UInt8.toNat_inj.1 e)
                  simp; omega
                have hol : (opL x.op).length = 1 := by unfold opL; rw [if_neg ho]; rfl
                have hcv := conv_one wr (x.op.toNat : Int) (by omega) (by have := UInt8.toNat_lt x.op; omega)
                obtain ⟨O, hO⟩ : ∃ O : ByteArray, O = ⟨#[((x.op.toNat : Int)).toNat.toUInt8]⟩ := ⟨_, rfl⟩
                rw [← hO] at hcv
                have hOl : O.data.toList = [x.op] := by rw [hO]; simp
                have hOs : O.size = 1 := by rw [size_list, hOl]; rfl
                have a0 := str_add ⟨#[123]⟩ O (by show 1 + O.size ≤ maxLen; unfold maxLen; omega)
                obtain ⟨A1, hA1⟩ : ∃ A1, (⟨#[123]⟩ : ByteArray) ++ O = A1 := ⟨_, rfl⟩
                rw [hA1] at a0
                have hA1l : A1.data.toList = [123, x.op] := by rw [← hA1, app_list, hOl]; rfl
                have hA1s : A1.size = 2 := by rw [size_list, hA1l]; rfl
                have a1 := str_add R A1 (by unfold maxLen; omega)
                obtain ⟨R1, hR1⟩ : ∃ R1, R ++ A1 = R1 := ⟨_, rfl⟩
                rw [hR1] at a1
                have e44 : R1.size = R.size + 2 := by rw [← hR1, ByteArray.size_append, hA1s]
                have a2 := str_add R1 PB (by rw [e44]; unfold maxLen; omega)
                obtain ⟨R2, hR2⟩ : ∃ R2, R1 ++ PB = R2 := ⟨_, rfl⟩
                rw [hR2] at a2
                have hR2l : R2.data.toList = putF (ts.take k) ++ x.lit ++ insP x (0 + 1) := by
                  have : opL x.op = [x.op] := by unfold opL; rw [if_neg ho]
                  rw [← hR2, ← hR1, app_list, app_list, hR, hp1, hPBl, hsp, hA1l, this]; simp [insP]
                have HR2 := hide hR2l
                clear hR2l hR1 hR2 hnq hp1 hpq hPB hPBl hPBs hsp hy hN hmx hst hyq hR hRs e44 htot hfl g1 g4 h1 h2 h3 hx ho hO hOl hOs hA1 hA1l hA1s hol
                go_wp2_with (go_at_call 35; refine (rxput_is N mx st PB _ (by omega) HPB.out).mono ?_; rintro e w2 ⟨rfl, bb⟩; replace hBq := bel_alloc hBq bb; clear bb)
                go_roundw
                case rel => exact ⟨0 + 1, R2, by omega, by go_num, rfl, HR2.out, hBq⟩
                case measure => simp [intOf]; omega
            · rw [if_neg hq0] at hpq
              have hz1 : R.size + 1 ≤ maxLen := by unfold maxLen; omega
              have a1 := str_add R ⟨#[44]⟩ hz1
              have e44 : (R ++ ⟨#[44]⟩ : ByteArray).size = R.size + 1 := by rw [ByteArray.size_append]; rfl
              have a2 := str_add (R ++ ⟨#[44]⟩) PB (by rw [e44]; unfold maxLen; omega)
              obtain ⟨R1, hR1⟩ : ∃ R1, R ++ ⟨#[44]⟩ = R1 := ⟨_, rfl⟩
              rw [hR1] at a1 a2
              obtain ⟨R2, hR2⟩ : ∃ R2, R1 ++ PB = R2 := ⟨_, rfl⟩
              rw [hR2] at a2
              have hR2l : R2.data.toList = putF (ts.take k) ++ x.lit ++ insP x (q + 1) := by
                rw [← hR2, ← hR1, app_list, app_list, hR, hnq hq0, hPBl, hsp]; simp
              have HR2 := hide hR2l
              have hq1 : ((q : Int) == 0) = false := by simp; omega
              clear hR2l hR1 hR2 hnq hp1 hpq hPB hPBl hPBs hsp hy hN hmx hst hyq hR hRs e44 hz1 htot hfl g1 g2 g4 h1 h2 h3 hx
              go_wp2_with (go_at_call 35; refine (rxput_is N mx st PB _ (by omega) HPB.out).mono ?_; rintro e w2 ⟨rfl, bb⟩; replace hBq := hBq.trans (bb.mono hBq.size); clear bb)
              go_roundw
              case rel => exact ⟨q + 1, R2, by omega, by go_num, rfl, HR2.out, hBq⟩
              case measure => simp [intOf]; omega
          · have hqe : q = m := by omega
            subst hqe
            have htot := Htot.out
            have hfl := Hfl.out
            by_cases hm0 : 0 < q
            · have hlp := Hpl.out q (by rw [Hem.out]; omega)
              rw [Hem.out, if_pos hm0] at hlp
              have a1 := str_add R ⟨#[125]⟩ (by show R.size + 1 ≤ maxLen; unfold maxLen; omega)
              obtain ⟨R1, hR1⟩ : ∃ R1, R ++ ⟨#[125]⟩ = R1 := ⟨_, rfl⟩
              have hR1l : R1.data.toList = putF (ts.take (k + 1)) := by
                rw [← hR1, app_list, hR, Hft.out, Hpa.out (by rw [Hem.out]; exact hm0), Hem.out]; simp
              rw [hR1] at a1
              have HR1 := hide hR1l
              clear hR1l hR1 hR hRs htot hfl hlp g1 g2 g4 h1 h2 h3 hx
              go_wp2
              go_roundw
              case rel => exact ⟨k + 1, R1, by omega, by go_num, rfl, HR1.out, hBq⟩
              case measure => simp [intOf]; omega
            · have hq0 : q = 0 := by omega
              have hRl : R.data.toList = putF (ts.take (k + 1)) := by
                have hsp : x.specs = [] := List.eq_nil_of_length_eq_zero (by rw [Hem.out]; exact hq0)
                rw [hR, Hft.out, hq0]
                simp [insP, putPt, hsp]
              have HRl := hide hRl
              subst hq0
              clear hRl hR hRs htot hfl g1 g2 g4 h1 h2 h3 hx
              go_wp2
              go_roundw
              case rel => exact ⟨k + 1, R, by omega, by go_num, rfl, HRl.out, hBq⟩
              case measure => simp [intOf]; omega
      · have hke : k = ts.length := by omega
        have hr : S = ⟨(putF ts).toArray⟩ := arr_ext (by rw [hS, hke, List.take_length])
        have Hr := hide hr
        clear hr hS
        go_wp2
        all_goals go_ret
        all_goals exact ⟨ret_str Hr.out, hB⟩
theorem rputT_is (v : Value) (ts : List Pt) (p : ByteArray) (w : World) (h : PtsAt w v ts) (hn : ts.length ≤ 100000) (hs : ∀ x ∈ ts, x.specs.length ≤ 100000) (hl : ∀ x ∈ ts, x.lit.length ≤ 100000) (hy : ∀ x ∈ ts, ∀ y ∈ x.specs, y.name.length ≤ 1000000) (hp : (putF ts).length ≤ 10000000) (hr : p.data.toList = putT ts) :
    Calls Tryz.prog 15 #[v] w fun e w' => e = .returned (.string p) ∧ Below w.heap.size w w' := by
  have e : p = ⟨(putT ts).toArray⟩ := arr_ext hr
  subst e; exact rputT_any v ts w h hn hs hl hy hp
end Go.Proofs.YtjbnofljoijnmaaGreatDoor
