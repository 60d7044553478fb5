/-
  Joined by program out of the texts A11 A12.
-/
import Derived.Test.YtjbnofljoijnmaaGreatDoorY16
/-
  Rows of parts; WALKS: the reference's Is.
-/
namespace Go.Proofs.YtjbnofljoijnmaaGreatDoor
open Go.RowKit Go.Lib

def ptV (p : Pt × Value) : List Value := [.string ⟨p.1.lit.toArray⟩, .int .u8 p.1.op.toNat, p.2]
def ptsV (ps : List (Pt × Value)) : List Value := ps.flatMap ptV
theorem ptsV_snoc (ps : List (Pt × Value)) (p : Pt × Value) : ptsV (ps ++ [p]) = ptsV ps ++ ptV p := by simp [ptsV]
/-- parts whose variables lie in memory -/
def Held (w : World) (ps : List (Pt × Value)) : Prop := ∀ p ∈ ps, SpecsAt w p.2 p.1.specs ∧ TySp w p.2
theorem Held.later {w w' : World} {ps : List (Pt × Value)} (h : Held w ps) (hb : Below w.heap.size w w') : Held w' ps := fun p hp => ⟨(h p hp).1.later hb, (h p hp).2.later hb⟩
theorem Held.snoc {w : World} {ps : List (Pt × Value)} {p : Pt × Value} (h : Held w ps) (h1 : SpecsAt w p.2 p.1.specs) (h2 : TySp w p.2) : Held w (ps ++ [p]) := by
  intro q hq
  rcases List.mem_append.1 hq with hq | hq
  · exact h q hq
  · rw [List.mem_singleton.1 hq]; exact ⟨h1, h2⟩
/-- they stay where a row of parts grows -/
theorem Held.grown {w w' : World} {ps : List (Pt × Value)} {base z n : Nat} {v : Value} {xs : List Value} (h : Held w ps) (hown : w.ownsRow base 43 z v n xs) (hg : w.grownBy w' v.ownBlock) : Held w' ps := by
  intro p hp
  obtain ⟨h1, h2⟩ := h p hp
  have hne : ∀ a m c, p.2 = .slice (some a) m c → some a.block ≠ v.ownBlock := by
    intro a m c e hb
    obtain ⟨cur, fr, hc⟩ := h2 a m c e
    rcases hown.2 with ⟨rfl, _⟩ | ⟨g, cap, cur', rfl, _, hg', _⟩
    · cases hb
    · have : a.block = g := Option.some.inj hb
      rw [this, hg'] at hc
      have := congrArg (fun o : Option Obj => match o with | some (.cells _ t _) => t | _ => 0) hc
      simp at this
  constructor
  · rcases h1 with h1 | ⟨hp1, b, off, cap, e, hc⟩
    · exact .inl h1
    · refine .inr ⟨hp1, b, off, cap, e, fun k hk => ?_⟩
      obtain ⟨c1, c2, c3⟩ := hc k hk
      have hb := hne _ _ _ e
      exact ⟨hg.cell c1 hb, hg.cell c2 hb, hg.cell c3 hb⟩
  · intro a m c e
    obtain ⟨cur, fr, hc⟩ := h2 a m c e
    exact ⟨cur, fr, (hg.block a.block (lt_of_block hc) (hne a m c e)).trans hc⟩
theorem PtsAt.of_owns {w : World} {base : Nat} {v : Value} {ps : List (Pt × Value)} (h : w.ownsRow base 43 3 v ps.length (ptsV ps)) (hh : Held w ps) : PtsAt w v (ps.map (·.1)) := by
  have h' := h
  rcases h.2 with ⟨rfl, h0⟩ | ⟨g, cap, cur, rfl, _, hg, hn, hm, hs, ht⟩
  · have : ps = [] := List.eq_nil_of_length_eq_zero h0
    subst this
    exact .inl ⟨rfl, _, _, rfl⟩
  · by_cases hp : 0 < ps.length
    · refine .inr ⟨by simpa using hp, g, 0, cap, by simp, fun k hk => ?_⟩
      have hk' : k < ps.length := by simpa using hk
      rw [Nat.zero_add]
      have e0 := h'.cellAt (k * 3 + 0) (by omega)
      have e1 := h'.cellAt (k * 3 + 1) (by omega)
      have e2 := h'.cellAt (k * 3 + 2) (by omega)
      unfold ptsV at e0 e1 e2
      rw [three_at ptV (fun _ => rfl) ps k _ hk' (by omega)] at e0 e1 e2
      have em : (ps.map (·.1))[k] = ps[k].1 := by simp
      rw [em]
      exact ⟨e0, e1, ps[k].2, e2, (hh _ (List.getElem_mem hk')).1⟩
    · have : ps = [] := List.eq_nil_of_length_eq_zero (by omega)
      subst this
      exact .inl ⟨rfl, _, _, rfl⟩
theorem info45 : (Tryz.prog.info? 43).map (fun i => (i.zero, i.size, i.bytes)) = some (some (.agg #[.string ⟨#[]⟩, .int .u8 0, .slice none 0 0]), 3, 48) := by kernel_rfl
/-- Is's answer -/
def IsPost (w : World) (o : Option (List Pt)) (e : Ending) (w' : World) : Prop :=
  Below w.heap.size w w' ∧ match o with
  | some ts => ∃ v, e = .returned (.tuple #[v, .bool true]) ∧ PtsAt w' v ts
  | none => e = .returned (.tuple #[.slice none 0 0, .bool false])
/-- bytes ahead of the first brace that shuts, so far -/
theorem shut_far {t : List UInt8} {j : Nat} (hj : j ≤ t.length) (h : ∀ i (hi : i < t.length), i < j → t[i] ≠ 125) : j ≤ shutN t := by
  induction t generalizing j with
  | nil => simp at hj; omega
  | cons a t ih =>
    cases j with
    | zero => omega
    | succ j =>
      have h0 : a ≠ 125 := h 0 (by simp) (by omega)
      have e : shutN (a :: t) = shutN t + 1 := by simp [shutN, h0]
      rw [e]
      have := ih (j := j) (by simpa using hj) (fun i hi hij => h (i + 1) (by simpa using hi) (by omega))
      omega
theorem shut_le (t : List UInt8) : shutN t ≤ t.length := (List.takeWhile_prefix _).length_le
theorem shut_at {t : List UInt8} {j : Nat} (hj : j < t.length) (h : ∀ i (hi : i < t.length), i < j → t[i] ≠ 125) (h125 : t[j] = 125) : shutN t = j := by
  induction t generalizing j with
  | nil => simp at hj
  | cons a t ih =>
    cases j with
    | zero =>
      have : a = 125 := h125
      subst this
      simp [shutN]
    | succ j =>
      have h0 : a ≠ 125 := h 0 (by simp) (by omega)
      have e : shutN (a :: t) = shutN t + 1 := by simp [shutN, h0]
      rw [e, ih (j := j) (by simpa using hj) (fun i hi hij => h (i + 1) (by simpa using hi) (by omega)) h125]
end Go.Proofs.YtjbnofljoijnmaaGreatDoor

/-
  WALKS: the reference's Is (layer 7).
-/
namespace Go.Proofs.YtjbnofljoijnmaaGreatDoor
open Go.RowKit Go.Lib

set_option maxRecDepth 20000 in
set_option maxHeartbeats 8000000 in
theorem isT_any (s : ByteArray) (w : World) (hs : s.size ≤ 100000) : Calls Tryz.prog 26 #[.string s] w fun e w' => IsPost w (isT s.data.toList) e w' := by
  obtain ⟨i0, hi, hz0, hz1, hz2⟩ := info_parts info45
  obtain ⟨res, eres⟩ : ∃ res, isT s.data.toList = res := ⟨_, rfl⟩
  rw [eres]
  go_enter Tryz.func26, Tryz.ntmps26
  go_wp2
  go_loopw [0, 4] (fun v o wr => ∃ (r : ByteArray) (ps : List (Pt × Value)) (va : Option Addr) (vc : Nat), v = .string r ∧ o = .slice va ps.length vc ∧ ps.length + r.size ≤ s.size ∧ res = (isT r.data.toList).map (ps.map (·.1) ++ ·) ∧ Below w.heap.size w wr ∧ wr.ownsRow w.heap.size 43 3 (.slice va ps.length vc) ps.length (ptsV ps) ∧ Held wr ps) (fun v _ _ => sizeV v)
  case atStart => exact ⟨s, [], none, 0, rfl, rfl, by simp, by rw [← eres]; simp, Below.refl _ _, World.ownsRow_nil _ _ _ _, fun p hp => by cases hp⟩
  case round =>
    obtain ⟨r, ps, va, vc, rfl, rfl, hr, hres, hB, hown, hheld⟩ := hrel
    by_cases hr0 : 0 < r.size
    · have hE := eq_some r hr0
      have hone := list_one r hr0
      by_cases h123 : r[0] = 123
      · have hc : ((r[0].toNat : Int) == 123) = true := by simp [h123]
        obtain ⟨tl, etl⟩ : ∃ tl, r.data.toList.drop 1 = tl := ⟨_, rfl⟩
        rw [etl, h123] at hone
        have htl : tl.length = r.size - 1 := by rw [← etl, List.length_drop, ← size_list]
        rw [hone, isT_brace] at hres
        have hget : ∀ i (hi : i < tl.length), tl[i] = r[i + 1]'(by omega) := by
          intro i hi
          subst etl
          rw [List.getElem_drop]
          simp only [show 1 + i = i + 1 by omega]
          rfl
        have Hget := hide hget
        have Hres := hide hres
        have Hown := hide hown
        have Hheld := hide hheld
        have Hone := hide hone
        clear hget hres hown hheld hone h123
        have Hetl := hide etl
        clear etl
        go_wp2
        go_loopw [5] (fun i wq => ∃ j : Nat, i = .int .i64 j ∧ 1 ≤ j ∧ j ≤ r.size ∧ wq = wr ∧ ∀ q (hq : q < tl.length), q < j - 1 → tl[q] ≠ 125) (fun i _ => r.size - (intOf i).toNat)
        case atStart => exact ⟨1, rfl, Nat.le_refl _, by omega, rfl, fun q _ h => by omega⟩
        case round =>
          obtain ⟨j, rfl, hj1, hjr, hw, hno⟩ := hrel
          subst hw
          by_cases hjl : j < r.size
          · by_cases h125 : r[j] = 125
            · have hne : ((r[j].toNat : Int) != 125) = false := by simp [h125]
              have hjt : j - 1 < tl.length := by omega
              have hsh : shutN tl = j - 1 := shut_at hjt hno (by rw [Hget.out (j - 1) hjt]; simp only [show j - 1 + 1 = j by omega]; exact h125)
              have etl := Hetl.out
              have hMl : (r.extract 1 j).data.toList = tl.take (j - 1) := by
                have e := Lib.extract_toList r 1 j
                rw [Lib.toList_data] at e
                rw [e, ← etl]
              have hTl : (r.extract (j + 1) r.size).data.toList = tl.drop j := by
                rw [cut_list, ← etl, List.drop_drop]
                congr 1
                omega
              obtain ⟨M, hM⟩ : ∃ M, r.extract 1 j = M := ⟨_, rfl⟩
              obtain ⟨T, hT⟩ : ∃ T, r.extract (j + 1) r.size = T := ⟨_, rfl⟩
              rw [hM] at hMl
              rw [hT] at hTl
              have hMs : M.size ≤ 100000 := by rw [← hM]; simp; omega
              have hTs : T.size = r.size - (j + 1) := by rw [← hT]; simp
              have hres2 : res = ((insT M.data.toList).bind fun x => (isT T.data.toList).map (x :: ·)).map (ps.map (·.1) ++ ·) := by
                rw [Hres.out, if_pos (by omega), hsh, hMl, hTl, show j - 1 + 1 = j by omega]
              obtain ⟨o, ho⟩ : ∃ o, insT M.data.toList = o := ⟨_, rfl⟩
              rw [ho] at hres2
              have Ho := hide ho
              have Hno := hide hno
              clear hno hMl hTl ho hsh h125 Hget Hno Hone etl Hetl
              cases o with
              | none =>
                have hr2 : res = none := by rw [hres2]; rfl
                have Hr := hide hr2
                clear hr2 hres2
                go_wp2_with (go_at_call 44; refine (ins_is M none _ hMs Ho.out).mono ?_; rintro e w1 ⟨bb, he⟩; simp only at he; subst he; replace hB := hB.trans (bb.mono hB.size); clear bb)
                have hB2 := hB.alloc hB.size (.cells #[.string ⟨#[]⟩, .int .u8 0, .slice none 0 0] 43)
                all_goals go_ret2
                all_goals exact ⟨hB2, by rw [Hr.out]; exact rfl⟩
              | some x =>
                have hr2 : res = (isT T.data.toList).map ((ps.map (·.1) ++ [x]) ++ ·) := by
                  rw [hres2]
                  cases isT T.data.toList <;> simp
                have Hr := hide hr2
                clear hr2 hres2
                go_wp2_with (first | (go_at_call 44; refine (ins_is M (some x) _ hMs Ho.out).mono ?_; rintro e w1 ⟨bb, he⟩; simp only at he; obtain ⟨sv, rfl, hsv, hty⟩ := he; obtain ⟨sa, sc, esv⟩ := hsv.form; rw [esv] at hsv hty; subst esv) | (at_builtin; refine wpList_append_own _ rfl _ _ 23 rfl w.heap.size 43 i0 (.agg #[.string ⟨#[]⟩, .int .u8 0, .slice none 0 0]) 3 48 Tryz.underlying23 hi hz0 hz1 hz2 rfl (by decide) _ _ _ rfl (((own_later Hown.out bb).alloc _).alloc _) ⟨w1.heap.size + 1, 0, none⟩ 1 1 [.string ⟨x.lit.toArray⟩, .int .u8 x.op.toNat, .slice sa x.specs.length sc] rfl rfl ?c1 ?c2 ?c3 ?c4 ?c5 ?_))
                case c1 =>
                  intro q u hq
                  match q, hq with
                  | 0, hq => simp at hq; subst hq; simp [Addr.add]
                  | 1, hq => simp at hq; subst hq; simp [Addr.add]
                  | 2, hq => simp at hq; subst hq; simp [Addr.add]
                case c2 => intro u hu; simp at hu; rcases hu with rfl | rfl | rfl <;> rfl
                case c3 => unfold maxLen; omega
                case c4 => omega
                case c5 => have h8 := hB.size; have h9 := bb.size; simp; omega
                · intro v' w4 hown' hgrow _
                  have hB1 := hB.trans (bb.mono hB.size)
                  have h9 := hB1.size
                  have hownW := ((own_later Hown.out bb).alloc (.cells #[.string ⟨x.lit.toArray⟩, .int .u8 x.op.toNat, .slice sa x.specs.length sc] 43)).alloc (.cells #[.string ⟨x.lit.toArray⟩, .int .u8 x.op.toNat, .slice sa x.specs.length sc] 43)
                  have hB2 := (hB1.alloc hB1.size (.cells #[.string ⟨x.lit.toArray⟩, .int .u8 x.op.toNat, .slice sa x.specs.length sc] 43)).alloc (by simp; omega) (.cells #[.string ⟨x.lit.toArray⟩, .int .u8 x.op.toNat, .slice sa x.specs.length sc] 43)
                  have hB4 := hB2.grown hgrow (by simp; omega) (fun q hq => (hownW.lt q hq).1)
                  have hh1 : Held w1 (ps ++ [(x, .slice sa x.specs.length sc)]) := (Hheld.out.later bb).snoc hsv hty
                  have hh4 := ((hh1.later ((Below.refl _ _).alloc (Nat.le_refl _) _)).later ((Below.refl _ _).alloc (Nat.le_refl _) _)).grown hownW hgrow
                  have hvs' : ∃ a c', v' = .slice (some ⟨a, 0, none⟩) (ps.length + 1) c' := by
                    rcases hown'.2 with ⟨_, h⟩ | ⟨g, cap, cur, rfl, _⟩
                    · omega
                    · exact ⟨_, _, rfl⟩
                  obtain ⟨va', vc', hv'⟩ := hvs'
                  rw [hv'] at hown' ⊢
                  have Hown4 := hide hown'
                  have Hh4 := hide hh4
                  clear hown' hgrow hv' hownW hB2 hh1 hh4 hsv hty
                  go_wp2
                  go_roundw
                  case rel => exact ⟨T, ps ++ [(x, .slice sa x.specs.length sc)], some ⟨va', 0, none⟩, vc', rfl, by rw [List.length_append]; rfl, by rw [List.length_append]; simp; omega, by rw [Hr.out]; simp, hB4, by rw [List.length_append, ptsV_snoc]; exact Hown4.out, Hh4.out⟩
                  case measure => simp only [sizeV]; omega
            · have hne : ((r[j].toNat : Int) != 125) = true := by
                have : r[j].toNat ≠ 125 := fun e => h125 (UInt8.toNat_inj.1 e)
                simp; omega
              have hno2 : ∀ q (hq : q < tl.length), q < j + 1 - 1 → tl[q] ≠ 125 := by
                intro q hq hqj
                by_cases e : q < j - 1
                · exact hno q hq e
                · have : q = j - 1 := by omega
                  subst this
                  rw [Hget.out (j - 1) hq]
                  simp only [show j - 1 + 1 = j by omega]
                  exact h125
              have Hno2 := hide hno2
              clear hno hno2 h125
              go_wp2
              go_roundw
              case rel => exact ⟨j + 1, by go_num, by omega, by omega, by first | rfl | trivial, Hno2.out⟩
              case measure => simp [intOf]; omega
          · have hje : j = r.size := by omega
            have hsh : ¬ shutN tl < tl.length := by
              have := shut_far (t := tl) (j := tl.length) (Nat.le_refl _) (fun i hi hij => hno i hi (by omega))
              omega
            have hr2 : res = none := by rw [Hres.out, if_neg hsh]; rfl
            have Hr := hide hr2
            have Hno := hide hno
            clear hr2 hsh hno
            subst hje
            go_wp2
            all_goals go_ret2
            all_goals exact ⟨hB, by rw [Hr.out]; exact rfl⟩
      · have hc : ((r[0].toNat : Int) == 123) = false := by
          have : r[0].toNat ≠ 123 := fun e => h123 (UInt8.toNat_inj.1 e)
          simp; omega
        have hlit : isT r.data.toList = if litLen r.data.toList = 0 then none else (isT (r.data.toList.drop (litLen r.data.toList))).map (⟨r.data.toList.take (litLen r.data.toList), 0, []⟩ :: ·) := by
          refine isT_lit (by rw [hone]; simp) ?_
          intro t e
          rw [hone] at e
          exact h123 (List.cons.inj e).1
        rw [hlit] at hres
        have hll := litLen_le r.data.toList
        rw [← size_list] at hll
        obtain ⟨n, hn⟩ : ∃ n, litLen r.data.toList = n := ⟨_, rfl⟩
        rw [hn] at hres hll
        have Hn := hide hn
        have Hres := hide hres
        have Hown := hide hown
        have Hheld := hide hheld
        clear hlit hres hn hone h123 hown hheld
        go_wp2
        go_loopw [8] (fun i wq => ∃ j : Nat, i = .int .i64 j ∧ j ≤ n ∧ j + litLen (r.data.toList.drop j) = n ∧ Below wr.heap.size wr wq) (fun i _ => n - (intOf i).toNat)
        case atStart => exact ⟨0, rfl, Nat.zero_le _, by rw [List.drop_zero, Nat.zero_add]; exact Hn.out, Below.refl _ _⟩
        case round =>
          obtain ⟨j, rfl, hjn, hj, hBq⟩ := hrel
          obtain ⟨T, hT⟩ : ∃ T, r.extract j r.size = T := ⟨_, rfl⟩
          have hTl : T.data.toList = r.data.toList.drop j := by rw [← hT, cut_list]
          have hTs : T.size = r.size - j := by rw [← hT]; simp
          obtain ⟨q, hq⟩ : ∃ q, pieceL T.data.toList = q := ⟨_, rfl⟩
          have hql := piece_le T.data.toList
          rw [hq, ← size_list] at hql
          have Hq : Hid ((pieceL T.data.toList : Int) = q) := congrArg Nat.cast hq
          rw [← hTl] at hj
          by_cases hjl : j < r.size
          · by_cases hq0 : 0 < q
            · have hjq : j + q + litLen (r.data.toList.drop (j + q)) = n := by
                have e := litLen_next (l := T.data.toList) (by omega)
                rw [hq, hTl, List.drop_drop, ← hTl] at e
                omega
              have Hjq := hide hjq
              have hjn2 : j + q ≤ n := by omega
              have S1 : Hid True := trivial
              clear hj hq hjq hTl
              go_wp2_with (go_at_call 39; refine (piece_is T _ _ (by omega) Hq.out).mono ?_; rintro e w1 ⟨rfl, bb⟩; replace hBq := hBq.trans (bb.mono hBq.size); clear bb)
              go_roundw
              case rel => exact ⟨j + q, by go_num, hjn2, Hjq.out, hBq⟩
              case measure => simp [intOf]; omega
            · have hq1 : q = 0 := by omega
              have hjn2 : j = n := by
                have e := litLen_zero (l := T.data.toList) (by omega)
                omega
              subst hq1
              subst hjn2
              by_cases hn0 : j = 0
              · have hr2 : res = none := by rw [Hres.out, if_pos hn0]; rfl
                have Hr := hide hr2
                clear hr2 hj hq hTl
                subst hn0
                go_wp2_with (go_at_call 39; refine (piece_is T _ _ (by omega) Hq.out).mono ?_; rintro e w1 ⟨rfl, bb⟩; replace hBq := hBq.trans (bb.mono hBq.size); clear bb)
                have hB1 := hB.trans (hBq.mono hB.size)
                all_goals go_ret2
                all_goals exact ⟨hB1, by rw [Hr.out]; exact rfl⟩
              · have hn1 : ((j : Int) == 0) = false := by simp; omega
                clear hj hq hTl
                obtain ⟨L, hL⟩ : ∃ L, r.extract 0 j = L := ⟨_, rfl⟩
                have hLl : L.data.toList = r.data.toList.take j := by rw [← hL, head_list]
                have hT2l : T.data.toList = r.data.toList.drop j := by rw [← hT, cut_list]
                have hr2 : res = (isT T.data.toList).map ((ps.map (·.1) ++ [⟨L.data.toList, 0, []⟩]) ++ ·) := by
                  rw [Hres.out, if_neg (by omega), hLl, hT2l]
                  cases isT (r.data.toList.drop j) <;> simp
                have hptv : ptV ((⟨L.data.toList, 0, []⟩ : Pt), Value.slice none 0 0) = [.string L, .int .u8 0, .slice none 0 0] := rfl
                have Hr := hide hr2
                have Hptv := hide hptv
                clear hr2 hLl hT2l hptv
                go_wp2_with (first | (go_at_call 39; refine (piece_is T _ _ (by omega) Hq.out).mono ?_; rintro e w1 ⟨rfl, bb⟩; replace hBq := hBq.trans (bb.mono hBq.size); clear bb) | (at_builtin; refine wpList_append_own _ rfl _ _ 23 rfl w.heap.size 43 i0 (.agg #[.string ⟨#[]⟩, .int .u8 0, .slice none 0 0]) 3 48 Tryz.underlying23 hi hz0 hz1 hz2 rfl (by decide) _ _ _ rfl ((own_later Hown.out hBq).alloc _) ⟨w1.heap.size, 0, none⟩ 1 1 [.string L, .int .u8 0, .slice none 0 0] rfl rfl ?c1 ?c2 ?c3 ?c4 ?c5 ?_))
                case c1 =>
                  intro q u hq
                  match q, hq with
                  | 0, hq => simp at hq; subst hq; simp [Addr.add]
                  | 1, hq => simp at hq; subst hq; simp [Addr.add]
                  | 2, hq => simp at hq; subst hq; simp [Addr.add]
                case c2 => intro u hu; simp at hu; rcases hu with rfl | rfl | rfl <;> rfl
                case c3 => unfold maxLen; omega
                case c4 => omega
                case c5 => have h8 := hB.size; have h9 := hBq.size; simp; omega
                · intro v' w4 hown' hgrow _
                  have hB1 := hB.trans (hBq.mono hB.size)
                  have h9 := hB1.size
                  have hownW := (own_later Hown.out hBq).alloc (.cells #[.string L, .int .u8 0, .slice none 0 0] 43)
                  have hB2 := hB1.alloc hB1.size (.cells #[.string L, .int .u8 0, .slice none 0 0] 43)
                  have hB4 := hB2.grown hgrow (by simp; omega) (fun q hq => (hownW.lt q hq).1)
                  have hh1 : Held w1 (ps ++ [((⟨L.data.toList, 0, []⟩ : Pt), .slice none 0 0)]) := (Hheld.out.later hBq).snoc (.inl ⟨rfl, none, 0, rfl⟩) (TySp.none _)
                  have hh4 := (hh1.later ((Below.refl _ _).alloc (Nat.le_refl _) _)).grown hownW hgrow
                  have hvs' : ∃ a c', v' = .slice (some ⟨a, 0, none⟩) (ps.length + 1) c' := by
                    rcases hown'.2 with ⟨_, h⟩ | ⟨g, cap, cur, rfl, _⟩
                    · omega
                    · exact ⟨_, _, rfl⟩
                  obtain ⟨va', vc', hv'⟩ := hvs'
                  rw [hv'] at hown' ⊢
                  have Hown4 := hide hown'
                  have Hh4 := hide hh4
                  clear hown' hgrow hv' hownW hB2 hh1 hh4
                  go_wp2
                  go_roundw
                  case rel => exact ⟨T, ps ++ [((⟨L.data.toList, 0, []⟩ : Pt), .slice none 0 0)], some ⟨va', 0, none⟩, vc', rfl, by rw [List.length_append]; rfl, by rw [List.length_append]; simp; omega, by rw [Hr.out]; simp, hB4, by rw [List.length_append, ptsV_snoc, Hptv.out]; exact Hown4.out, Hh4.out⟩
                  case measure => simp only [sizeV]; omega
          · have hjn2 : j = n := by omega
            subst hjn2
            have hn1 : ((j : Int) == 0) = false := by simp; omega
            have hje : ¬ j < r.size := hjl
            clear hj hq hTl
            obtain ⟨L, hL⟩ : ∃ L, r.extract 0 j = L := ⟨_, rfl⟩
            have hLl : L.data.toList = r.data.toList.take j := by rw [← hL, head_list]
            have hT2l : T.data.toList = r.data.toList.drop j := by rw [← hT, cut_list]
            have hr2 : res = (isT T.data.toList).map ((ps.map (·.1) ++ [⟨L.data.toList, 0, []⟩]) ++ ·) := by
              rw [Hres.out, if_neg (by omega), hLl, hT2l]
              cases isT (r.data.toList.drop j) <;> simp
            have hptv : ptV ((⟨L.data.toList, 0, []⟩ : Pt), Value.slice none 0 0) = [.string L, .int .u8 0, .slice none 0 0] := rfl
            have Hr := hide hr2
            have Hptv := hide hptv
            clear hr2 hLl hT2l hptv
            go_wp2_with (at_builtin; refine wpList_append_own _ rfl _ _ 23 rfl w.heap.size 43 i0 (.agg #[.string ⟨#[]⟩, .int .u8 0, .slice none 0 0]) 3 48 Tryz.underlying23 hi hz0 hz1 hz2 rfl (by decide) _ _ _ rfl ((own_later Hown.out hBq).alloc _) ⟨wr.heap.size, 0, none⟩ 1 1 [.string L, .int .u8 0, .slice none 0 0] rfl rfl ?c1 ?c2 ?c3 ?c4 ?c5 ?_)
            case c1 =>
              intro q u hq
              match q, hq with
              | 0, hq => simp at hq; subst hq; simp [Addr.add]
              | 1, hq => simp at hq; subst hq; simp [Addr.add]
              | 2, hq => simp at hq; subst hq; simp [Addr.add]
            case c2 => intro u hu; simp at hu; rcases hu with rfl | rfl | rfl <;> rfl
            case c3 => unfold maxLen; omega
            case c4 => omega
            case c5 => have h8 := hB.size; have h9 := hBq.size; simp; omega
            · intro v' w4 hown' hgrow _
              have hB1 := hB.trans (hBq.mono hB.size)
              have h9 := hB1.size
              have hownW := (own_later Hown.out hBq).alloc (.cells #[.string L, .int .u8 0, .slice none 0 0] 43)
              have hB2 := hB1.alloc hB1.size (.cells #[.string L, .int .u8 0, .slice none 0 0] 43)
              have hB4 := hB2.grown hgrow (by simp; omega) (fun q hq => (hownW.lt q hq).1)
              have hh1 : Held wr (ps ++ [((⟨L.data.toList, 0, []⟩ : Pt), .slice none 0 0)]) := (Hheld.out.later hBq).snoc (.inl ⟨rfl, none, 0, rfl⟩) (TySp.none _)
              have hh4 := (hh1.later ((Below.refl _ _).alloc (Nat.le_refl _) _)).grown hownW hgrow
              have hvs' : ∃ a c', v' = .slice (some ⟨a, 0, none⟩) (ps.length + 1) c' := by
                rcases hown'.2 with ⟨_, h⟩ | ⟨g, cap, cur, rfl, _⟩
                · omega
                · exact ⟨_, _, rfl⟩
              obtain ⟨va', vc', hv'⟩ := hvs'
              rw [hv'] at hown' ⊢
              have Hown4 := hide hown'
              have Hh4 := hide hh4
              clear hown' hgrow hv' hownW hB2 hh1 hh4
              go_wp2
              go_roundw
              case rel => exact ⟨T, ps ++ [((⟨L.data.toList, 0, []⟩ : Pt), .slice none 0 0)], some ⟨va', 0, none⟩, vc', rfl, by rw [List.length_append]; rfl, by rw [List.length_append]; simp; omega, by rw [Hr.out]; simp, hB4, by rw [List.length_append, ptsV_snoc, Hptv.out]; exact Hown4.out, Hh4.out⟩
              case measure => simp only [sizeV]; omega
    · have hE := eq_none r hr0
      have hr2 : res = some (ps.map (·.1)) := by rw [hres, list_none r hr0, isT_nil]; simp
      have Hr := hide hr2
      have Hown := hide hown
      have Hheld := hide hheld
      clear hr2 hown hheld hres
      go_wp2
      all_goals go_ret2
      all_goals exact ⟨hB, by rw [Hr.out]; exact ⟨_, rfl, PtsAt.of_owns Hown.out Hheld.out⟩⟩
theorem isT_is (s : ByteArray) (o : Option (List Pt)) (w : World) (hs : s.size ≤ 100000) (h : isT s.data.toList = o) : Calls Tryz.prog 26 #[.string s] w fun e w' => IsPost w o e w' := by
  subst h; exact isT_any s w hs
end Go.Proofs.YtjbnofljoijnmaaGreatDoor
