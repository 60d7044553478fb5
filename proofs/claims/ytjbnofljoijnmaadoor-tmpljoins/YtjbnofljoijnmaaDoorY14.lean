/-
  Joined by program out of the texts A2 A3 A4 A5 A6 A7.
-/
import Derived.Test.YtjbnofljoijnmaaDoorY09
import Derived.Test.YtjbnofljoijnmaaDoorY04
import Derived.Laws.StructEq
/-
  WALKS: the reference's In, Operator, Literal (a class).
-/
namespace Go.Proofs.YtjbnofljoijnmaaDoor
open Go.RowKit

def inB (l : List UInt8) (n : Nat) : Bool := l.any fun c => decide (n = c.toNat)
theorem in_snoc (l : List UInt8) (c : UInt8) (n : Nat) : inB (l ++ [c]) n = (inB l n || decide (n = c.toNat)) := by unfold inB; simp
theorem in_more (l : List UInt8) (k n : Nat) (h : inB (l.take k) n = true) : inB l n = true := by
  unfold inB at *
  rw [List.any_eq_true] at *
  obtain ⟨x, hx, hc⟩ := h
  exact ⟨x, List.mem_of_mem_take hx, hc⟩

theorem op_in : ∀ n : Fin 256, inB [43, 35, 46, 47, 59, 63, 38] n.val = opN n.val := by decide +kernel
theorem lit_in : ∀ n : Fin 256, (decide (33 ≤ n.val ∧ n.val ≤ 126) && !inB [34, 39, 37, 60, 62, 92, 94, 96, 123, 124, 125] n.val) = litN n.val := by decide +kernel
end Go.Proofs.YtjbnofljoijnmaaDoor

/-
  WALKS: the reference's Piece, Literal (a text).
-/
namespace Go.Proofs.YtjbnofljoijnmaaDoor
open Go.RowKit

/-- how long a text in a slot is -/
def sizeV : Value → Nat | .string b => b.size | _ => 0
theorem piece_le (l : List UInt8) : pieceL l ≤ l.length := by
  by_cases h : pieceL l = 0
  · omega
  · obtain ⟨p, r, _, e, e2⟩ := piece_to h
    rw [e2, e]; simp

end Go.Proofs.YtjbnofljoijnmaaDoor

/-
  WALKS: the reference's Has.
-/
namespace Go.Proofs.YtjbnofljoijnmaaDoor
open Go.RowKit

theorem contains_snoc (ps : List (List UInt8)) (k : Nat) (h : k < ps.length) (x : List UInt8) : (ps.take (k + 1)).contains x = ((ps.take k).contains x || (ps.getD k [] == x)) := by
  have e : ps.take (k + 1) = ps.take k ++ [ps.getD k []] := list_snoc h
  have hc : ∀ (a : List (List UInt8)) (y : List UInt8), (a ++ [y]).contains x = (a.contains x || (y == x)) := by
    intro a y
    rw [Bool.eq_iff_iff]
    simp only [List.contains_iff_mem, List.mem_append, List.mem_singleton, Bool.or_eq_true, beq_iff_eq]
    exact ⟨fun h => h.imp id Eq.symm, fun h => h.imp id Eq.symm⟩
  rw [e, hc]
set_option maxRecDepth 20000 in
set_option maxHeartbeats 1000000 in
theorem has_row (ps : List (List UInt8)) (b off cap : Nat) (s : ByteArray) (w : World) (hmax : ps.length ≤ 1000000)
    (hc : ∀ k, k < ps.length → w.cell? ⟨b, off + k, none⟩ = some (.string ⟨(ps.getD k []).toArray⟩)) :
    Calls Tryd.prog 24 #[.slice (some ⟨b, off, none⟩) ps.length cap, .string s] w fun e w' => e = .returned (.bool (ps.contains s.data.toList)) ∧ Below w.heap.size w w' := by
  go_enter Tryd.func24, Tryd.ntmps24
  go_wp2
  go_loopw [5] (fun i wr => ∃ (k q : Nat), k ≤ ps.length ∧ i = .int .i64 k ∧ wr = w.drewN q ∧ (ps.take k).contains s.data.toList = false) (fun i _ => ps.length - (intOf i).toNat)
  case atStart => exact ⟨0, 0, Nat.zero_le _, rfl, rfl, by simp⟩
  case round =>
    obtain ⟨k, q, hk, rfl, hw, ht⟩ := hrel
    subst hw
    by_cases hlt : k < ps.length
    · have h1 := hc k hlt
      have hsn := contains_snoc ps k hlt s.data.toList
      rw [ht, Bool.false_or] at hsn
      obtain ⟨x, hx⟩ : ∃ x, ps.getD k [] = x := ⟨_, rfl⟩
      rw [hx] at h1 hsn
      have hmem : x ∈ ps := by
        have : ps.getD k [] = ps[k] := by simp [hlt]
        rw [← hx, this]; exact List.getElem_mem hlt
      have hxy := arr_eq (x := x) (y := s.data.toList)
      have es : (⟨s.data.toList.toArray⟩ : ByteArray) = s := rfl
      rw [es] at hxy
      generalize (⟨x.toArray⟩ : ByteArray) = X at *
      have Hsn := hide hsn
      have Hmem := hide hmem
      have Hxy := hide hxy
      have Hc := hide hc
      clear hx hc hsn hmem hxy ht es
      go_wp2
      · rename_i hh
        go_ret
        refine ⟨ret_bool ?_, below_drewN (Below.refl _ _) _⟩
        rw [Hxy.out, decide_eq_true_eq] at hh
        rw [← hh]
        exact (List.contains_iff_mem.2 Hmem.out).symm
      · rename_i hh
        go_roundw
        case rel =>
          refine ⟨k + 1, _, hlt, by go_num, rfl, ?_⟩
          rw [Hsn.out]
          rw [Hxy.out, decide_eq_false_iff_not] at hh
          simpa using hh
        case measure => simp [intOf]; omega
    · have Ht := hide ht
      clear ht
      go_wp2
      go_ret
      refine ⟨ret_bool ?_, below_drewN (Below.refl _ _) _⟩
      have := Ht.out
      rw [List.take_of_length_le (by omega)] at this
      exact this.symm
theorem has_any (ps : List (List UInt8)) (v : Value) (s : ByteArray) (w : World) (hmax : ps.length ≤ 1000000) (h : StrsAt w v ps) :
    Calls Tryd.prog 24 #[v, .string s] w fun e w' => e = .returned (.bool (ps.contains s.data.toList)) ∧ Below w.heap.size w w' := by
  rcases h with ⟨rfl, ao, cap, rfl⟩ | ⟨_, b, off, cap, rfl, hc⟩
  · go_enter Tryd.func24, Tryd.ntmps24
    go_wp2
    go_loop [5] (fun i => i = .int .i64 0) (fun _ => 0)
    case atStart => rfl
    case round =>
      subst hrel
      go_wp2
      go_ret
      exact ⟨rfl, Below.refl _ _⟩
  · exact has_row ps b off cap s w hmax hc
theorem has_is (ps : List (List UInt8)) (v : Value) (s : ByteArray) (r : Bool) (w : World) (hmax : ps.length ≤ 1000000) (h : StrsAt w v ps) (hr : ps.contains s.data.toList = r) :
    Calls Tryd.prog 24 #[v, .string s] w fun e w' => e = .returned (.bool r) ∧ Below w.heap.size w w' := by
  subst hr; exact has_any ps v s w hmax h
end Go.Proofs.YtjbnofljoijnmaaDoor

/-
  WALKS: the reference's Names.
-/
namespace Go.Proofs.YtjbnofljoijnmaaDoor
open Go.RowKit

theorem own_later {W w1 : World} {base : Nat} {v : Value} {n : Nat} {xs : List Value} {t : TypeId} {z : Nat} (h : W.ownsRow base t z v n xs) (bb : Below W.heap.size W w1) : w1.ownsRow base t z v n xs := by
  refine ⟨h.1, ?_⟩
  rcases h.2 with ⟨rfl, h0⟩ | ⟨g, cap, cur, rfl, h1, hg, hn, hm, hs, ht⟩
  · exact .inl ⟨rfl, h0⟩
  · exact .inr ⟨g, cap, cur, rfl, h1, (bb.block g (lt_of_block hg)).trans hg, hn, hm, hs, ht⟩
theorem SpecsAt.at {w : World} {v : Value} {xs : List Sp} (h : SpecsAt w v xs) (k : Nat) (hk : k < xs.length) : ∃ b off cap, v = .slice (some ⟨b, off, none⟩) xs.length cap ∧ b < w.heap.size ∧ w.cell? ⟨b, off + k * 3, none⟩ = some (.string ⟨xs[k].name.toArray⟩) ∧ w.cell? ⟨b, off + k * 3 + 1, none⟩ = some (.int .i64 xs[k].max) ∧ w.cell? ⟨b, off + k * 3 + 2, none⟩ = some (.bool xs[k].star) := by
  rcases h with ⟨rfl, _⟩ | ⟨hp, b, off, cap, rfl, hc⟩
  · simp at hk
  · obtain ⟨h1, h2, h3⟩ := hc k hk
    exact ⟨b, off, cap, rfl, lt_of_cell h1, h1, h2, h3⟩
/-- the names behind so many parts, and so many variables of the next one -/
def namesK (ts : List Pt) (i k : Nat) (h : i < ts.length) : List (List UInt8) := ((ts[i].specs.take k).map (·.name)).foldl addName (namesT (ts.take i))
theorem namesK_zero (ts : List Pt) (i : Nat) (h : i < ts.length) : namesK ts i 0 h = namesT (ts.take i) := rfl
theorem namesK_next (ts : List Pt) (i k : Nat) (h : i < ts.length) (hk : k < ts[i].specs.length) : namesK ts i (k + 1) h = addName (namesK ts i k h) ts[i].specs[k].name := by
  unfold namesK
  rw [List.take_succ_eq_append_getElem hk, List.map_append, List.foldl_append]; rfl
theorem namesK_all (ts : List Pt) (i : Nat) (h : i < ts.length) : namesK ts i ts[i].specs.length h = namesT (ts.take (i + 1)) := by
  unfold namesK namesT
  rw [List.take_length, List.take_succ_eq_append_getElem h, vars_app, List.foldl_append]
  simp [varsT]
theorem add_len (out : List (List UInt8)) (n : List UInt8) : (addName out n).length ≤ out.length + 1 := by
  unfold addName; split <;> simp
theorem names_len : ∀ (vs out : List (List UInt8)), (vs.foldl addName out).length ≤ out.length + vs.length := by
  intro vs
  induction vs with
  | nil => intro out; simp
  | cons v vs ih =>
    intro out
    have := ih (addName out v)
    have := add_len out v
    simp only [List.foldl_cons, List.length_cons]
    omega
theorem names_lenT (ts : List Pt) (hs : ∀ x ∈ ts, x.specs.length ≤ 1000) (i : Nat) : (namesT (ts.take i)).length ≤ 1000 * i := by
  have h1 := names_len (varsT (ts.take i)) []
  have h2 := many_le ts hs i
  unfold manyK manyT at h2
  unfold namesT
  simp only [List.length_nil, Nat.zero_add] at h1
  omega
theorem names_lenK (ts : List Pt) (hs : ∀ x ∈ ts, x.specs.length ≤ 1000) (i k : Nat) (h : i < ts.length) : (namesK ts i k h).length ≤ 1000 * i + k := by
  have h1 := names_len ((ts[i].specs.take k).map (·.name)) (namesT (ts.take i))
  have h2 := names_lenT ts hs i
  rw [List.length_map, List.length_take] at h1
  unfold namesK
  omega

set_option maxRecDepth 20000 in
set_option maxHeartbeats 1000000 in
theorem names_any (v : Value) (ts : List Pt) (w : World) (h : PtsAt w v ts) (hn : ts.length ≤ 1000) (hs : ∀ x ∈ ts, x.specs.length ≤ 1000) :
    Calls Tryd.prog 14 #[v] w fun e w' => ∃ u, e = .returned u ∧ StrsAt w' u (namesT ts) ∧ Below w.heap.size w w' := by
  obtain ⟨i0, hi, hz0, hz1, hz2⟩ := info_parts info9
  obtain ⟨ao, cp, rfl⟩ := h.form
  have H := hide h
  have Hs := hide hs
  clear h hs
  go_enter Tryd.func14, Tryd.ntmps14
  go_wp2
  go_loopw [3, 4] (fun o i wr => ∃ (k : Nat) (ns : List (List UInt8)) (vo : Option Addr) (vc : Nat), k ≤ ts.length ∧ i = .int .i64 k ∧ namesT (ts.take k) = ns ∧ o = .slice vo ns.length vc ∧ wr.ownsRow w.heap.size 9 1 o ns.length (strsV ns) ∧ Below w.heap.size w wr) (fun _ i _ => ts.length - (intOf i).toNat)
  case atStart => exact ⟨0, [], none, 0, Nat.zero_le _, rfl, rfl, rfl, World.ownsRow_nil _ _ _ _, Below.refl _ _⟩
  case round =>
    obtain ⟨k, ns, vo, vc, hk, rfl, hns, rfl, hown, hB⟩ := hrel
    by_cases hlt : k < ts.length
    · obtain ⟨b, off, cap, a, n, e, hb, h1, h2, h3, h4⟩ := (H.out.later hB).at k hlt
      cases e
      have hK0 := namesK_zero ts k hlt
      rw [hns] at hK0
      obtain ⟨m, em⟩ : ∃ m, ts[k].specs.length = m := ⟨_, rfl⟩
      have hm := Hs.out _ (List.getElem_mem hlt)
      rw [em] at h3 hm h4
      have HK0 := hide hK0
      have Hem := hide em
      have H4 := hide h4
      have Hown := hide hown
      clear hK0 em h4 hns hown
      go_wp2
      go_loopw [3, 5] (fun o j wr => ∃ (q : Nat) (ms : List (List UInt8)) (vo : Option Addr) (vc : Nat), q ≤ m ∧ j = .int .i64 q ∧ namesK ts k q hlt = ms ∧ o = .slice vo ms.length vc ∧ wr.ownsRow w.heap.size 9 1 o ms.length (strsV ms) ∧ Below w.heap.size w wr) (fun _ j _ => m - (intOf j).toNat)
      case atStart => exact ⟨0, ns, vo, vc, Nat.zero_le _, rfl, HK0.out, rfl, Hown.out, hB⟩
      case round =>
        obtain ⟨q, ms, vo, vc, hq, rfl, hms, rfl, hown, hB⟩ := hrel
        obtain ⟨b2, off2, cap2, a2, n2, e2, hb2, g1, g2, g3, g4⟩ := (H.out.later hB).at k hlt
        cases e2
        rw [Hem.out] at g3
        by_cases hqm : q < m
        · have hqs : q < ts[k].specs.length := by rw [Hem.out]; exact hqm
          obtain ⟨sb, so, sc, es, hsb, s1, s2, s3⟩ := g4.at q hqs
          rw [Hem.out] at es
          cases es
          have hnx := namesK_next ts k q hlt hqs
          have hln := names_lenK ts Hs.out k q hlt
          rw [hms] at hnx hln
          obtain ⟨nm, hnm⟩ : ∃ nm, ts[k].specs[q].name = nm := ⟨_, rfl⟩
          rw [hnm] at s1 hnx
          obtain ⟨X, hX⟩ : ∃ X : ByteArray, (⟨nm.toArray⟩ : ByteArray) = X := ⟨_, rfl⟩
          have hXl : X.data.toList = nm := by rw [← hX]
          rw [hX] at s1
          have hS := StrsAt.of_owns hown
          have HS := hide hS
          have Hown := hide hown
          have Hnx := hide hnx
          have HX := hide hX
          obtain ⟨cb, hcb⟩ : ∃ cb, ms.contains X.data.toList = cb := ⟨_, rfl⟩
          have Hcb := hide hcb
          clear hS hown hnx hnm hX hms hcb g1 g2 s2 s3 h1 h2 h3 hb
          cases cb
          · have hadd : addName ms nm = ms ++ [nm] := by
              unfold addName; rw [if_neg]; rw [← hXl, Hcb.out]; decide
            have Hadd := hide hadd
            clear hadd hXl
            go_wp2_with (first
              | (go_at_call 24; refine (has_is ms _ X false _ (by omega) HS.out Hcb.out).mono ?_; rintro e w1 ⟨rfl, bb⟩; have g3' := (bb.cell (p := ⟨b, off + k * 3 + 2, none⟩) hb2).trans g3; have s1' := (bb.cell (p := ⟨sb, so + q * 3, none⟩) hsb).trans s1)
              | (at_builtin; refine wpList_append_own _ rfl _ _ 32 rfl w.heap.size 9 i0 (.string ⟨#[]⟩) 1 16 Tryd.underlying32 hi hz0 hz1 hz2 rfl (by decide) _ _ _ rfl ((own_later Hown.out bb).alloc _) ⟨w1.heap.size, 0, none⟩ 1 1 [.string X] rfl rfl ?c1 ?c2 ?c3 ?c4 ?c5 ?_))
            case c1 =>
              intro j u hj
              match j, hj with
              | 0, hj => simp at hj; subst hj; simp [Addr.add]
            case c2 => intro u hu; simp at hu; subst hu; rfl
            case c3 => unfold maxLen; omega
            case c4 => omega
            case c5 => have h8 := hB.size; have h9 := bb.size; simp; omega
            · intro v' w2 hown' hgrow _
              have hB1 := hB.trans (bb.mono hB.size)
              have hB2 := below_own hB1 (Nat.le_refl _) hB1.size (own_later Hown.out bb) hgrow
              have hvs' : ∃ a c', v' = .slice (some ⟨a, 0, none⟩) (ms.length + 1) c' := by
                rcases hown'.2 with ⟨_, h⟩ | ⟨g, cap, cur, rfl, _⟩
                · omega
                · exact ⟨_, _, rfl⟩
              obtain ⟨va', vc', hv'⟩ := hvs'
              rw [hv'] at hown' ⊢
              have Hown2 := hide hown'
              clear hown' hgrow hv'
              go_wp2
              go_roundw
              case rel => exact ⟨q + 1, ms ++ [nm], some ⟨va', 0, none⟩, vc', by omega, by go_num, by rw [Hnx.out, Hadd.out], by rw [List.length_append]; rfl, by rw [List.length_append, strs_snoc, HX.out]; exact Hown2.out, hB2⟩
              case measure => simp [intOf]; omega
          · have hadd : addName ms nm = ms := by
              unfold addName; rw [if_pos]; rw [← hXl]; exact Hcb.out
            have Hadd := hide hadd
            clear hadd hXl
            go_wp2_with (go_at_call 24; refine (has_is ms _ X true _ (by omega) HS.out Hcb.out).mono ?_; rintro e w1 ⟨rfl, bb⟩)
            go_roundw
            case rel => exact ⟨q + 1, ms, vo, vc, by omega, by go_num, by rw [Hnx.out, Hadd.out], rfl, own_later Hown.out bb, hB.trans (bb.mono hB.size)⟩
            case measure => simp [intOf]; omega
        · have hqe : q = m := by omega
          subst hqe
          have hall := namesK_all ts k hlt
          rw [Hem.out, hms] at hall
          have Hall := hide hall
          have Hown := hide hown
          clear hall hown hms
          go_wp2
          go_roundw
          case rel => exact ⟨k + 1, ms, vo, vc, by omega, by go_num, Hall.out.symm, rfl, Hown.out, hB⟩
          case measure => simp [intOf]; omega
    · have hke : k = ts.length := by omega
      have hns2 : namesT ts = ns := by rw [← hns, hke, List.take_length]
      have Hns := hide hns2
      have Hown := hide hown
      clear hns hns2 hown
      go_wp2
      all_goals go_ret
      all_goals exact ⟨_, rfl, by rw [Hns.out]; exact StrsAt.of_owns Hown.out, hB⟩
end Go.Proofs.YtjbnofljoijnmaaDoor

/-
  WALKS: the reference's Few.
-/
namespace Go.Proofs.YtjbnofljoijnmaaDoor
open Go.RowKit

def fewPt (x : Pt) : Bool := decide (x.lit.length ≤ 200) && decide (x.specs.length ≤ 20) && x.specs.all fun y => decide (y.name.length ≤ 200)
/-- 30 parts, of 20 variables, and texts of 200 bytes, at most -/
def fewT (ts : List Pt) : Bool := (ts.take 31).all fewPt && decide (ts.length ≤ 30)
theorem few_all {ts : List Pt} (h : fewT ts = true) : ts.length ≤ 30 ∧ ∀ x ∈ ts, x.lit.length ≤ 200 ∧ x.specs.length ≤ 20 ∧ ∀ y ∈ x.specs, y.name.length ≤ 200 := by
  simp only [fewT, Bool.and_eq_true, decide_eq_true_eq] at h
  rw [List.take_of_length_le (by omega), List.all_eq_true] at h
  refine ⟨h.2, fun x hx => ?_⟩
  have := h.1 x hx
  simp only [fewPt, Bool.and_eq_true, decide_eq_true_eq, List.all_eq_true] at this
  exact ⟨this.1.1, this.1.2, this.2⟩
theorem all_snoc {α : Type} (f : α → Bool) (l : List α) (k : Nat) (h : k < l.length) : (l.take (k + 1)).all f = ((l.take k).all f && f l[k]) := by
  rw [List.take_succ_eq_append_getElem h, List.all_append]
  simp only [List.all_cons, List.all_nil, Bool.and_true]
theorem all_not {α : Type} (f : α → Bool) (l : List α) (k : Nat) (h : k < l.length) (hf : f l[k] = false) : l.all f = false := by
  cases hl : l.all f with
  | false => rfl
  | true => rw [List.all_eq_true.1 hl _ (List.getElem_mem h)] at hf; cases hf
theorem few_not {ts : List Pt} {k : Nat} (h : k < ts.length) (h31 : k < 31) (hf : fewPt ts[k] = false) : fewT ts = false := by
  have hk : k < (ts.take 31).length := by simp; omega
  have := all_not fewPt (ts.take 31) k hk (by rw [List.getElem_take]; exact hf)
  simp [fewT, this]
set_option maxRecDepth 20000 in
set_option maxHeartbeats 2000000 in
theorem few_any (v : Value) (ts : List Pt) (w : World) (h : PtsAt w v ts) (hn : ts.length ≤ 9223372036854775807) (hs : ∀ x ∈ ts, x.specs.length ≤ 9223372036854775807) (hl : ∀ x ∈ ts, x.lit.length ≤ 9223372036854775807 ∧ ∀ y ∈ x.specs, y.name.length ≤ 9223372036854775807) :
    Calls Tryd.prog 7 #[v] w fun e w' => e = .returned (.bool (fewT ts)) ∧ w' = w := by
  obtain ⟨ao, cp, rfl⟩ := h.form
  have H := hide h
  have Hs := hide hs
  have Hl := hide hl
  clear h hs hl
  go_enter Tryd.func7, Tryd.ntmps7
  go_wp2
  go_loopw [3] (fun i wr => ∃ (k : Nat), k ≤ ts.length ∧ k ≤ 31 ∧ i = .int .i64 k ∧ (ts.take k).all fewPt = true ∧ wr = w) (fun i _ => ts.length - (intOf i).toNat)
  case atStart => exact ⟨0, Nat.zero_le _, by omega, rfl, by simp, rfl⟩
  case round =>
    obtain ⟨k, hk, hk31, rfl, hall, rfl⟩ := hrel
    by_cases hlt : k < ts.length
    · by_cases h31 : k < 31
      · obtain ⟨b, off, cap, a, n, e, hb, h1, h2, h3, h4⟩ := H.out.at k hlt
        cases e
        have hsn := all_snoc fewPt ts k hlt
        rw [hall, Bool.true_and] at hsn
        have hbad := fun hf => few_not hlt h31 hf
        obtain ⟨x, hx⟩ : ∃ x, ts[k] = x := ⟨_, rfl⟩
        have hxm : x ∈ ts := by rw [← hx]; exact List.getElem_mem hlt
        have hxs := Hs.out x hxm
        have hxl := (Hl.out x hxm).1
        have hyl := (Hl.out x hxm).2
        rw [hx] at h1 h2 h3 h4 hsn hbad
        obtain ⟨L, hL⟩ : ∃ L : ByteArray, (⟨x.lit.toArray⟩ : ByteArray) = L := ⟨_, rfl⟩
        have hLs : L.size = x.lit.length := by rw [← hL]; simp [ByteArray.size]
        rw [hL] at h1
        have hL63 : L.size ≤ 9223372036854775807 := by omega
        obtain ⟨m, em⟩ : ∃ m, x.specs.length = m := ⟨_, rfl⟩
        rw [em] at h3 h4 hxs
        have Hsn := hide hsn
        have Hbad := hide hbad
        have H4 := hide h4
        have Hyl := hide hyl
        have Hem := hide em
        have HLs := hide hLs
        clear hsn hbad h4 hx hxm hyl em hL hLs hxl
        by_cases c1 : 200 < L.size
        · have hf : fewPt x = false := by
            have := HLs.out
            simp [fewPt]; intro _ _; omega
          have Hf := hide hf
          clear hf
          go_wp2
          all_goals go_ret
          all_goals exact ⟨ret_bool (Hbad.out Hf.out).symm, rfl⟩
        · by_cases c2 : 20 < m
          · have hf : fewPt x = false := by
              have := Hem.out
              simp [fewPt]; intro _ _; omega
            have Hf := hide hf
            clear hf
            go_wp2
            all_goals go_ret
            all_goals exact ⟨ret_bool (Hbad.out Hf.out).symm, rfl⟩
          · go_wp2
            go_loopw [4] (fun j wr' => ∃ q : Nat, q ≤ m ∧ j = .int .i64 q ∧ (x.specs.take q).all (fun y => decide (y.name.length ≤ 200)) = true ∧ wr' = wr) (fun j _ => m - (intOf j).toNat)
            case atStart => exact ⟨0, Nat.zero_le _, rfl, by simp, rfl⟩
            case round =>
              obtain ⟨q, hq, rfl, hqa, hw⟩ := hrel
              subst hw
              by_cases hqm : q < m
              · have hqs : q < x.specs.length := by rw [Hem.out]; exact hqm
                have g4 := H4.out
                rw [← Hem.out] at g4
                obtain ⟨sb, so, sc, es, hsb, s1, s2, s3⟩ := g4.at q hqs
                rw [Hem.out] at es
                cases es
                have hsn2 := all_snoc (fun y : Sp => decide (y.name.length ≤ 200)) x.specs q hqs
                rw [hqa, Bool.true_and] at hsn2
                have hbad2 := all_not (fun y : Sp => decide (y.name.length ≤ 200)) x.specs q hqs
                have hy63 := Hyl.out _ (List.getElem_mem hqs)
                obtain ⟨y, hy⟩ : ∃ y, x.specs[q] = y := ⟨_, rfl⟩
                rw [hy] at s1 hsn2 hbad2 hy63
                obtain ⟨N, hN⟩ : ∃ N : ByteArray, (⟨y.name.toArray⟩ : ByteArray) = N := ⟨_, rfl⟩
                have hNs : N.size = y.name.length := by rw [← hN]; simp [ByteArray.size]
                rw [hN] at s1
                rw [← hNs] at hsn2 hbad2 hy63
                have Hsn2 := hide hsn2
                have Hbad2 := hide hbad2
                clear hsn2 hbad2 hy hN hNs g4 s2 s3 hqa
                by_cases c3 : 200 < N.size
                · have hf : fewPt x = false := by
                    have := Hbad2.out (by simp; omega)
                    simp only [fewPt, this, Bool.and_false]
                  have Hf := hide hf
                  clear hf
                  go_wp2
                  all_goals go_ret
                  all_goals exact ⟨ret_bool (Hbad.out Hf.out).symm, rfl⟩
                · have hgo : (x.specs.take (q + 1)).all (fun y => decide (y.name.length ≤ 200)) = true := by
                    rw [Hsn2.out]; simp; omega
                  have Hgo := hide hgo
                  clear hgo
                  go_wp2
                  go_roundw
                  case rel => exact ⟨q + 1, by omega, by go_num, Hgo.out, by first | rfl | trivial⟩
                  case measure => simp [intOf]; omega
              · have hqe : q = m := by omega
                have hf : fewPt x = true := by
                  rw [hqe, ← Hem.out, List.take_length] at hqa
                  have e1 := HLs.out
                  have e2 := Hem.out
                  simp only [fewPt, hqa, Bool.and_true, Bool.and_eq_true, decide_eq_true_eq]
                  omega
                have hgo : (ts.take (k + 1)).all fewPt = true := by rw [Hsn.out, hf]
                have Hgo := hide hgo
                clear hgo hf hqa
                subst hqe
                go_wp2
                go_roundw
                case rel => exact ⟨k + 1, by omega, by omega, by go_num, Hgo.out, by first | rfl | trivial⟩
                case measure => simp [intOf]; omega
      · have hk2 : k = 31 := by omega
        have hf : fewT ts = decide (ts.length ≤ 30) := by
          rw [hk2] at hall
          simp [fewT, hall]
        have Hf := hide hf
        clear hf hall
        subst hk2
        go_wp2
        all_goals go_ret
        all_goals exact ⟨ret_bool (by rw [Hf.out]; first | rfl | (simp; omega)), rfl⟩
    · have hke : k = ts.length := by omega
      have hf : fewT ts = decide (ts.length ≤ 30) := by
        rw [hke, List.take_length] at hall
        have h2 : (ts.take 31).all fewPt = true := by
          rw [List.all_eq_true] at hall ⊢
          exact fun x hx => hall x (List.mem_of_mem_take hx)
        simp [fewT, h2]
      have Hf := hide hf
      clear hf hall
      go_wp2
      all_goals go_ret
      all_goals exact ⟨ret_bool (by rw [Hf.out]; first | rfl | (simp; omega)), rfl⟩
theorem few_is (v : Value) (ts : List Pt) (b : Bool) (w : World) (h : PtsAt w v ts) (hn : ts.length ≤ 9223372036854775807) (hs : ∀ x ∈ ts, x.specs.length ≤ 9223372036854775807) (hl : ∀ x ∈ ts, x.lit.length ≤ 9223372036854775807 ∧ ∀ y ∈ x.specs, y.name.length ≤ 9223372036854775807) (hb : fewT ts = b) :
    Calls Tryd.prog 7 #[v] w fun e w' => e = .returned (.bool b) ∧ w' = w := by
  subst hb; exact few_any v ts w h hn hs hl
end Go.Proofs.YtjbnofljoijnmaaDoor

/-
  WALKS: two variables compared; the reference's Same, of the same.
-/
namespace Go.Proofs.YtjbnofljoijnmaaDoor
open Go.RowKit

theorem fields23 : Tryd.prog.underlying 39 = some (.struct (Tryd.prog.fieldsOf 39)) := by
  unfold Program.fieldsOf; rw [Tryd.underlying39]
theorem held23 : Tryd.prog.stoodInHeld 39 = false := by kernel_rfl
theorem guard23 : Tryd.prog.eqGuardType Tryd.prog.depth 39 = false := by kernel_rfl
theorem eq23 (a a' : ByteArray) (m m' : Int) (s s' : Bool) (w : World) : (Op.equalIn 10000 39 (.agg #[.string a, .int .i64 m, .bool s]) (.agg #[.string a', .int .i64 m', .bool s'])).run Tryd.prog w = .ok (a.toList == a'.toList && m == m' && s == s') w := by
  rw [show (10000 : Nat) = 9999 + 1 from rfl, run_equalIn_struct w 9999 39 _ _ fields23 held23]
  unfold Program.fieldsOf
  rw [Tryd.underlying39]
  go_simp
  by_cases h1 : a.toList = a'.toList <;> by_cases h2 : m = m' <;> by_cases h3 : s = s' <;> simp [h1, h2, h3]
/-- variables that are the same -/
theorem eq23_same (a : ByteArray) (m : Int) (s : Bool) (w : World) : (Op.equalIn 10000 39 (.agg #[.string a, .int .i64 m, .bool s]) (.agg #[.string a, .int .i64 m, .bool s])).run Tryd.prog w = .ok true w := by
  rw [eq23]; simp

set_option maxRecDepth 20000 in
set_option maxHeartbeats 2000000 in
theorem same_any (u v : Value) (ts : List Pt) (w : World) (h : PtsAt w u ts) (h' : PtsAt w v ts) (hn : ts.length ≤ 100000) (hs : ∀ x ∈ ts, x.specs.length ≤ 100000) :
    Calls Tryd.prog 11 #[u, v] w fun e w' => e = .returned (.bool true) ∧ Below w.heap.size w w' := by
  obtain ⟨ao, cp, rfl⟩ := h.form
  obtain ⟨ao', cp', rfl⟩ := h'.form
  have H := hide h
  have H' := hide h'
  have Hs := hide hs
  clear h h' hs
  go_enter Tryd.func11, Tryd.ntmps11
  go_wp2
  go_loopw [5] (fun i wr => ∃ k q : Nat, k ≤ ts.length ∧ i = .int .i64 k ∧ wr = w.drewN q) (fun i _ => ts.length - (intOf i).toNat)
  case atStart => exact ⟨0, 0, Nat.zero_le _, rfl, rfl⟩
  case round =>
    obtain ⟨k, q, hk, rfl, hw⟩ := hrel
    by_cases hlt : k < ts.length
    · obtain ⟨b, off, cap, a, n, e, hb, h1, h2, h3, h4⟩ := H.out.at k hlt
      obtain ⟨b', off', cap', a', n', e', hb', h1', h2', h3', h4'⟩ := H'.out.at k hlt
      cases e
      cases e'
      have hsk := Hs.out _ (List.getElem_mem hlt)
      obtain ⟨x, hx⟩ : ∃ x, ts[k] = x := ⟨_, rfl⟩
      rw [hx] at h1 h2 h3 h4 h1' h2' h3' h4' hsk
      obtain ⟨L, hL⟩ : ∃ L : ByteArray, (⟨x.lit.toArray⟩ : ByteArray) = L := ⟨_, rfl⟩
      rw [hL] at h1 h1'
      obtain ⟨m, em⟩ : ∃ m, x.specs.length = m := ⟨_, rfl⟩
      rw [em] at h3 h4 h3' h4' hsk
      have H4 := hide h4
      have H4' := hide h4'
      have Hem := hide em
      clear h4 h4' em hL hx
      subst hw
      go_wp2
      go_quiet (fail)
      go_wp2
      go_loopw [6] (fun j wr => ∃ r q : Nat, r ≤ m ∧ j = .int .i64 r ∧ wr = w.drewN q) (fun j _ => m - (intOf j).toNat)
      case atStart => exact ⟨0, _, Nat.zero_le _, rfl, World.drewN_drewN _ _ _⟩
      case round =>
        obtain ⟨r, q', hr, rfl, hw⟩ := hrel
        subst hw
        by_cases hrm : r < m
        · have hrs : r < x.specs.length := by rw [Hem.out]; exact hrm
          have g4 := H4.out
          have g4' := H4'.out
          rw [← Hem.out] at g4 g4'
          obtain ⟨sb, so, sc, es, hsb, s1, s2, s3⟩ := g4.at r hrs
          obtain ⟨sb', so', sc', es', hsb', s1', s2', s3'⟩ := g4'.at r hrs
          rw [Hem.out] at es es'
          cases es
          cases es'
          obtain ⟨y, hy⟩ : ∃ y, x.specs[r] = y := ⟨_, rfl⟩
          rw [hy] at s1 s2 s3 s1' s2' s3'
          obtain ⟨N, hN⟩ : ∃ N : ByteArray, (⟨y.name.toArray⟩ : ByteArray) = N := ⟨_, rfl⟩
          rw [hN] at s1 s1'
          obtain ⟨mx, hmx⟩ : ∃ mx, y.max = mx := ⟨_, rfl⟩
          obtain ⟨st, hst⟩ : ∃ st, y.star = st := ⟨_, rfl⟩
          rw [hmx] at s2 s2'
          rw [hst] at s3 s3'
          have heq := eq23_same N mx st
          have hgd := guard23
          clear hy hN hmx hst g4 g4'
          go_wp2
          go_quiet (fail)
          go_wp2
          go_roundw
          case rel => exact ⟨r + 1, _, by omega, by go_num, rfl⟩
          case measure => simp [intOf]; omega
        · go_wp2
          go_roundw
          case rel => exact ⟨k + 1, _, by omega, by go_num, rfl⟩
          case measure => simp [intOf]; omega
    · subst hw
      go_wp2
      all_goals go_ret
      all_goals exact ⟨rfl, below_drewN (Below.refl _ _) _⟩
end Go.Proofs.YtjbnofljoijnmaaDoor
