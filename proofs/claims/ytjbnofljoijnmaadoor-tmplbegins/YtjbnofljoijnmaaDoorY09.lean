/-
  Joined by program out of the texts S3 S4 S5 A1.
-/
import Derived.Test.YtjbnofljoijnmaaDoorW2
import Derived.Laws.OwnMore
import Derived.Test.YtjbnofljoijnmaaDoorY02
import Derived.Test.YtjbnofljoijnmaaDoorB
/-
  WALKS: the reference's Split and Texts (layer 5): slices of texts.
-/
namespace Go.Proofs.YtjbnofljoijnmaaDoor
open Go.RowKit

/-- texts as cells -/
def strsV (ps : List (List UInt8)) : List Value := ps.map fun p => .string ⟨p.toArray⟩
theorem strs_len (ps : List (List UInt8)) : (strsV ps).length = ps.length := by simp [strsV]
theorem strs_snoc (ps : List (List UInt8)) (p : List UInt8) : strsV (ps ++ [p]) = strsV ps ++ [.string ⟨p.toArray⟩] := by simp [strsV]

/-- a slice value whose elements are these texts -/
def StrsAt (w : World) (v : Value) (ps : List (List UInt8)) : Prop :=
  (ps = [] ∧ ∃ ao cap, v = .slice ao 0 cap) ∨ (0 < ps.length ∧ ∃ b off cap, v = .slice (some ⟨b, off, none⟩) ps.length cap ∧ ∀ k, k < ps.length → w.cell? ⟨b, off + k, none⟩ = some (.string ⟨(ps.getD k []).toArray⟩))
theorem lt_of_cell {w : World} {b o : Nat} {v : Value} (h : w.cell? ⟨b, o, none⟩ = some v) : b < w.heap.size := by
  apply Classical.byContradiction
  intro hn
  have : w.heap[b]? = none := by simp; omega
  simp [World.cell?, this] at h
theorem StrsAt.later {w w' : World} {v : Value} {ps : List (List UInt8)} (h : StrsAt w v ps) (hb : Below w.heap.size w w') : StrsAt w' v ps := by
  rcases h with h | ⟨hp, b, off, cap, rfl, hc⟩
  · exact .inl h
  · exact .inr ⟨hp, b, off, cap, rfl, fun k hk => (hb.cell (p := ⟨b, off + k, none⟩) (lt_of_cell (hc 0 hp))).trans (hc k hk)⟩
theorem StrsAt.of_owns {w : World} {base : Nat} {v : Value} {ps : List (List UInt8)} (h : w.ownsRow base 9 1 v ps.length (strsV ps)) : StrsAt w v ps := by
  rcases h.2 with ⟨rfl, h0⟩ | ⟨g, cap, cur, rfl, _, hg, hn, hm, hs, ht⟩
  · exact .inl ⟨List.eq_nil_of_length_eq_zero h0, _, _, rfl⟩
  · by_cases hp : 0 < ps.length
    · refine .inr ⟨hp, g, 0, cap, rfl, fun k hk => ?_⟩
      rw [Nat.zero_add, World.ownsRow.cellAt h k (by omega)]
      simp [strsV, hk]
    · have : ps = [] := List.eq_nil_of_length_eq_zero (by omega)
      subst this
      exact .inl ⟨rfl, _, _, rfl⟩

theorem info9 : (Tryd.prog.info? 9).map (fun i => (i.zero, i.size, i.bytes)) = some (some (.string ⟨#[]⟩), 1, 16) := by kernel_rfl
theorem part_snoc (s : ByteArray) (k : Nat) (h : k < s.size) : partsL (s.data.toList.take (k + 1)) = addP (partsL (s.data.toList.take k)) s[k] := by
  rw [take_snoc s k h, parts_snoc]
theorem mid_list (s : ByteArray) (k : Nat) (h : k < s.size) : (s.extract k (k + 1)).data.toList = [s[k]] := by
  rw [← Lib.toList_data, Lib.extract_toList]
  have e1 : s.data.toList.length = s.size := by simp
  rw [List.drop_eq_getElem_cons (by omega), show k + 1 - k = 1 by omega]
  rfl
theorem arr_app (p : List UInt8) (s : ByteArray) (k : Nat) (h : k < s.size) : (⟨p.toArray⟩ : ByteArray) ++ s.extract k (k + 1) = ⟨(p ++ [s[k]]).toArray⟩ := by
  have e : ((⟨p.toArray⟩ : ByteArray) ++ s.extract k (k + 1)).data.toList = (p ++ [s[k]]) := by rw [app_list, mid_list s k h]
  have h2 : ∀ x : ByteArray, x = ⟨x.data.toList.toArray⟩ := fun x => rfl
  rw [h2 (_ ++ _), e]
theorem parts_last_le (l : List UInt8) (init : List (List UInt8)) (last : List UInt8) (h : partsL l = init ++ [last]) : init.length + last.length ≤ l.length := by
  have hj := parts_join l
  have hl := parts_len l
  rw [h] at hj hl
  have hc : l.count 46 = init.length := by simp at hl; omega
  cases init with
  | nil =>
    have : last = l := hj
    rw [this]; simp
  | cons p r =>
    rw [join_snoc _ _ (by simp)] at hj
    have := congrArg List.length hj
    have hc2 : (joinP (p :: r)).count 46 + 1 + last.count 46 = l.count 46 := by rw [← hj, List.count_append, List.count_cons]; simp; omega
    have hcl : (joinP (p :: r)).count 46 ≤ (joinP (p :: r)).length := List.count_le_length
    have hll : last.count 46 = 0 := by
      obtain ⟨i2, l2, e2, _, h46, _⟩ := parts_split l
      rw [h] at e2
      have : last = l2 := by
        have := (List.append_inj' e2 rfl).2
        simpa using this
      rw [this]; exact List.count_eq_zero.2 h46
    simp at this
    omega
end Go.Proofs.YtjbnofljoijnmaaDoor

/-
  WALKS: the reference's Split (layer 5).
-/
namespace Go.Proofs.YtjbnofljoijnmaaDoor
open Go.RowKit

theorem below_own {B n : Nat} {w W w1 : World} {v : Value} {m : Nat} {xs : List Value} {o : Obj} {t : TypeId} (hB : Below B w W) (hn : B ≤ n) (hw : B ≤ W.heap.size) (hown : W.ownsRow n t 1 v m xs) (hg : (W.alloc o).grownBy w1 v.ownBlock) : Below B w w1 :=
  (hB.alloc hw o).grown hg (by simp; omega) (fun k hk => Nat.le_trans hn (hown.lt k hk).1)

end Go.Proofs.YtjbnofljoijnmaaDoor

/-
  WALKS: the reference's Split of what is no name, and Texts (layer 5); the law's own 'other'.
-/
namespace Go.Proofs.YtjbnofljoijnmaaDoor
open Go.RowKit

theorem list_snoc {ps : List (List UInt8)} {k : Nat} (h : k < ps.length) : ps.take (k + 1) = ps.take k ++ [ps.getD k []] := by
  rw [List.take_succ_eq_append_getElem h, List.getD_eq_getElem?_getD, List.getElem?_eq_getElem h]; rfl
theorem take_same {zs ys : List (List UInt8)} {k : Nat} (h1 : zs.length = ys.length) (hk : zs.take k = ys.take k) (hl : zs.length ≤ k) : zs = ys := by
  rw [List.take_of_length_le hl, List.take_of_length_le (by omega)] at hk
  exact hk
theorem arr_eq {x y : List UInt8} : ((⟨x.toArray⟩ : ByteArray).toList == (⟨y.toArray⟩ : ByteArray).toList) = decide (x = y) := by
  rw [Lib.toList_data, Lib.toList_data]
  show (x == y) = _
  rw [Bool.eq_iff_iff]; simp

set_option maxRecDepth 20000 in
set_option maxHeartbeats 1000000 in
theorem texts_row (zs ys : List (List UInt8)) (b off cap b' off' cap' : Nat) (w : World) (hl : zs.length = ys.length) (hmax : zs.length ≤ 1000000000000) (hp : 0 < zs.length)
    (hc : ∀ k, k < zs.length → w.cell? ⟨b, off + k, none⟩ = some (.string ⟨(zs.getD k []).toArray⟩)) (hd : ∀ k, k < zs.length → w.cell? ⟨b', off' + k, none⟩ = some (.string ⟨(ys.getD k []).toArray⟩)) :
    Calls Tryd.prog 12 #[.slice (some ⟨b, off, none⟩) zs.length cap, .slice (some ⟨b', off', none⟩) zs.length cap'] w fun e w' => e = .returned (.bool (decide (zs = ys))) ∧ Below w.heap.size w w' := by
  have Hl := hide hl
  clear hl
  go_enter Tryd.func12, Tryd.ntmps12
  go_wp2
  go_loopw [5] (fun i wr => ∃ (k q : Nat), k ≤ zs.length ∧ i = .int .i64 k ∧ wr = w.drewN q ∧ zs.take k = ys.take k) (fun i _ => zs.length - (intOf i).toNat)
  case atStart => exact ⟨0, 0, Nat.zero_le _, rfl, rfl, rfl⟩
  case round =>
    obtain ⟨k, q, hk, rfl, hw, ht⟩ := hrel
    subst hw
    have Ht := hide ht
    clear ht
    by_cases hlt : k < zs.length
    · have h1 := hc k hlt
      have h2 := hd k hlt
      obtain ⟨x, hx⟩ : ∃ x, zs.getD k [] = x := ⟨_, rfl⟩
      obtain ⟨y, hy⟩ : ∃ x, ys.getD k [] = x := ⟨_, rfl⟩
      rw [hx] at h1
      rw [hy] at h2
      have hxy := arr_eq (x := x) (y := y)
      generalize (⟨x.toArray⟩ : ByteArray) = X at *
      generalize (⟨y.toArray⟩ : ByteArray) = Y at *
      have Hx := hide hx
      have Hy := hide hy
      have Hc := hide hc
      have Hd := hide hd
      have Hxy := hide hxy
      clear hx hy hc hd hxy
      go_wp2
      go_quiet (fail)
      go_wp2
      · rename_i hh
        go_ret
        refine ⟨ret_bool ?_, below_drewN (below_drewN (Below.refl _ _) _) _⟩
        rw [Hxy.out] at hh
        have he : x ≠ y := by simpa using hh
        have : zs ≠ ys := by
          intro h
          apply he
          rw [← Hx.out, ← Hy.out, h]
        simp [this]
      · rename_i hh
        go_roundw
        case rel =>
          refine ⟨k + 1, _, hlt, by go_num, rfl, ?_⟩
          rw [Hxy.out] at hh
          have he : x = y := by simpa using hh
          rw [list_snoc hlt, list_snoc (ps := ys) (by have := Hl.out; omega), Ht.out, Hx.out, Hy.out, he]
        case measure => simp [intOf]; omega
    · go_wp2
      go_ret
      refine ⟨ret_bool ?_, below_drewN (Below.refl _ _) _⟩
      simp [take_same Hl.out Ht.out (by omega)]

set_option maxHeartbeats 400000 in
theorem texts_unlike (a a' : Option Addr) (n n' cap cap' : Nat) (w : World) (h : n ≠ n') :
    Calls Tryd.prog 12 #[.slice a n cap, .slice a' n' cap'] w fun e w' => e = .returned (.bool false) ∧ Below w.heap.size w w' := by
  have h' : ((n : Int) != (n' : Int)) = true := by simp; omega
  go_enter Tryd.func12, Tryd.ntmps12
  go_wp2
  go_ret
  exact ⟨rfl, Below.refl _ _⟩

set_option maxHeartbeats 400000 in
theorem texts_none (a a' : Option Addr) (cap cap' : Nat) (w : World) :
    Calls Tryd.prog 12 #[.slice a 0 cap, .slice a' 0 cap'] w fun e w' => e = .returned (.bool true) ∧ Below w.heap.size w w' := by
  go_enter Tryd.func12, Tryd.ntmps12
  go_wp2
  refine wp_loop_rounds 1 ?_
  rw [rounds_succ]
  go_wp2
  go_ret
  exact ⟨rfl, Below.refl _ _⟩

theorem texts_any (zs ys : List (List UInt8)) (u v : Value) (w : World) (hmax : zs.length ≤ 1000000000000) (h1 : StrsAt w u zs) (h2 : StrsAt w v ys) :
    Calls Tryd.prog 12 #[u, v] w fun e w' => e = .returned (.bool (decide (zs = ys))) ∧ Below w.heap.size w w' := by
  by_cases hl : zs.length = ys.length
  · rcases h1 with ⟨rfl, ao, cap, rfl⟩ | ⟨hp, b, off, cap, rfl, hc⟩
    · rcases h2 with ⟨rfl, ao', cap', rfl⟩ | ⟨hp', _⟩
      · have := texts_none ao ao' cap cap' w
        simpa using this
      · rw [List.length_nil] at hl; omega
    · rcases h2 with ⟨rfl, _⟩ | ⟨hp', b', off', cap', rfl, hd⟩
      · rw [List.length_nil] at hl; omega
      · rw [← hl]
        exact texts_row zs ys b off cap b' off' cap' w hl hmax hp hc (fun k hk => hd k (by omega))
  · have hne : zs ≠ ys := fun h => hl (by rw [h])
    have e1 : ∃ a cap, u = .slice a zs.length cap := by
      rcases h1 with ⟨rfl, ao, cap, rfl⟩ | ⟨hp, b, off, cap, rfl, hc⟩
      · exact ⟨_, _, rfl⟩
      · exact ⟨_, _, rfl⟩
    have e2 : ∃ a cap, v = .slice a ys.length cap := by
      rcases h2 with ⟨rfl, ao, cap, rfl⟩ | ⟨hp, b, off, cap, rfl, hc⟩
      · exact ⟨_, _, rfl⟩
      · exact ⟨_, _, rfl⟩
    obtain ⟨a, cap, rfl⟩ := e1
    obtain ⟨a', cap', rfl⟩ := e2
    have := texts_unlike a a' zs.length ys.length cap cap' w hl
    simpa [hne] using this

end Go.Proofs.YtjbnofljoijnmaaDoor

/-
  Templates in memory; WALKS: the reference's Many.
-/
namespace Go.Proofs.YtjbnofljoijnmaaDoor
open Go.RowKit

/-- variables, one behind the other, in cells -/
def SpecsAt (w : World) (v : Value) (xs : List Sp) : Prop :=
  (xs = [] ∧ ∃ ao cap, v = .slice ao 0 cap) ∨ (0 < xs.length ∧ ∃ b off cap, v = .slice (some ⟨b, off, none⟩) xs.length cap ∧ ∀ k (h : k < xs.length), w.cell? ⟨b, off + k * 3, none⟩ = some (.string ⟨xs[k].name.toArray⟩) ∧ w.cell? ⟨b, off + k * 3 + 1, none⟩ = some (.int .i64 xs[k].max) ∧ w.cell? ⟨b, off + k * 3 + 2, none⟩ = some (.bool xs[k].star))
/-- parts, one behind the other, in cells -/
def PtsAt (w : World) (v : Value) (ts : List Pt) : Prop :=
  (ts = [] ∧ ∃ ao cap, v = .slice ao 0 cap) ∨ (0 < ts.length ∧ ∃ b off cap, v = .slice (some ⟨b, off, none⟩) ts.length cap ∧ ∀ k (h : k < ts.length), w.cell? ⟨b, off + k * 3, none⟩ = some (.string ⟨ts[k].lit.toArray⟩) ∧ w.cell? ⟨b, off + k * 3 + 1, none⟩ = some (.int .u8 ts[k].op.toNat) ∧ ∃ sv, w.cell? ⟨b, off + k * 3 + 2, none⟩ = some sv ∧ SpecsAt w sv ts[k].specs)
theorem SpecsAt.form {w : World} {v : Value} {xs : List Sp} (h : SpecsAt w v xs) : ∃ a cap, v = .slice a xs.length cap := by
  rcases h with ⟨rfl, ao, cap, rfl⟩ | ⟨hp, b, off, cap, rfl, hc⟩
  · exact ⟨_, _, rfl⟩
  · exact ⟨_, _, rfl⟩
theorem PtsAt.form {w : World} {v : Value} {ts : List Pt} (h : PtsAt w v ts) : ∃ a cap, v = .slice a ts.length cap := by
  rcases h with ⟨rfl, ao, cap, rfl⟩ | ⟨hp, b, off, cap, rfl, hc⟩
  · exact ⟨_, _, rfl⟩
  · exact ⟨_, _, rfl⟩
theorem SpecsAt.later {w w' : World} {v : Value} {xs : List Sp} (h : SpecsAt w v xs) (hb : Below w.heap.size w w') : SpecsAt w' v xs := by
  rcases h with h | ⟨hp, b, off, cap, rfl, hc⟩
  · exact .inl h
  · have hl : b < w.heap.size := lt_of_cell (hc 0 hp).1
    exact .inr ⟨hp, b, off, cap, rfl, fun k hk => ⟨(hb.cell (p := ⟨b, _, none⟩) hl).trans (hc k hk).1, (hb.cell (p := ⟨b, _, none⟩) hl).trans (hc k hk).2.1, (hb.cell (p := ⟨b, _, none⟩) hl).trans (hc k hk).2.2⟩⟩
theorem PtsAt.later {w w' : World} {v : Value} {ts : List Pt} (h : PtsAt w v ts) (hb : Below w.heap.size w w') : PtsAt w' v ts := by
  rcases h with h | ⟨hp, b, off, cap, rfl, hc⟩
  · exact .inl h
  · have hl : b < w.heap.size := lt_of_cell (hc 0 hp).1
    refine .inr ⟨hp, b, off, cap, rfl, fun k hk => ?_⟩
    obtain ⟨h1, h2, sv, h3, h4⟩ := hc k hk
    exact ⟨(hb.cell (p := ⟨b, _, none⟩) hl).trans h1, (hb.cell (p := ⟨b, _, none⟩) hl).trans h2, sv, (hb.cell (p := ⟨b, _, none⟩) hl).trans h3, h4.later hb⟩
/-- what one part's cells hold -/
theorem PtsAt.at {w : World} {v : Value} {ts : List Pt} (h : PtsAt w v ts) (k : Nat) (hk : k < ts.length) : ∃ b off cap a n, v = .slice (some ⟨b, off, none⟩) ts.length cap ∧ b < w.heap.size ∧ w.cell? ⟨b, off + k * 3, none⟩ = some (.string ⟨ts[k].lit.toArray⟩) ∧ w.cell? ⟨b, off + k * 3 + 1, none⟩ = some (.int .u8 ts[k].op.toNat) ∧ w.cell? ⟨b, off + k * 3 + 2, none⟩ = some (.slice a ts[k].specs.length n) ∧ SpecsAt w (.slice a ts[k].specs.length n) ts[k].specs := by
  rcases h with ⟨rfl, _⟩ | ⟨hp, b, off, cap, rfl, hc⟩
  · simp at hk
  · obtain ⟨h1, h2, sv, h3, h4⟩ := hc k hk
    obtain ⟨a, n, rfl⟩ := h4.form
    exact ⟨b, off, cap, a, n, rfl, lt_of_cell h1, h1, h2, h3, h4⟩

def manyK (ts : List Pt) (k : Nat) : Nat := manyT (ts.take k)
theorem many_snoc (ts : List Pt) (k : Nat) (h : k < ts.length) : manyK ts (k + 1) = manyK ts k + ts[k].specs.length := by
  unfold manyK manyT
  rw [List.take_succ_eq_append_getElem h, vars_app]
  simp [varsT]
theorem many_le (ts : List Pt) (hs : ∀ x ∈ ts, x.specs.length ≤ 1000) (k : Nat) : manyK ts k ≤ 1000 * k := by
  induction k with
  | zero => simp [manyK, manyT, varsT]
  | succ k ih =>
    by_cases h : k < ts.length
    · rw [many_snoc ts k h]
      have := hs _ (List.getElem_mem h)
      omega
    · have : manyK ts (k + 1) = manyK ts k := by
        unfold manyK
        rw [List.take_of_length_le (by omega), List.take_of_length_le (by omega)]
      omega
end Go.Proofs.YtjbnofljoijnmaaDoor
