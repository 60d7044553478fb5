/-
  WALKS: the reference's Split and Texts (layer 5): slices of texts.
-/
import Derived.Test.YtgnccmmbpgnamaaW2
import Derived.Laws.OwnMore
namespace Go.Proofs.Ytgnccmmbpgnamaa
open Go.RowKit

/-- texts as cells -/
def strsV (ps : List (List UInt8)) : List Value := ps.map fun p => .string ⟨p.toArray⟩
theorem strs_len (ps : List (List UInt8)) : (strsV ps).length = ps.length := by simp [strsV]
theorem strs_snoc (ps : List (List UInt8)) (p : List UInt8) : strsV (ps ++ [p]) = strsV ps ++ [.string ⟨p.toArray⟩] := by simp [strsV]

/-- a slice value whose elements are these texts -/
def StrsAt (w : World) (v : Value) (ps : List (List UInt8)) : Prop :=
  (ps = [] ∧ ∃ ao cap, v = .slice ao 0 cap) ∨ (0 < ps.length ∧ ∃ b off cap, v = .slice (some ⟨b, off, none⟩) ps.length cap ∧ ∀ k, k < ps.length → w.cell? ⟨b, off + k, none⟩ = some (.string ⟨(ps.getD k []).toArray⟩))
theorem lt_of_cell {w : World} {b o : Nat} {v : Value} (h : w.cell? ⟨b, o, none⟩ = some v) : b < w.heap.size := by
  apply Classical.byContradiction
  intro hn
  have : w.heap[b]? = none := by simp; omega
  simp [World.cell?, this] at h
theorem StrsAt.later {w w' : World} {v : Value} {ps : List (List UInt8)} (h : StrsAt w v ps) (hb : Below w.heap.size w w') : StrsAt w' v ps := by
  rcases h with h | ⟨hp, b, off, cap, rfl, hc⟩
  · exact .inl h
  · exact .inr ⟨hp, b, off, cap, rfl, fun k hk => (hb.cell (p := ⟨b, off + k, none⟩) (lt_of_cell (hc 0 hp))).trans (hc k hk)⟩
theorem StrsAt.of_owns {w : World} {base : Nat} {v : Value} {ps : List (List UInt8)} (h : w.ownsRow base 9 1 v ps.length (strsV ps)) : StrsAt w v ps := by
  rcases h.2 with ⟨rfl, h0⟩ | ⟨g, cap, cur, rfl, _, hg, hn, hm, hs, ht⟩
  · exact .inl ⟨List.eq_nil_of_length_eq_zero h0, _, _, rfl⟩
  · by_cases hp : 0 < ps.length
    · refine .inr ⟨hp, g, 0, cap, rfl, fun k hk => ?_⟩
      rw [Nat.zero_add, World.ownsRow.cellAt h k (by omega)]
      simp [strsV, hk]
    · have : ps = [] := List.eq_nil_of_length_eq_zero (by omega)
      subst this
      exact .inl ⟨rfl, _, _, rfl⟩

theorem info9 : (Try.prog.info? 9).map (fun i => (i.zero, i.size, i.bytes)) = some (some (.string ⟨#[]⟩), 1, 16) := by kernel_rfl
theorem part_snoc (s : ByteArray) (k : Nat) (h : k < s.size) : partsL (s.data.toList.take (k + 1)) = addP (partsL (s.data.toList.take k)) s[k] := by
  rw [take_snoc s k h, parts_snoc]
theorem mid_list (s : ByteArray) (k : Nat) (h : k < s.size) : (s.extract k (k + 1)).data.toList = [s[k]] := by
  rw [← Lib.toList_data, Lib.extract_toList]
  have e1 : s.data.toList.length = s.size := by simp
  rw [List.drop_eq_getElem_cons (by omega), show k + 1 - k = 1 by omega]
  rfl
theorem arr_app (p : List UInt8) (s : ByteArray) (k : Nat) (h : k < s.size) : (⟨p.toArray⟩ : ByteArray) ++ s.extract k (k + 1) = ⟨(p ++ [s[k]]).toArray⟩ := by
  have e : ((⟨p.toArray⟩ : ByteArray) ++ s.extract k (k + 1)).data.toList = (p ++ [s[k]]) := by rw [app_list, mid_list s k h]
  have h2 : ∀ x : ByteArray, x = ⟨x.data.toList.toArray⟩ := fun x => rfl
  rw [h2 (_ ++ _), e]
theorem parts_last_le (l : List UInt8) (init : List (List UInt8)) (last : List UInt8) (h : partsL l = init ++ [last]) : init.length + last.length ≤ l.length := by
  have hj := parts_join l
  have hl := parts_len l
  rw [h] at hj hl
  have hc : l.count 46 = init.length := by simp at hl; omega
  cases init with
  | nil =>
    have : last = l := hj
    rw [this]; simp
  | cons p r =>
    rw [join_snoc _ _ (by simp)] at hj
    have := congrArg List.length hj
    have hc2 : (joinP (p :: r)).count 46 + 1 + last.count 46 = l.count 46 := by rw [← hj, List.count_append, List.count_cons]; simp; omega
    have hcl : (joinP (p :: r)).count 46 ≤ (joinP (p :: r)).length := List.count_le_length
    have hll : last.count 46 = 0 := by
      obtain ⟨i2, l2, e2, _, h46, _⟩ := parts_split l
      rw [h] at e2
      have : last = l2 := by
        have := (List.append_inj' e2 rfl).2
        simpa using this
      rw [this]; exact List.count_eq_zero.2 h46
    simp at this
    omega
end Go.Proofs.Ytgnccmmbpgnamaa
