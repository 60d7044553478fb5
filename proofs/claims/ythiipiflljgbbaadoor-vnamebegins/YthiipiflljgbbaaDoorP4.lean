/-
  A text cut at its points: plain; and WALKS: strings.Split at a point, strings.Clone.
-/
import Derived.Test.YthiipiflljgbbaaDoorShelf
import Derived.Test.YthiipiflljgbbaaDoorN3
import Derived.Test.YthiipiflljgbbaaDoorW5
namespace Go.Proofs.YthiipiflljgbbaaDoor
open Go.RowKit

theorem index_byte (c : UInt8) (l : List UInt8) : Lib.index l [c] = Lib.indexByte l c := by
  induction l with
  | nil => rfl
  | cons b l ih =>
    unfold Lib.index Lib.indexByte
    rw [ih]
    have : [c].isPrefixOf (b :: l) = (b == c) := by
      by_cases h : b = c
      · subst h; simp [List.isPrefixOf]
      · have h2 : (c == b) = false := by simp; exact fun e => h e.symm
        have h3 : (b == c) = false := by simp [h]
        simp [List.isPrefixOf, h2, h3]
    rw [this]
theorem index_cut (l : List UInt8) (h : (46 : UInt8) ∈ l) : ∃ p t, l = p ++ 46 :: t ∧ 46 ∉ p ∧ Lib.index l [46] = (p.length : Int) := by
  induction l with
  | nil => simp at h
  | cons b l ih =>
    by_cases hb : b = 46
    · subst hb
      exact ⟨[], l, rfl, by simp, rfl⟩
    · have hl : (46 : UInt8) ∈ l := by
        rcases List.mem_cons.1 h with e | e
        · exact absurd e.symm hb
        · exact e
      obtain ⟨p, t, e1, e2, e3⟩ := ih hl
      refine ⟨b :: p, t, by rw [e1]; rfl, ?_, ?_⟩
      · intro hm
        rcases List.mem_cons.1 hm with e | e
        · exact hb e.symm
        · exact e2 e
      · rw [index_byte] at e3 ⊢
        unfold Lib.indexByte
        have h3 : (b == 46) = false := by simp [hb]
        rw [h3, e3]
        have h4 : ((p.length : Int) == -1) = false := by simp
        rw [h4]
        simp
theorem splitK_parts (k : Nat) : ∀ l : List UInt8, l.count 46 = k → Lib.splitK [46] 0 k l = partsL l := by
  induction k with
  | zero =>
    intro l h
    rw [parts_one (List.count_eq_zero.1 h)]
    rfl
  | succ k ih =>
    intro l h
    have hm : (46 : UInt8) ∈ l := List.count_pos_iff.1 (by omega)
    obtain ⟨p, t, e1, e2, e3⟩ := index_cut l hm
    have hc : t.count 46 = k := by
      rw [e1, List.count_append, List.count_eq_zero.2 e2, List.count_cons_self] at h
      omega
    unfold Lib.splitK
    rw [e3]
    have h4 : ((p.length : Int) == -1) = false := by simp
    rw [h4]
    simp only [Bool.false_eq_true, if_false, Int.toNat_natCast, Nat.add_zero, List.length_singleton]
    rw [e1, parts_two p t e2, List.take_left]
    have : List.drop (p.length + 1) (p ++ 46 :: t) = t := by
      rw [List.drop_append]; simp
    rw [this, ih t hc]
theorem count_pts (s : ByteArray) : Lib.countB s ⟨#[46]⟩ = s.data.toList.count 46 := by
  show Lib.count s.data.toList [46] = _
  exact Lib.count_one 46 _
theorem pieces_are (s : ByteArray) (k : Nat) (h : s.data.toList.count 46 = k) : Lib.splitB ⟨#[46]⟩ 0 k s = (partsL s.data.toList).map (fun p => (⟨p.toArray⟩ : ByteArray)) := by
  have e := Lib.splitB_data ⟨#[46]⟩ 0 k s
  have e2 : Lib.splitK [46] 0 k s.data.toList = partsL s.data.toList := splitK_parts k _ h
  rw [show (⟨#[46]⟩ : ByteArray).data.toList = [46] from rfl, e2] at e
  rw [← e, List.map_map]
  have : ((fun p : List UInt8 => (⟨p.toArray⟩ : ByteArray)) ∘ fun x : ByteArray => x.data.toList) = id := by
    funext x; rfl
  rw [this, List.map_id]

theorem info9' : (Tryd.prog.info? 9).map (fun i => (i.zero, i.size, i.bytes)) = some (some (.string ByteArray.empty), 1, 16) := by kernel_rfl
/-- what strings.Split hands back of a text at points -/
def CutPost (s : ByteArray) (w : World) (e : Ending) (w' : World) : Prop :=
  e = .returned (.slice (some ⟨w.heap.size, 0, none⟩) (partsL s.data.toList).length (partsL s.data.toList).length) ∧ w' = w.alloc (.cells (strsV (partsL s.data.toList)).toArray 9)
theorem gen_any (s : ByteArray) (w : World) (hs : s.size ≤ 100000) :
    Calls Tryd.prog 31 #[.string s, .string ⟨#[46]⟩, .int .i64 0, .int .i64 (-1)] w fun e w' => CutPost s w e w' := by
  have hlen := parts_len s.data.toList
  have hcl : s.data.toList.count 46 ≤ s.size := by rw [size_list]; exact List.count_le_length
  have c := Any.strings_genSplit_core lays221 info9' s ⟨#[46]⟩ 0 (-1) (s.data.toList.count 46 + 1) w (by omega) (by decide) (by decide)
    (fun x c _ => by
      refine (Any.strings_Index_one { lays221 with } x 46 _).mono ?_
      rintro e w' ⟨rfl, hw⟩
      refine ⟨?_, hw⟩
      show _ = Ending.returned (.int .i64 (Lib.index x.data.toList [46]))
      rw [index_byte])
    (by
      refine (Any.strings_Count_one { lays221 with } s 46 _).mono ?_
      rintro e w' ⟨rfl, hw⟩
      refine ⟨?_, hw⟩
      rw [count_pts]; rfl)
    (by decide) (by decide) (by rw [count_pts, if_pos (by decide)]; omega)
  rw [Nat.add_sub_cancel, pieces_are s _ rfl, List.length_map, hlen] at c
  have e2 : Lib.cellsOf ((partsL s.data.toList).map (fun p => (⟨p.toArray⟩ : ByteArray))) (s.data.toList.count 46 + 1) = (strsV (partsL s.data.toList)).toArray := by
    have := Lib.cellsOf_full ((partsL s.data.toList).map (fun p => (⟨p.toArray⟩ : ByteArray)))
    rw [List.length_map, hlen] at this
    rw [this, List.map_map]
    rfl
  rw [e2] at c
  refine c.mono ?_
  rintro e w' ⟨he, hw⟩
  exact ⟨by rw [he, hlen], hw⟩
set_option maxHeartbeats 1000000 in
theorem cut_any (s : ByteArray) (w : World) (hs : s.size ≤ 100000) :
    Calls Tryd.prog 23 #[.string s, .string ⟨#[46]⟩] w fun e w' => CutPost s w e w' := by
  go_enter Tryd.func23, Tryd.ntmps23
  go_wp2_with (go_at_call 31; refine (gen_any s w hs).mono ?_; rintro e w' ⟨rfl, hw⟩; rw [hw])
  go_ret
  exact ⟨rfl, rfl⟩
set_option maxHeartbeats 1000000 in
theorem clone_any (s : ByteArray) (w : World) (hs : s.size ≤ 100000) :
    Calls Tryd.prog 24 #[.string s] w fun e w' => e = .returned (.string s) ∧ Below w.heap.size w w' := by
  go_enter Tryd.func24, Tryd.ntmps24
  go_wp2_with (go_at_call 32; refine (stringslite_Clone s w (by omega)).mono ?_; rintro e w' ⟨rfl, bb⟩)
  go_ret
  exact ⟨rfl, bb⟩
end Go.Proofs.YthiipiflljgbbaaDoor
