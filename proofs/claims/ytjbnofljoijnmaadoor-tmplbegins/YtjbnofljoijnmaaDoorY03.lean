/-
  Joined by program out of the texts uW1 uC1 uW6.
-/
import Derived.Test.YtjbnofljoijnmaaDoorProg
import Derived.Test.YtjbnofljoijnmaaDoorY01
import Derived.WalkKit
import Derived.WalkSpells
import Derived.WalkLawsBesides
import Derived.Lib.OthersKept
import Derived.Shelf.RegionOpenPlain
import Derived.Laws.Rows
/-
  WALKS: utf.May and the reference's May; utf.broken; utf.each, whatever closure it is handed.
-/
namespace Go.Proofs.YtjbnofljoijnmaaDooru
open Go.RowKit

theorem hide {p : Prop} (h : p) : Hid p := h
theorem ret_bool {a b : Bool} (h : a = b) : Ending.returned (.bool a) = .returned (.bool b) := by rw [h]
theorem ret_int {k : IntKind} {a b : Int} (h : a = b) : Ending.returned (.int k a) = .returned (.int k b) := by rw [h]

theorem drop_ne {s : ByteArray} {pos : Nat} (hp : pos < s.size) : s.data.toList.drop pos ≠ [] := by
  intro h
  have := congrArg List.length h
  simp at this
  omega
theorem extract_rest (s : ByteArray) (pos : Nat) : (s.extract pos s.size).data.toList = s.data.toList.drop pos := by
  rw [← Lib.toList_data, Lib.extract_toList]
  apply List.take_of_length_le
  simp

theorem chars_at {l : List UInt8} {cs : List Int} {t : List UInt8} (h : l = textL cs ++ t) (hm : allMay cs = true) (ht : t = [] ∨ badL t = true) : chars l = cs ∧ blen l = (textL cs).length := by
  rw [h]; exact chars_of cs t hm ht

end Go.Proofs.YtjbnofljoijnmaaDooru

/-
  WALKS: ucs.someMay over the ranges as they lie in memory.
-/
namespace Go.Proofs.YtjbnofljoijnmaaDooru
open Go.RowKit

/-- the ranges, cell by cell -/
def cellsR : Array Value := (rangeL.flatMap fun p => [Value.int .i64 p.1, Value.int .i64 p.2]).toArray
/-- the ranges lie in the first block -/
def Ran (w : World) : Prop := ∃ t fr, w.heap[0]? = some (.cells cellsR t fr)
theorem Ran.pos {w : World} (h : Ran w) : 0 < w.heap.size := by
  obtain ⟨t, fr, h⟩ := h
  apply Classical.byContradiction
  intro hn
  rw [Array.getElem?_eq_none (by omega)] at h
  cases h
theorem Ran.of {B : Nat} {w w' : World} (h : Ran w) (b : Below B w w') (hB : 0 < B) : Ran w' := by
  obtain ⟨t, fr, h⟩ := h
  exact ⟨t, fr, (b.block 0 hB).trans h⟩
theorem Ran.next {w w' : World} (h : Ran w) (b : Below w.heap.size w w') : Ran w' := h.of b h.pos
theorem size48 : (Tryd.prog.info? 116).map (·.size) = some cellsR.size := by kernel_rfl
theorem idxR {k : Nat} (h : k < 19) (W : World) : (Instr.index 116 (.agg cellsR) (.int .i64 k)).run Tryd.prog W = .ok (.agg #[.int .i64 (loR k), .int .i64 (hiR k)]) W := by
  rcases k19 h with rfl | rfl | rfl | rfl | rfl | rfl | rfl | rfl | rfl | rfl | rfl | rfl | rfl | rfl | rfl | rfl | rfl | rfl | rfl <;> kernel_rfl

set_option maxRecDepth 20000 in
set_option maxHeartbeats 1000000 in
theorem smay_any (lo hi : Int) (w : World) (R : Ran w) :
    Calls Tryd.prog 66 #[.agg #[.int .i64 lo, .int .i64 hi]] w fun e w' => e = .returned (.bool (anyR lo hi)) ∧ Below w.heap.size w w' := by
  obtain ⟨t, fr, R0⟩ := R
  have hg : ∀ o, (w.alloc o).heap[0]? = some (.cells cellsR t fr) := fun o => (Below.heap_alloc _ _ _ (Ran.pos ⟨t, fr, R0⟩)).trans R0
  have Hg := hide hg
  have hs := hide size48
  have Hi : Hid (∀ k : Nat, k < 19 → ∀ W : World, (Instr.index 116 (.agg cellsR) (.int .i64 k)).run Tryd.prog W = .ok (.agg #[.int .i64 (loR k), .int .i64 (hiR k)]) W) := fun k h W => idxR h W
  clear hg R0
  generalize cellsR = C at *
  go_enter Tryd.func66, Tryd.ntmps66
  go_wp2_with (refine wpList_load_row rfl 116 (.global 0) rfl 0 rfl t C fr _ (Hg.out _) Tryd.underlying116 rfl hs.out ?_)
  go_loopw [6] (fun i wr => ∃ k : Nat, k ≤ 19 ∧ i = .int .i64 k ∧ noneR lo hi k ∧ Below (w.heap.size + 1) (w.alloc (.cells #[.int .i64 lo, .int .i64 hi] 105)) wr) (fun i _ => 19 - (intOf i).toNat)
  case atStart => exact ⟨0, by decide, rfl, fun j hj => by omega, Below.refl _ _⟩
  case round =>
    obtain ⟨k, hk, rfl, hN, B⟩ := hrel
    have hz : (w.alloc (.cells #[.int .i64 lo, .int .i64 hi] 105)).heap.size ≤ wr.heap.size := B.size
    have hz : w.heap.size + 1 ≤ wr.heap.size := by simpa using hz
    have c0 : ∀ o, (wr.alloc o).cell? ⟨w.heap.size, 0, none⟩ = some (.int .i64 lo) := fun o => by rw [(B.alloc hz o).cell (by simp)]; simp
    have c1 : ∀ o, (wr.alloc o).cell? ⟨w.heap.size, 1, none⟩ = some (.int .i64 hi) := fun o => by rw [(B.alloc hz o).cell (by simp)]; simp
    have HN := hide hN
    have Hh := hide (hit_iff lo hi k)
    clear hN
    by_cases hlt : k < 19
    · have hx := Hi.out k hlt
      have Hlt := hide hlt
      generalize loR k = a at *
      generalize hiR k = b at *
      go_wp2
      case inl.inl | inl.inr | inr.inl | inr.inr =>
        go_ret
        refine ⟨ret_bool (hit_any Hlt.out (Hh.out.2 ?_)).symm, (Below.refl _ _).alloc (Nat.le_refl _) _ |>.trans ((B.alloc hz _).mono (by omega))⟩
        simp only [*, if_true] at *
        omega
      · rename_i hno
        have hf : hitR lo hi k = false := by
          cases hc : hitR lo hi k with
          | false => rfl
          | true =>
            have := Hh.out.1 hc
            split at hno <;> split at hno <;> omega
        refine ⟨⟨k + 1, by omega, by go_num, none_next HN.out hf, B.alloc hz _⟩, ?_⟩
        simp [intOf]; omega
    · go_wp2
      go_ret
      have e : k = 19 := by omega
      subst e
      exact ⟨ret_bool (none_all HN.out).symm, (Below.refl _ _).alloc (Nat.le_refl _) _ |>.trans (B.mono (by omega))⟩
end Go.Proofs.YtjbnofljoijnmaaDooru

/-
  WALKS: the reference's tail and One.
-/
namespace Go.Proofs.YtjbnofljoijnmaaDooru
open Go.RowKit Go.Lib

/-- what tail answers, for the three places that One asks -/
def tailV (c n : Int) : Int := if n = 0 then 128 + c % 64 else if n = 1 then 128 + c / 64 % 64 else 128 + c / 4096 % 64
theorem conv_rune (c : Int) (w : World) (C : Array Value) (n : Nat) (hC : C = (runeCells c).toArray) (hn : n = (encodeRune c).length) :
    (convert 42 9 (.slice (some ⟨w.heap.size, 0, none⟩) n n)).run Tryd.prog (w.alloc (.cells C 5)) = .ok (.string ⟨(encodeRune c).toArray⟩) (w.alloc (.cells C 5)) := by
  subst hn hC
  refine run_convert_bytes_back _ 42 9 5 ⟨w.heap.size, 0, none⟩ _ (encodeRune c) Tryd.underlying42 Tryd.underlying5 Tryd.underlying9 ?_
  intro j hj
  rw [show (⟨w.heap.size, 0, none⟩ : Addr).add j = ⟨w.heap.size, j, none⟩ by simp [Addr.add]; omega, World.cell?_alloc_mark, ← byteCells_encodeRune]
  simp [byteCells, hj]

end Go.Proofs.YtjbnofljoijnmaaDooru
