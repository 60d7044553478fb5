/-
  TOWARDS THE WALK of VnameFew: what its byte is, and what follows. (The walk stands at the law's last region, which draws its order and holds two calls.)
-/
import Derived.Test.YthiipiflljgbbaaDoorW7
namespace Go.Proofs.YthiipiflljgbbaaDoor
open Go.RowKit

/-- the bytes that may stand behind a name -/
def fewS : ByteArray := ⟨#[123, 125, 44, 58, 42, 43, 35, 47, 59, 63, 38, 32]⟩
theorem few_fin : ∀ j : Fin 12, ∃ b, (fewS.extract j.val (j.val + 1)).data.toList = [b] ∧ noneB b = true := by
  intro j
  match j with
  | 0 => exact ⟨123, by decide +kernel, by decide +kernel⟩
  | 1 => exact ⟨125, by decide +kernel, by decide +kernel⟩
  | 2 => exact ⟨44, by decide +kernel, by decide +kernel⟩
  | 3 => exact ⟨58, by decide +kernel, by decide +kernel⟩
  | 4 => exact ⟨42, by decide +kernel, by decide +kernel⟩
  | 5 => exact ⟨43, by decide +kernel, by decide +kernel⟩
  | 6 => exact ⟨35, by decide +kernel, by decide +kernel⟩
  | 7 => exact ⟨47, by decide +kernel, by decide +kernel⟩
  | 8 => exact ⟨59, by decide +kernel, by decide +kernel⟩
  | 9 => exact ⟨63, by decide +kernel, by decide +kernel⟩
  | 10 => exact ⟨38, by decide +kernel, by decide +kernel⟩
  | 11 => exact ⟨32, by decide +kernel, by decide +kernel⟩

theorem few_facts (s : ByteArray) (k j : Nat) (hk : k ≤ s.size) (hj : j < 12) (hs : s.size ≤ 200) (hn : nameB s.data.toList = true) :
    nameB ((s.extract 0 k ++ fewS.extract j (j + 1)) ++ s.extract k s.size).data.toList = false ∧ (endN (s ++ fewS.extract j (j + 1)).data.toList : Int) = s.size ∧ (fewS.extract j (j + 1)).size = 1
      ∧ ((s.extract 0 k ++ fewS.extract j (j + 1)) ++ s.extract k s.size).size ≤ 100000 ∧ (s ++ fewS.extract j (j + 1)).size ≤ 100000 := by
  obtain ⟨b, hb, hnb⟩ := few_fin ⟨j, hj⟩
  simp only at hb
  have hfz : (fewS.extract j (j + 1)).size = 1 := by rw [size_list, hb]; rfl
  refine ⟨?_, ?_, hfz, ?_, ?_⟩
  · rw [app_list, app_list, hb, List.append_assoc]
    exact name_none hnb _ _
  · rw [app_list, hb, end_none hnb hn, ← size_list]
  · rw [ByteArray.size_append, ByteArray.size_append, hfz, size_list (s.extract 0 k), head_list, List.length_take, size_list (s.extract k s.size), cut_list, List.length_drop, ← size_list]; omega
  · rw [ByteArray.size_append, hfz]; omega
end Go.Proofs.YthiipiflljgbbaaDoor
