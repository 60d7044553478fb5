/-
  WALKS: the reference's figures, May, Put (layer 6).
-/
import Derived.Test.YtjbnofljoijnmaaDoorW2
import Derived.Test.YtjbnofljoijnmaaDoorX2
import Derived.Below
import Derived.Laws.BytesString
import Derived.Deep.RegionWith
namespace Go.Proofs.YtjbnofljoijnmaaDoor
open Go.RowKit Go.Lib

/-- bytes of a new block as a text -/
theorem conv_bytes (w : World) (l : List UInt8) (C : Array Value) (n : Nat) (hC : C = (byteCells l).toArray) (hn : n = l.length) :
    (convert 42 9 (.slice (some ⟨w.heap.size, 0, none⟩) n n)).run Tryd.prog (w.alloc (.cells C 5)) = .ok (.string ⟨l.toArray⟩) (w.alloc (.cells C 5)) := by
  subst hn hC
  refine run_convert_bytes_back _ 42 9 5 ⟨w.heap.size, 0, none⟩ _ l Tryd.underlying42 Tryd.underlying5 Tryd.underlying9 ?_
  intro j hj
  rw [show (⟨w.heap.size, 0, none⟩ : Addr).add j = ⟨w.heap.size, j, none⟩ by simp [Addr.add]; omega, World.cell?_alloc_mark]
  simp [byteCells, hj]
/-- one byte made a text -/
theorem conv_one (w : World) (x : Int) (h0 : 0 ≤ x) (h1 : x ≤ 255) :
    (convert 42 9 (.slice (some ⟨w.heap.size, 0, none⟩) 1 1)).run Tryd.prog (w.alloc (.cells #[.int .u8 x] 5)) = .ok (.string ⟨#[x.toNat.toUInt8]⟩) (w.alloc (.cells #[.int .u8 x] 5)) := by
  refine conv_bytes w [x.toNat.toUInt8] _ 1 ?_ rfl
  have : x.toNat.toUInt8.toNat = x.toNat := u8_of _ (by omega)
  simp only [byteCells, List.map_cons, List.map_nil, this]
  rw [show ((x.toNat : Nat) : Int) = x by omega]
/-- one byte made a text, other memory made meanwhile -/
theorem conv_kept (w w1 : World) (x : Int) (h0 : 0 ≤ x) (h1 : x ≤ 255) (bb : Below (w.heap.size + 1) (w.alloc (.cells #[.int .u8 x] 5)) w1) :
    (convert 42 9 (.slice (some ⟨w.heap.size, 0, none⟩) 1 1)).run Tryd.prog w1 = .ok (.string ⟨#[x.toNat.toUInt8]⟩) w1 := by
  refine run_convert_bytes_back _ 42 9 5 ⟨w.heap.size, 0, none⟩ _ [x.toNat.toUInt8] Tryd.underlying42 Tryd.underlying5 Tryd.underlying9 ?_
  intro j hj
  have hj : j = 0 := by simpa using hj
  subst hj
  have : x.toNat.toUInt8.toNat = x.toNat := u8_of _ (by omega)
  rw [show (⟨w.heap.size, 0, none⟩ : Addr).add 0 = ⟨w.heap.size, 0, none⟩ by simp [Addr.add], bb.cell (by simp), World.cell?_alloc_mark]
  simp [this]
  omega
theorem str_add (a b : ByteArray) (h : a.size + b.size ≤ maxLen) (W : World) : (Op.stringOp .add a b).run Tryd.prog W = .ok (.string (a ++ b)) W := by
  unfold maxLen at h
  simp [Op.stringOp]
  omega
theorem below_drew {B : Nat} {x y : World} (h : Below B x.drew y) : Below B x y := ⟨h.os, h.tape, h.output, h.size, h.block⟩
theorem ret_str {a b : ByteArray} (h : a = b) : Ending.returned (.string a) = .returned (.string b) := by rw [h]
theorem arr_ext {a b : ByteArray} (h : a.data.toList = b.data.toList) : a = b := ByteArray.ext (Array.toList_inj.1 h)

/-- a variable as the program has it -/
def spA (nm : ByteArray) (m : Int) (st : Bool) : Sp := ⟨nm.data.toList, m, st⟩
/-- how a variable is written -/
def putA (nm : ByteArray) (m : Int) (st : Bool) : ByteArray := ⟨(putL (spA nm m st)).toArray⟩
/-- three cells of a block just made stay -/
theorem cells_kept {w w1 : World} {a b c : Value} {t : TypeId} (bb : Below (w.alloc (.cells #[a, b, c] t)).heap.size (w.alloc (.cells #[a, b, c] t)) w1) :
    Below w.heap.size w w1 ∧ w1.cell? ⟨w.heap.size, 0, none⟩ = some a ∧ w1.cell? ⟨w.heap.size, 1, none⟩ = some b ∧ w1.cell? ⟨w.heap.size, 2, none⟩ = some c := by
  refine ⟨((Below.refl _ _).alloc (Nat.le_refl _) _).trans (bb.mono (by simp)), ?_, ?_, ?_⟩
  all_goals rw [bb.cell (by simp)]; simp
end Go.Proofs.YtjbnofljoijnmaaDoor
