/-
  TEXTS JOINED: B.
-/
import Derived.Below
import Derived.Laws.ResultCell
import Derived.Laws.Rows
import Derived.OneCell
import Derived.WalkKit
/-
  A BLOCK OF CELLS THAT THE CALL HAS MADE (a struct or an array in memory), whatever it holds; no program in it.
-/
namespace Go.Proofs.Ytpfcfadbilaleaa
open Go.RowKit

def Bx (W : World) (b : Nat) (cs : Array Value) (t : TypeId) : Prop := W.heap[b]? = some (.cells cs t (0, 0))
section
variable {W W' : World} {b n : Nat} {cs : Array Value} {t : TypeId}
theorem Bx.below (h : Bx W b cs t) (hb : Below n W W') (hn : b < n) : Bx W' b cs t := (hb.block b hn).trans h
theorem Bx.cell (h : Bx W b cs t) (j : Nat) (v : Value) (hj : cs[j]? = some v) : W.cell? ⟨b, j, none⟩ = some v := by
  unfold Bx at h
  simp [World.cell?, h, hj]
theorem Bx.free (h : Bx W b cs t) (i : Nat) : W.frozen? ⟨b, i, none⟩ = false := by
  unfold Bx at h
  simp [World.frozen?, h]
theorem Bx.lt (h : Bx W b cs t) : b < W.heap.size := lt_of_block h
theorem Bx.made (W : World) (cs : Array Value) (t : TypeId) : Bx (W.alloc (.cells cs t)) W.heap.size cs t := by
  show (W.heap.push _)[W.heap.size]? = _
  simp
theorem Bx.later (h : Bx W b cs t) (o : Obj) : Bx (W.alloc o) b cs t := (Below.heap_alloc W o b h.lt).trans h
theorem Bx.drew (h : Bx W b cs t) : Bx W.drew b cs t := h
theorem Bx.next (h : Bx W b cs t) (hb : Below W.heap.size W W') : Bx W' b cs t := h.below hb h.lt
theorem Bx.put (h : Bx W b cs t) (j : Nat) (v : Value) : Bx (W.setCell ⟨b, j, none⟩ v) b (cs.set! j v) t := heap_setCell_same W b j _ _ v h
theorem Bx.other (h : Bx W b cs t) {k : Nat} (hk : b ≠ k) (j : Nat) (v : Value) : Bx (W.setCell ⟨k, j, none⟩ v) b cs t := by
  unfold Bx at *
  rw [heap_setCell_other _ _ _ _ hk]
  exact h
theorem cells3 {x y z : Value} (h : Bx W b #[x, y, z] t) : W.cell? ⟨b, 0, none⟩ = some x ∧ W.cell? ⟨b, 1, none⟩ = some y ∧ W.cell? ⟨b, 2, none⟩ = some z := ⟨h.cell 0 x rfl, h.cell 1 y rfl, h.cell 2 z rfl⟩
/-- a struct result beside another -/
theorem ret_cell_tmp {P : Program} {fn : Func} {p u : Tmp} {ty : TypeId} {d : TypeDesc} (h : fn.results = #[.cell p ty, .tmp u]) (tmps : Array Value) (w : World)
    (hp : tmps.getD p undef = .pointer (some ⟨b, 0, none⟩)) (hg : Bx w b cs t) (hu : P.underlying ty = some d) (hd : (match d with | .struct _ | .array _ _ => true | _ => false) = true) (hi : (P.info? ty).map (·.size) = some cs.size) :
    (results fn tmps).run P w = .ok (.tuple #[.agg cs, tmps.getD u undef]) w := by
  have hp' : tmps[p]?.getD undef = .pointer (some ⟨b, 0, none⟩) := by simpa using hp
  simp [results, h, hp', asAddr, run_loadVar_row w b t ty cs (0, 0) d hg hu hd hi]
end
end Go.Proofs.Ytpfcfadbilaleaa
