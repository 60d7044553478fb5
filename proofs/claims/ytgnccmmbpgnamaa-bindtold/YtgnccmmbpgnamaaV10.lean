/-
  WALKS: the reference's Compare (layer 8).
-/
import Derived.Test.YtgnccmmbpgnamaaV9
namespace Go.Proofs.Ytgnccmmbpgnamaa
open Go.RowKit

/-- two arguments' cells, and their canonical values' -/
structure Ux (w W : World) (x y : Array Value) (p q : Nat) (ca cb : Vl) (c d : Array Value) : Prop where
  two : Jx w W x y
  hp : w.heap.size ≤ p
  fst : Bx W p c 28
  snd : Bx W q d 28
  va : VlAt W (.agg c) ca
  vb : VlAt W (.agg d) cb
section
variable {w W W' : World} {x y c d : Array Value} {p q : Nat} {ca cb : Vl}
theorem Ux.next (h : Ux w W x y p q ca cb c d) (bb : Below W.heap.size W W') : Ux w W' x y p q ca cb c d := ⟨h.two.next bb, h.hp, h.fst.next bb, h.snd.next bb, h.va.later bb, h.vb.later bb⟩
theorem Ux.drew (h : Ux w W x y p q ca cb c d) : Ux w W.drew x y p q ca cb c d := ⟨h.two.drew, h.hp, h.fst, h.snd, h.va.later (b_drew _), h.vb.later (b_drew _)⟩
theorem Ux.all {x0 x1 x2 x3 y0 y1 y2 y3 : Value} (h : Ux w W x y p q ca cb #[x0, x1, x2, x3] #[y0, y1, y2, y3]) : W.cell? ⟨p, 0, none⟩ = some x0 ∧ W.cell? ⟨p, 1, none⟩ = some x1 ∧ W.cell? ⟨p, 2, none⟩ = some x2 ∧ W.cell? ⟨p, 3, none⟩ = some x3 ∧ W.cell? ⟨q, 0, none⟩ = some y0 ∧ W.cell? ⟨q, 1, none⟩ = some y1 ∧ W.cell? ⟨q, 2, none⟩ = some y2 ∧ W.cell? ⟨q, 3, none⟩ = some y3 := by
  obtain ⟨a0, a1, a2, a3⟩ := cells4 h.fst
  obtain ⟨b0, b1, b2, b3⟩ := cells4 h.snd
  exact ⟨a0, a1, a2, a3, b0, b1, b2, b3⟩
end
theorem VlAt.mk {W : World} {c : Vl} {la pa : Option Addr} {lc pc : Nat} (R1 : StrsAt W (.slice la c.l.length lc) c.l) (R2 : PairsAt W (.slice pa c.p.length pc) c.p) : VlAt W (.agg #[.int .i64 c.kind, .string ⟨c.s.toArray⟩, .slice la c.l.length lc, .slice pa c.p.length pc]) c := ⟨_, _, rfl, R1, R2⟩
theorem b_drewN (W : World) (n : Nat) : Below W.heap.size W (W.drewN n) := ⟨rfl, rfl, rfl, Nat.le_refl _, fun _ _ => rfl⟩
theorem rcanon_c (x : Value) (v c : Vl) (w : World) (H : VlAt w x v) (hl : v.l.length ≤ 1000) (hp : v.p.length ≤ 1000) (hc : canonV v = c) : Calls Try.prog 25 #[x] w fun e w' => VlPost w c e w' := by
  subst hc; exact rcanon_any x v w H hl hp
end Go.Proofs.Ytgnccmmbpgnamaa
