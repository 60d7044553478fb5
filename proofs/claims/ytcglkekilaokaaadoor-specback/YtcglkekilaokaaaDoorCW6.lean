/-
  WALKS: the reference's List.
-/
import Derived.Test.YtcglkekilaokaaaDoorCW5
import Derived.OwnWalk
import Derived.Laws.IdiomStrings
namespace Go.Proofs.YtcglkekilaokaaaDoorC
open Go.RowKit

/-- a set in four cells -/
def Cells4 (W : World) (b : Nat) (q : Q) : Prop := W.cell? ⟨b, 0, none⟩ = some (.int .u64 q.a) ∧ W.cell? ⟨b, 1, none⟩ = some (.int .u64 q.b) ∧ W.cell? ⟨b, 2, none⟩ = some (.int .u64 q.c) ∧ W.cell? ⟨b, 3, none⟩ = some (.int .u64 q.d)
theorem Cells4.below {W W' : World} {b n : Nat} {q : Q} (h : Cells4 W b q) (hb : Below n W W') (hn : b < n) : Cells4 W' b q := by
  obtain ⟨h0, h1, h2, h3⟩ := h
  exact ⟨(hb.cell (p := ⟨b, 0, none⟩) hn).trans h0, (hb.cell (p := ⟨b, 1, none⟩) hn).trans h1, (hb.cell (p := ⟨b, 2, none⟩) hn).trans h2, (hb.cell (p := ⟨b, 3, none⟩) hn).trans h3⟩
theorem Cells4.of {W : World} {b : Nat} {q : Q} {t : TypeId} (h : W.heap[b]? = some (.cells #[.int .u64 q.a, .int .u64 q.b, .int .u64 q.c, .int .u64 q.d] t (0, 0))) : Cells4 W b q := by
  unfold Cells4
  simp [World.cell?, h]
theorem Cells4.made (W : World) (q : Q) (t : TypeId) : Cells4 (W.alloc (.cells #[.int .u64 q.a, .int .u64 q.b, .int .u64 q.c, .int .u64 q.d] t)) W.heap.size q := by
  apply Cells4.of (t := t)
  show (W.heap.push _)[W.heap.size]? = _
  simp

theorem info5 : (Tryd.prog.info? 5).map (fun i => (i.zero, i.size, i.bytes)) = some (some (.int .u8 0), 1, 1) := by kernel_rfl

/-- a text's bytes as cells -/
def cellsU (l : List UInt8) : List Value := l.map fun b => .int .u8 (b.toNat : Int)
theorem cellsU_len (l : List UInt8) : (cellsU l).length = l.length := by simp [cellsU]
theorem cellsU_snoc (l : List UInt8) (k : Nat) (h : k < 256) : cellsU (l ++ [k.toUInt8]) = cellsU l ++ [.int .u8 (k : Int)] := by
  unfold cellsU
  rw [List.map_append]
  simp
  omega

theorem own_later {W w1 : World} {base : Nat} {v : Value} {n : Nat} {xs : List Value} {t : TypeId} (h : W.ownsRow base t 1 v n xs) (b : Below W.heap.size W w1) : w1.ownsRow base t 1 v n xs := by
  refine ⟨h.1, ?_⟩
  rcases h.2 with k | ⟨g, cap, cur, e1, e2, e3, e4⟩
  · exact .inl k
  · exact .inr ⟨g, cap, cur, e1, e2, (b.block g (lt_of_block e3)).trans e3, e4⟩
theorem below_own {B n : Nat} {w W w1 : World} {v : Value} {m : Nat} {xs : List Value} {o : Obj} {t : TypeId} (hB : Below B w W) (hn : B ≤ n) (hw : B ≤ W.heap.size) (hown : W.ownsRow n t 1 v m xs) (hg : (W.alloc o).grownBy w1 v.ownBlock) : Below B w w1 :=
  (hB.alloc hw o).grown hg (by simp; omega) (fun k hk => Nat.le_trans hn (hown.lt k hk).1)

theorem nil_conv (W : World) : (convert 37 9 (.slice none 0 0)).run Tryd.prog W = .ok (.string ⟨#[]⟩) W := by kernel_rfl
/-- a slice of bytes as a text -/
theorem own_conv {W : World} {base : Nat} {v : Value} {l : List UInt8} (h : W.ownsRow base 5 1 v l.length (cellsU l)) : (convert 37 9 v).run Tryd.prog W = .ok (.string ⟨l.toArray⟩) W := by
  rcases h.2 with ⟨hv, hn⟩ | ⟨g, cap, cur, hv, _, e3, e4, e5, e6, e7⟩
  · have : l = [] := List.eq_nil_of_length_eq_zero hn
    rw [hv, this]
    exact nil_conv W
  · rw [hv]
    refine run_convert_bytes_back W 37 9 5 ⟨g, 0, none⟩ cap l Tryd.underlying37 Tryd.underlying5 Tryd.underlying9 ?_
    intro j hj
    have hc : (⟨g, 0, none⟩ : Addr).add j = ⟨g, j, none⟩ := by simp [Addr.add]; omega
    rw [hc]
    have h1 : cur.toList[j]? = some (.int .u8 (l[j].toNat : Int)) := by
      have : (cur.toList.take (l.length * 1))[j]? = (cellsU l)[j]? := by rw [e7]
      rw [List.getElem?_take, if_pos (by omega)] at this
      rw [this]
      simp [cellsU, hj]
    simp [World.cell?, e3]
    simpa using h1

theorem has_is (q : Q) (c : Int) (b : Bool) (w : World) (hq : q.ok) (h0 : 0 ≤ c) (h1 : c ≤ 255) (h : q.has c.toNat = b) :
    Calls Tryd.prog 41 #[qv q, .int .u8 c] w fun e w' => e = .returned (.bool b) ∧ Below w.heap.size w w' := by
  subst h; exact has_any q c w hq h0 h1

end Go.Proofs.YtcglkekilaokaaaDoorC
