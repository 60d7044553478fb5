/-
  WALKS: the reference's List.
-/
import Derived.Test.YthflhfpbbnlddaaW5
import Derived.OwnWalk
import Derived.Laws.IdiomStrings
namespace Go.Proofs.Ythflhfpbbnlddaa
open Go.RowKit

/-- a set in four cells -/
def Cells4 (W : World) (b : Nat) (q : Q) : Prop := W.cell? ⟨b, 0, none⟩ = some (.int .u64 q.a) ∧ W.cell? ⟨b, 1, none⟩ = some (.int .u64 q.b) ∧ W.cell? ⟨b, 2, none⟩ = some (.int .u64 q.c) ∧ W.cell? ⟨b, 3, none⟩ = some (.int .u64 q.d)
theorem Cells4.below {W W' : World} {b n : Nat} {q : Q} (h : Cells4 W b q) (hb : Below n W W') (hn : b < n) : Cells4 W' b q := by
  obtain ⟨h0, h1, h2, h3⟩ := h
  exact ⟨(hb.cell (p := ⟨b, 0, none⟩) hn).trans h0, (hb.cell (p := ⟨b, 1, none⟩) hn).trans h1, (hb.cell (p := ⟨b, 2, none⟩) hn).trans h2, (hb.cell (p := ⟨b, 3, none⟩) hn).trans h3⟩
theorem Cells4.of {W : World} {b : Nat} {q : Q} {t : TypeId} (h : W.heap[b]? = some (.cells #[.int .u64 q.a, .int .u64 q.b, .int .u64 q.c, .int .u64 q.d] t (0, 0))) : Cells4 W b q := by
  unfold Cells4
  simp [World.cell?, h]
theorem Cells4.made (W : World) (q : Q) (t : TypeId) : Cells4 (W.alloc (.cells #[.int .u64 q.a, .int .u64 q.b, .int .u64 q.c, .int .u64 q.d] t)) W.heap.size q := by
  apply Cells4.of (t := t)
  show (W.heap.push _)[W.heap.size]? = _
  simp

theorem info5 : (Try.prog.info? 5).map (fun i => (i.zero, i.size, i.bytes)) = some (some (.int .u8 0), 1, 1) := by kernel_rfl

/-- a text's bytes as cells -/
def cellsU (l : List UInt8) : List Value := l.map fun b => .int .u8 (b.toNat : Int)
theorem cellsU_len (l : List UInt8) : (cellsU l).length = l.length := by simp [cellsU]
theorem cellsU_snoc (l : List UInt8) (k : Nat) (h : k < 256) : cellsU (l ++ [k.toUInt8]) = cellsU l ++ [.int .u8 (k : Int)] := by
  unfold cellsU
  rw [List.map_append]
  simp
  omega

theorem own_later {W w1 : World} {base : Nat} {v : Value} {n : Nat} {xs : List Value} {t : TypeId} (h : W.ownsRow base t 1 v n xs) (b : Below W.heap.size W w1) : w1.ownsRow base t 1 v n xs := by
  refine ⟨h.1, ?_⟩
  rcases h.2 with k | ⟨g, cap, cur, e1, e2, e3, e4⟩
  · exact .inl k
  · exact .inr ⟨g, cap, cur, e1, e2, (b.block g (lt_of_block e3)).trans e3, e4⟩
theorem below_own {B n : Nat} {w W w1 : World} {v : Value} {m : Nat} {xs : List Value} {o : Obj} {t : TypeId} (hB : Below B w W) (hn : B ≤ n) (hw : B ≤ W.heap.size) (hown : W.ownsRow n t 1 v m xs) (hg : (W.alloc o).grownBy w1 v.ownBlock) : Below B w w1 :=
  (hB.alloc hw o).grown hg (by simp; omega) (fun k hk => Nat.le_trans hn (hown.lt k hk).1)

theorem nil_conv (W : World) : (convert 42 9 (.slice none 0 0)).run Try.prog W = .ok (.string ⟨#[]⟩) W := by kernel_rfl
/-- a slice of bytes as a text -/
theorem own_conv {W : World} {base : Nat} {v : Value} {l : List UInt8} (h : W.ownsRow base 5 1 v l.length (cellsU l)) : (convert 42 9 v).run Try.prog W = .ok (.string ⟨l.toArray⟩) W := by
  rcases h.2 with ⟨hv, hn⟩ | ⟨g, cap, cur, hv, _, e3, e4, e5, e6, e7⟩
  · have : l = [] := List.eq_nil_of_length_eq_zero hn
    rw [hv, this]
    exact nil_conv W
  · rw [hv]
    refine run_convert_bytes_back W 42 9 5 ⟨g, 0, none⟩ cap l Try.underlying42 Try.underlying5 Try.underlying9 ?_
    intro j hj
    have hc : (⟨g, 0, none⟩ : Addr).add j = ⟨g, j, none⟩ := by simp [Addr.add]; omega
    rw [hc]
    have h1 : cur.toList[j]? = some (.int .u8 (l[j].toNat : Int)) := by
      have : (cur.toList.take (l.length * 1))[j]? = (cellsU l)[j]? := by rw [e7]
      rw [List.getElem?_take, if_pos (by omega)] at this
      rw [this]
      simp [cellsU, hj]
    simp [World.cell?, e3]
    simpa using h1

theorem rhas_is (q : Q) (c : Int) (b : Bool) (w : World) (hq : q.ok) (h0 : 0 ≤ c) (h1 : c ≤ 255) (h : q.has c.toNat = b) :
    Calls Try.prog 12 #[qv q, .int .u8 c] w fun e w' => e = .returned (.bool b) ∧ Below w.heap.size w w' := by
  subst h; exact rhas_any q c w hq h0 h1
theorem has_is (q : Q) (c : Int) (b : Bool) (w : World) (hq : q.ok) (h0 : 0 ≤ c) (h1 : c ≤ 255) (h : q.has c.toNat = b) :
    Calls Try.prog 11 #[qv q, .int .u8 c] w fun e w' => e = .returned (.bool b) ∧ Below w.heap.size w w' := by
  subst h; exact has_any q c w hq h0 h1

set_option maxRecDepth 20000 in
set_option maxHeartbeats 1000000 in
theorem rlist_any (q : Q) (w : World) (hq : q.ok) :
    Calls Try.prog 10 #[qv q] w fun e w' => e = .returned (.string ⟨(listQ q).toArray⟩) ∧ Below w.heap.size w w' := by
  obtain ⟨i0, hi, hz0, hz1, hz2⟩ := info_parts info5
  unfold qv
  go_enter Try.func10, Try.ntmps10
  go_wp2
  go_loopw [3, 4] (fun v i wr => ∃ (k : Nat) (vo : Option Addr) (vc : Nat), k ≤ 256 ∧ v = .slice vo (bytesTo q k).length vc ∧ i = .int .i64 k ∧ wr.ownsRow (w.heap.size + 1) 5 1 v (bytesTo q k).length (cellsU (bytesTo q k)) ∧ Below w.heap.size w wr ∧ w.heap.size < wr.heap.size ∧ Cells4 wr w.heap.size q) (fun _ i _ => 256 - (intOf i).toNat)
  case atStart => exact ⟨0, none, 0, by omega, rfl, rfl, World.ownsRow_nil _ _ _ _, (Below.refl _ _).alloc (Nat.le_refl _) _, by simp, Cells4.made w q 23⟩
  case round =>
    obtain ⟨k, vo, vc, hk, rfl, rfl, hown, hB, hsz, hX⟩ := hrel
    have hX' := hX
    obtain ⟨c0, c1, c2, c3⟩ := hX'
    have hbl := bytes_len q k
    by_cases hlt : k < 256
    · have hwk := wrap_u8 k (by omega)
      have hk0 : (0 : Int) ≤ k := by omega
      have hk5 : (k : Int) ≤ 255 := by omega
      have hbs := bytes_snoc q k
      cases hb : q.has k with
      | true =>
        rw [hb] at hbs
        simp only [if_true] at hbs
        have Hbs := hide hbs
        clear hbs
        have Hb : Hid (q.has (k : Int).toNat = true) := hb
        clear hb
        go_wp2_with (first | (go_at_call 12; refine (rhas_is q _ true _ hq hk0 hk5 Hb.out).mono ?_; rintro e w1 ⟨rfl, b1⟩; have hown1 := own_later hown b1; have X1 := hX.below b1 hsz; have hB1 := hB.trans (b1.mono hB.size)) | (at_builtin; refine wpList_append_own _ rfl _ _ 42 rfl (w.heap.size + 1) 5 i0 (.int .u8 0) 1 1 Try.underlying42 hi hz0 hz1 hz2 rfl (by decide) _ _ _ rfl (hown1.alloc _) ⟨w1.heap.size, 0, none⟩ 1 1 [.int .u8 (k : Int)] rfl rfl ?c1 ?c2 ?c3 ?c4 ?c5 ?_))
        case c1 =>
          intro j u hj
          match j, hj with
          | 0, hj => simp at hj; subst hj; simp [Addr.add]
        case c2 => intro u hu; simp at hu; subst hu; rfl
        case c3 => unfold maxLen; omega
        case c4 => omega
        case c5 => have := b1.size; simp; omega
        · intro v' w2 hown' hgrow _
          have hsz1 : w.heap.size < w1.heap.size := by have := b1.size; omega
          have hB2 := below_own hB1 (by omega) (by omega) hown1 hgrow
          have hB3 := below_own (Below.refl (w.heap.size + 1) w1) (Nat.le_refl _) (by omega) hown1 hgrow
          have X2 := X1.below hB3 (by omega)
          have hsz2 : w.heap.size < w2.heap.size := by have := hB3.size; omega
          have hvs' : ∃ a c', v' = .slice a ((bytesTo q k).length + 1) c' := by
            rcases hown'.2 with ⟨_, h⟩ | ⟨g, cap, cur, rfl, _⟩
            · omega
            · exact ⟨_, _, rfl⟩
          obtain ⟨va', vc', hv'⟩ := hvs'
          rw [hv'] at hown' ⊢
          have Hown := hide hown'
          clear hown' hgrow hown hown1 hv'
          go_wp2
          go_roundw
          case rel => exact ⟨k + 1, va', vc', by omega, by rw [Hbs.out, List.length_append, List.length_singleton], by go_num, by rw [Hbs.out, cellsU_snoc _ _ hlt, List.length_append, List.length_singleton]; exact Hown.out, hB2, hsz2, X2⟩
          case measure => simp [intOf]; omega
      | false =>
        rw [hb] at hbs
        simp only [Bool.false_eq_true, if_false, List.append_nil] at hbs
        have Hbs := hide hbs
        clear hbs
        have Hb : Hid (q.has (k : Int).toNat = false) := hb
        clear hb
        go_wp2_with (go_at_call 12; refine (rhas_is q _ false _ hq hk0 hk5 Hb.out).mono ?_; rintro e w1 ⟨rfl, b1⟩; have hown1 := own_later hown b1; have X1 := hX.below b1 hsz; have hB1 := hB.trans (b1.mono hB.size))
        have hsz1 : w.heap.size < w1.heap.size := by have := b1.size; omega
        go_roundw
        case rel => exact ⟨k + 1, vo, vc, by omega, by rw [Hbs.out], by go_num, by rw [Hbs.out]; exact hown1, hB1, hsz1, X1⟩
        case measure => simp [intOf]; omega
    · have hk6 : k = 256 := by omega
      have Hk6 := hide hk6
      clear hk6
      have hcv := own_conv hown
      have Hown := hide hown
      clear hown
      go_wp2
      go_ret
      rw [Hk6.out]
      exact ⟨rfl, hB⟩
end Go.Proofs.Ythflhfpbbnlddaa
