/-
  Joined by program out of the texts H10 H11.
-/
import Derived.Test.YtjbnofljoijnmaaDoorY26
import Derived.Test.YtjbnofljoijnmaaDoorY15
/-
  WALKS: the program's Put of layer 7.
-/
namespace Go.Proofs.YtjbnofljoijnmaaDoor
open Go.RowKit

section
variable {B b : Nat} {l m : List UInt8} {W V U : World}
theorem Aft.refl (h : Bd B b l W) : Aft B b l W W := ⟨h, Below.refl _ _, fun _ _ hk _ _ => hk⟩
theorem Aft.trans (h : Aft B b l W V) (g : Aft B b m V U) : Aft B b m W U := ⟨g.bd, h.bel.trans g.bel, fun k o hk h1 h2 => g.kept k o (h.kept k o hk h1 h2) h1 h2⟩
theorem Aft.next (h : Aft B b l W V) (bb : Below V.heap.size V U) (hB : B ≤ V.heap.size) : Aft B b l W U :=
  ⟨h.bd.later bb, h.bel.trans (bb.mono hB), fun k o hk h1 h2 => (bb.block k (lt_of_block (h.kept k o hk h1 h2))).trans (h.kept k o hk h1 h2)⟩
end
/-- what is written of an expression, so many variables far -/
def exP (o : UInt8) (xs : List Sp) (q : Nat) : List UInt8 := 123 :: (opL o ++ joinC ((xs.take q).map putL))
theorem exP_zero (o : UInt8) (xs : List Sp) : exP o xs 0 = 123 :: opL o := by simp [exP, joinC]
theorem exP_first (o : UInt8) (xs : List Sp) (h : 0 < xs.length) : exP o xs (0 + 1) = exP o xs 0 ++ putL xs[0] := by
  have e : xs.take 1 = [xs[0]] := by
    have := List.take_succ_eq_append_getElem h
    simpa using this
  rw [exP_zero]
  unfold exP
  rw [e]; simp [joinC]
theorem exP_next (o : UInt8) (xs : List Sp) (q : Nat) (hq : q ≠ 0) (h : q < xs.length) : exP o xs (q + 1) = exP o xs q ++ [44] ++ putL xs[q] := by
  unfold exP
  rw [List.take_succ_eq_append_getElem h, List.map_append]
  show 123 :: (opL o ++ joinC ((xs.take q).map putL ++ [putL xs[q]])) = _
  rw [join_snocC _ _ (by simp; constructor; exact hq; intro e; rw [e] at h; simp at h)]; simp
theorem exP_up (o : UInt8) (xs : List Sp) (q : Nat) (h : q < xs.length) : (exP o xs q).length + (putL xs[q]).length ≤ (exP o xs (q + 1)).length ∧ (q ≠ 0 → (exP o xs q).length + 1 + (putL xs[q]).length ≤ (exP o xs (q + 1)).length) := by
  by_cases hq : q = 0
  · subst hq
    rw [exP_first o xs h, List.length_append]
    exact ⟨Nat.le_refl _, fun h => absurd rfl h⟩
  · rw [exP_next o xs q hq h]
    simp only [List.length_append, List.length_singleton]
    exact ⟨by omega, fun _ => by omega⟩
theorem exP_le (o : UInt8) (xs : List Sp) : ∀ (d q : Nat), q + d = xs.length → (exP o xs q).length ≤ (exP o xs xs.length).length := by
  intro d
  induction d with
  | zero => intro q h; rw [Nat.add_zero] at h; rw [h]; exact Nat.le_refl _
  | succ d ih =>
    intro q h
    have h1 := (exP_up o xs q (by omega)).1
    have h2 := ih (q + 1) (by omega)
    omega
theorem op_byte (o : UInt8) (h : o ≠ 0) : opL o = [o] := by unfold opL; rw [if_neg h]
/-- a part in memory, and a builder -/
structure Pw (W V : World) (B b : Nat) (x y z : Value) (l : List UInt8) : Prop where
  aft : Aft B b l W V
  box : Bx V W.heap.size #[x, y, z] 37
  hB : B ≤ V.heap.size
  hb : W.heap.size ≠ b
section
variable {W V U : World} {B b : Nat} {x y z : Value} {l m : List UInt8}
theorem Pw.after (h : Pw W V B b x y z l) (A : Aft B b m V U) : Pw W U B b x y z m := ⟨h.aft.trans A, A.block h.box h.hb (by decide), Nat.le_trans h.hB A.bel.size, h.hb⟩
theorem Pw.next (h : Pw W V B b x y z l) (bb : Below V.heap.size V U) : Pw W U B b x y z l := ⟨h.aft.next bb h.hB, h.box.next bb, Nat.le_trans h.hB bb.size, h.hb⟩
end
set_option maxRecDepth 20000 in
set_option maxHeartbeats 1500000 in
theorem putExpression_any (B b : Nat) (l : List UInt8) (L : ByteArray) (o : UInt8) (a : Option Addr) (m n : Nat) (xs : List Sp) (W w0 : World) (R : Ran w0) (h0 : w0.heap.size ≤ B) (B0 : Below w0.heap.size w0 W) (hS : SpecsAt w0 (.slice a m n) xs) (hm : xs.length = m) (hm5 : m ≤ 100000)
    (hy : ∀ y ∈ xs, y.name.length ≤ 1000000) (hbd : Bd B b l W) (hBw : B ≤ W.heap.size) (hl : l.length + (exP o xs xs.length).length + 1 ≤ 2000000) :
    Calls Tryd.prog 19 #[.pointer (some ⟨b, 0, none⟩), .agg #[.string L, .int .u8 (o.toNat : Int), .slice a m n]] W fun e w' => e = .returned (.tuple #[]) ∧ Aft B b (l ++ exP o xs xs.length ++ [125]) W w' := by
  have P : Pw W (W.alloc (.cells #[.string L, .int .u8 (o.toNat : Int), .slice a m n] 37)) B b (.string L) (.int .u8 (o.toNat : Int)) (.slice a m n) l :=
    ⟨(Aft.refl hbd).next ((Below.refl _ _).alloc (Nat.le_refl _) _) hBw, Bx.made _ _ _, by simp; omega, by have := hbd.lt; omega⟩
  have hz := exP_le o xs xs.length 0 (by omega)
  rw [exP_zero] at hz
  simp only [List.length_cons] at hz
  have HS := hide hS
  have Hy := hide hy
  have Hhl := hide hl
  have hou := UInt8.toNat_lt o
  obtain ⟨tot, htot⟩ : ∃ tot, (exP o xs xs.length).length = tot := ⟨_, rfl⟩
  rw [htot] at hl hz
  have Htot := hide htot
  clear hS hy htot hbd
  obtain ⟨x0, x1, x2⟩ := cells3 P.box
  have T0 : Hid True := trivial
  by_cases ho : o = 0
  · have hoz : ((o.toNat : Int) != 0) = false := by rw [ho]; rfl
    have hop : exP o xs 0 = [123] := by rw [exP_zero, ho]; rfl
    have Hop := hide hop
    clear hop hz ho
    go_enter Tryd.func19, Tryd.ntmps19
    go_wp2_with (go_at_call 29; refine (wbyte B b l 123 _ _ P.aft.bd rfl (by decide) (by omega) P.hB).mono ?_; rintro e w1 ⟨rfl, A⟩; replace P := P.after A; clear A x0 x1 x2; obtain ⟨x0, x1, x2⟩ := cells3 P.box)
    go_loopw [18] (fun i V => ∃ q : Nat, q ≤ m ∧ i = .int .i64 q ∧ Pw W V B b (.string L) (.int .u8 (o.toNat : Int)) (.slice a m n) (l ++ exP o xs q)) (fun i _ => m - (intOf i).toNat)
    case atStart => exact ⟨0, Nat.zero_le _, rfl, by rw [Hop.out]; exact P⟩
    case round =>
      clear P x0 x1 x2
      obtain ⟨q, hq, rfl, P⟩ := hrel
      have hbel := B0.trans (P.aft.bel.mono h0)
      obtain ⟨x0, x1, x2⟩ := cells3 P.box
      have hlq := exP_le o xs (xs.length - q) q (by omega)
      rw [Htot.out] at hlq
      by_cases hqm : q < m
      · have hqs : q < xs.length := by omega
        have g4 := HS.out.later hbel
        rw [← hm] at g4
        obtain ⟨sb, so, sc, es, hsb, s1, s2, s3⟩ := g4.at q hqs
        rw [hm] at es
        cases es
        have hup := exP_up o xs q hqs
        have hl1 := exP_le o xs (xs.length - (q + 1)) (q + 1) (by omega)
        rw [Htot.out] at hl1
        have hyl := Hy.out _ (List.getElem_mem hqs)
        have hfirst : q = 0 → exP o xs (q + 1) = exP o xs q ++ putL xs[q] := by
          intro e
          subst e
          exact exP_first o xs hqs
        have hnext := fun h => exP_next o xs q h hqs
        obtain ⟨y, hy2⟩ : ∃ y, xs[q] = y := ⟨_, rfl⟩
        rw [hy2] at s1 s2 s3 hup hyl hfirst
        simp only [hy2] at hnext
        obtain ⟨nm, hnm⟩ : ∃ nm : ByteArray, (⟨y.name.toArray⟩ : ByteArray) = nm := ⟨_, rfl⟩
        have hns : nm.size ≤ 1000000 := by rw [size_list, ← hnm]; exact hyl
        rw [hnm] at s1
        obtain ⟨mx, hmx⟩ : ∃ mx, y.max = mx := ⟨_, rfl⟩
        obtain ⟨st, hst⟩ : ∃ st, y.star = st := ⟨_, rfl⟩
        rw [hmx] at s2
        rw [hst] at s3
        have hsp : spA nm mx st = y := by rw [← hnm, ← hmx, ← hst]; rfl
        obtain ⟨p, hp⟩ : ∃ p : ByteArray, p.data.toList = putL y := ⟨⟨(putL y).toArray⟩, rfl⟩
        have hp2 : p.data.toList = putL (spA nm mx st) := by rw [hsp]; exact hp
        obtain ⟨pl, hpl⟩ : ∃ pl, putL y = pl := ⟨_, rfl⟩
        rw [hpl] at hp hup hfirst
        simp only [hpl] at hnext
        obtain ⟨E, hE⟩ : ∃ E, exP o xs q = E := ⟨_, rfl⟩
        rw [hE] at hup hfirst hlq P
        simp only [hE] at hnext
        obtain ⟨E1, hE1⟩ : ∃ E1, exP o xs (q + 1) = E1 := ⟨_, rfl⟩
        rw [hE1] at hup hfirst hl1
        simp only [hE1] at hnext
        have HE1 := hide hE1
        have Hp2 := hide hp2
        have Hp := hide hp
        have Hfirst := hide hfirst
        have Hnext := hide hnext
        have hu1 := hup.1
        have Y : Bx (wr.alloc (.cells #[.string nm, .int .i64 mx, .bool st] 39)) wr.heap.size #[.string nm, .int .i64 mx, .bool st] 39 := Bx.made _ _ _
        have hYb : wr.heap.size ≠ b := by have := P.aft.bd.lt; omega
        have P2 := P.next ((Below.refl _ wr).alloc (Nat.le_refl _) (.cells #[.string nm, .int .i64 mx, .bool st] 39))
        have hB2 : Below w0.heap.size w0 (wr.alloc (.cells #[.string nm, .int .i64 mx, .bool st] 39)) := hbel.alloc hbel.size _
        by_cases hq0 : q = 0
        · have hnl : E1 = E ++ pl := hfirst hq0
          have Hnl := hide hnl
          clear hnl hnext hfirst hp hp2 hE hE1 hpl hsp hnm hmx hst hy2 g4 hyl hup
          subst hq0
          simp only [Nat.zero_mul, Nat.add_zero] at s1 s2 s3
          go_wp2_with (first
            | (go_at_call 30; refine (pxput_is nm mx st p _ hns Hp2.out (R.at hB2)).mono ?_; rintro e w2 ⟨rfl, bb⟩; have P3 := P2.next bb; clear bb)
            | (go_at_call 18; refine (wtext B b _ pl p _ P3.aft.bd Hp.out (by omega) (by simp; omega) P3.hB).mono ?_; rintro e w3 ⟨rfl, A⟩; have P4 := P3.after A; clear A))
          go_roundw
          case rel => exact ⟨0 + 1, by omega, by go_num, by rw [HE1.out, Hnl.out, ← List.append_assoc]; exact P4⟩
          case measure => simp [intOf]; omega
        · have hnl : E1 = E ++ [44] ++ pl := hnext hq0
          have hu2 := hup.2 hq0
          have Hnl := hide hnl
          have hq1 : 0 < q := by omega
          clear hnl hnext hfirst hp hp2 hE hE1 hpl hsp hnm hmx hst hy2 g4 hyl hup
          go_wp2_with (first
            | (go_at_call 29; refine (wbyte B b _ 44 _ _ P2.aft.bd rfl (by decide) (by simp; omega) P2.hB).mono ?_; rintro e w1 ⟨rfl, A⟩; replace Y : Bx w1 _ _ _ := A.block Y hYb (by decide); have P3 := P2.after A; have hB3 := hB2.trans (A.bel.mono h0); clear A; obtain ⟨y0, y1, y2⟩ := cells3 Y)
            | (go_at_call 30; refine (pxput_is nm mx st p _ hns Hp2.out (R.at hB3)).mono ?_; rintro e w2 ⟨rfl, bb⟩; have P4 := P3.next bb; clear bb)
            | (go_at_call 18; refine (wtext B b _ pl p _ P4.aft.bd Hp.out (by omega) (by simp; omega) P4.hB).mono ?_; rintro e w3 ⟨rfl, A⟩; have P5 := P4.after A; clear A))
          go_roundw
          case rel => exact ⟨q + 1, by omega, by go_num, by rw [HE1.out, Hnl.out, ← List.append_assoc, ← List.append_assoc]; exact P5⟩
          case measure => simp [intOf]; omega
      · have hqe : q = m := by omega
        have hqx : q = xs.length := by omega
        have HQ := hide hqx
        clear hqx
        subst hqe
        go_wp2_with (go_at_call 29; refine (wbyte B b _ 125 _ _ P.aft.bd rfl (by decide) (by simp; omega) P.hB).mono ?_; rintro e w1 ⟨rfl, A⟩; have P3 := P.after A; clear A)
        all_goals exact bodyPost_end (v := .tuple #[]) (results_none Tryd.results19 _ _ _) rfl ⟨rfl, by rw [← HQ.out]; exact P3.aft⟩
  · have hoz : ((o.toNat : Int) != 0) = true := by
      have : o.toNat ≠ 0 := fun e => ho (UInt8.toNat_inj.1 e)
      simp; omega
    have hop : exP o xs 0 = [123] ++ [o] := by rw [exP_zero, op_byte o ho]; rfl
    have Hop := hide hop
    have hself : o.toNat.toUInt8 = o := by simp
    have Hself := hide hself
    clear hop ho hself
    go_enter Tryd.func19, Tryd.ntmps19
    go_wp2_with (first
      | (go_at_call 29; have z := T0; refine (wbyte B b l 123 _ _ P.aft.bd rfl (by decide) (by omega) P.hB).mono ?_; rintro e w1 ⟨rfl, A⟩; replace P := P.after A; clear A x0 x1 x2 T0 z; obtain ⟨x0, x1, x2⟩ := cells3 P.box)
      | (go_at_call 29; refine (wbyte B b _ o.toNat _ _ P.aft.bd rfl hou (by simp; omega) P.hB).mono ?_; rintro e w2 ⟨rfl, A⟩; replace P := P.after A; clear A x0 x1 x2; obtain ⟨x0, x1, x2⟩ := cells3 P.box))
    rw [Hself.out, List.append_assoc] at P
    go_loopw [18] (fun i V => ∃ q : Nat, q ≤ m ∧ i = .int .i64 q ∧ Pw W V B b (.string L) (.int .u8 (o.toNat : Int)) (.slice a m n) (l ++ exP o xs q)) (fun i _ => m - (intOf i).toNat)
    case atStart => exact ⟨0, Nat.zero_le _, rfl, by rw [Hop.out]; exact P⟩
    case round =>
      clear P x0 x1 x2
      obtain ⟨q, hq, rfl, P⟩ := hrel
      have hbel := B0.trans (P.aft.bel.mono h0)
      obtain ⟨x0, x1, x2⟩ := cells3 P.box
      have hlq := exP_le o xs (xs.length - q) q (by omega)
      rw [Htot.out] at hlq
      by_cases hqm : q < m
      · have hqs : q < xs.length := by omega
        have g4 := HS.out.later hbel
        rw [← hm] at g4
        obtain ⟨sb, so, sc, es, hsb, s1, s2, s3⟩ := g4.at q hqs
        rw [hm] at es
        cases es
        have hup := exP_up o xs q hqs
        have hl1 := exP_le o xs (xs.length - (q + 1)) (q + 1) (by omega)
        rw [Htot.out] at hl1
        have hyl := Hy.out _ (List.getElem_mem hqs)
        have hfirst : q = 0 → exP o xs (q + 1) = exP o xs q ++ putL xs[q] := by
          intro e
          subst e
          exact exP_first o xs hqs
        have hnext := fun h => exP_next o xs q h hqs
        obtain ⟨y, hy2⟩ : ∃ y, xs[q] = y := ⟨_, rfl⟩
        rw [hy2] at s1 s2 s3 hup hyl hfirst
        simp only [hy2] at hnext
        obtain ⟨nm, hnm⟩ : ∃ nm : ByteArray, (⟨y.name.toArray⟩ : ByteArray) = nm := ⟨_, rfl⟩
        have hns : nm.size ≤ 1000000 := by rw [size_list, ← hnm]; exact hyl
        rw [hnm] at s1
        obtain ⟨mx, hmx⟩ : ∃ mx, y.max = mx := ⟨_, rfl⟩
        obtain ⟨st, hst⟩ : ∃ st, y.star = st := ⟨_, rfl⟩
        rw [hmx] at s2
        rw [hst] at s3
        have hsp : spA nm mx st = y := by rw [← hnm, ← hmx, ← hst]; rfl
        obtain ⟨p, hp⟩ : ∃ p : ByteArray, p.data.toList = putL y := ⟨⟨(putL y).toArray⟩, rfl⟩
        have hp2 : p.data.toList = putL (spA nm mx st) := by rw [hsp]; exact hp
        obtain ⟨pl, hpl⟩ : ∃ pl, putL y = pl := ⟨_, rfl⟩
        rw [hpl] at hp hup hfirst
        simp only [hpl] at hnext
        obtain ⟨E, hE⟩ : ∃ E, exP o xs q = E := ⟨_, rfl⟩
        rw [hE] at hup hfirst hlq P
        simp only [hE] at hnext
        obtain ⟨E1, hE1⟩ : ∃ E1, exP o xs (q + 1) = E1 := ⟨_, rfl⟩
        rw [hE1] at hup hfirst hl1
        simp only [hE1] at hnext
        have HE1 := hide hE1
        have Hp2 := hide hp2
        have Hp := hide hp
        have Hfirst := hide hfirst
        have Hnext := hide hnext
        have hu1 := hup.1
        have Y : Bx (wr.alloc (.cells #[.string nm, .int .i64 mx, .bool st] 39)) wr.heap.size #[.string nm, .int .i64 mx, .bool st] 39 := Bx.made _ _ _
        have hYb : wr.heap.size ≠ b := by have := P.aft.bd.lt; omega
        have P2 := P.next ((Below.refl _ wr).alloc (Nat.le_refl _) (.cells #[.string nm, .int .i64 mx, .bool st] 39))
        have hB2 : Below w0.heap.size w0 (wr.alloc (.cells #[.string nm, .int .i64 mx, .bool st] 39)) := hbel.alloc hbel.size _
        by_cases hq0 : q = 0
        · have hnl : E1 = E ++ pl := hfirst hq0
          have Hnl := hide hnl
          clear hnl hnext hfirst hp hp2 hE hE1 hpl hsp hnm hmx hst hy2 g4 hyl hup
          subst hq0
          simp only [Nat.zero_mul, Nat.add_zero] at s1 s2 s3
          go_wp2_with (first
            | (go_at_call 30; refine (pxput_is nm mx st p _ hns Hp2.out (R.at hB2)).mono ?_; rintro e w2 ⟨rfl, bb⟩; have P3 := P2.next bb; clear bb)
            | (go_at_call 18; refine (wtext B b _ pl p _ P3.aft.bd Hp.out (by omega) (by simp; omega) P3.hB).mono ?_; rintro e w3 ⟨rfl, A⟩; have P4 := P3.after A; clear A))
          go_roundw
          case rel => exact ⟨0 + 1, by omega, by go_num, by rw [HE1.out, Hnl.out, ← List.append_assoc]; exact P4⟩
          case measure => simp [intOf]; omega
        · have hnl : E1 = E ++ [44] ++ pl := hnext hq0
          have hu2 := hup.2 hq0
          have Hnl := hide hnl
          have hq1 : 0 < q := by omega
          clear hnl hnext hfirst hp hp2 hE hE1 hpl hsp hnm hmx hst hy2 g4 hyl hup
          go_wp2_with (first
            | (go_at_call 29; refine (wbyte B b _ 44 _ _ P2.aft.bd rfl (by decide) (by simp; omega) P2.hB).mono ?_; rintro e w1 ⟨rfl, A⟩; replace Y : Bx w1 _ _ _ := A.block Y hYb (by decide); have P3 := P2.after A; have hB3 := hB2.trans (A.bel.mono h0); clear A; obtain ⟨y0, y1, y2⟩ := cells3 Y)
            | (go_at_call 30; refine (pxput_is nm mx st p _ hns Hp2.out (R.at hB3)).mono ?_; rintro e w2 ⟨rfl, bb⟩; have P4 := P3.next bb; clear bb)
            | (go_at_call 18; refine (wtext B b _ pl p _ P4.aft.bd Hp.out (by omega) (by simp; omega) P4.hB).mono ?_; rintro e w3 ⟨rfl, A⟩; have P5 := P4.after A; clear A))
          go_roundw
          case rel => exact ⟨q + 1, by omega, by go_num, by rw [HE1.out, Hnl.out, ← List.append_assoc, ← List.append_assoc]; exact P5⟩
          case measure => simp [intOf]; omega
      · have hqe : q = m := by omega
        have hqx : q = xs.length := by omega
        have HQ := hide hqx
        clear hqx
        subst hqe
        go_wp2_with (go_at_call 29; refine (wbyte B b _ 125 _ _ P.aft.bd rfl (by decide) (by simp; omega) P.hB).mono ?_; rintro e w1 ⟨rfl, A⟩; have P3 := P.after A; clear A)
        all_goals exact bodyPost_end (v := .tuple #[]) (results_none Tryd.results19 _ _ _) rfl ⟨rfl, by rw [← HQ.out]; exact P3.aft⟩
end Go.Proofs.YtjbnofljoijnmaaDoor

/-
  WALKS: the program's Put of layer 7, whole.
-/
namespace Go.Proofs.YtjbnofljoijnmaaDoor
open Go.RowKit

theorem putF_next (ts : List Pt) (k : Nat) (h : k < ts.length) : putF (ts.take (k + 1)) = putF (ts.take k) ++ putPt ts[k] := by
  unfold putF
  rw [List.take_succ_eq_append_getElem h, List.map_append, List.flatten_append]
  simp
theorem putF_le (ts : List Pt) (k : Nat) : (putF (ts.take k)).length ≤ (putF ts).length := by
  have e : putF ts = putF (ts.take k) ++ putF (ts.drop k) := by
    unfold putF
    rw [← List.flatten_append, ← List.map_append, List.take_append_drop]
  rw [e, List.length_append]
  omega
theorem exP_all (x : Pt) (L : ByteArray) (hL : L.data.toList = x.lit) (hm : mayPt x = true) (h : ¬ 0 < L.size) : putPt x = exP x.op x.specs x.specs.length ++ [125] := by
  have hse : x.specs.isEmpty = false := by rw [may_lit hm L hL, decide_eq_false h]
  obtain ⟨_, _, _, _, e⟩ := put_expr hse hm
  rw [e]
  unfold exP bodyL
  rw [List.take_length]
  rfl
set_option maxRecDepth 20000 in
set_option maxHeartbeats 1500000 in
theorem pputT_any (v : Value) (ts : List Pt) (w : World) (R : Rans w) (h : PtsAt w v ts) (hsm : SmallT ts) (hl : (putF ts).length ≤ 1000000) :
    Calls Tryd.prog 9 #[v] w fun e w' => e = .returned (.string ⟨(putT ts).toArray⟩) ∧ Below w.heap.size w w' := by
  have many := fun b (hb : mayT ts = b) W (RW : Rans W) (hW : PtsAt W v ts) => (show Calls Tryd.prog 8 #[v] W fun e w' => e = .returned (.bool b) ∧ Below W.heap.size W w' from hb ▸ pmayT_any v ts W RW hW hsm)
  obtain ⟨hn, hsz⟩ := hsm
  obtain ⟨ao, cp, rfl⟩ := h.form
  have H := hide h
  have Hsz := hide hsz
  clear h hsz
  cases hmy : mayT ts with
  | false =>
    have hr : (⟨(putT ts).toArray⟩ : ByteArray) = ⟨#[]⟩ := by unfold putT; rw [hmy]; rfl
    rw [hr]
    have many2 := hide (many false hmy w R H.out)
    clear many hmy hr
    go_enter Tryd.func9, Tryd.ntmps9
    go_wp2_with (go_at_call 8; refine many2.out.mono ?_; rintro e w1 ⟨rfl, bb⟩)
    all_goals go_ret
    all_goals exact ⟨rfl, bb⟩
  | true =>
    have hr : putT ts = putF ts := by unfold putT; rw [hmy]; rfl
    rw [hr]
    have many2 := hide (many true hmy w R H.out)
    have hmem := may_mem ts false hmy
    have Hmem := hide hmem
    clear many hmy hr hmem
    obtain ⟨p, hp⟩ : ∃ p : ByteArray, (⟨(putF ts).toArray⟩ : ByteArray) = p := ⟨_, rfl⟩
    have hpl : p.data.toList = putF ts := by rw [← hp]
    rw [hp]
    have Hpl := hide hpl
    clear hp hpl
    go_enter Tryd.func9, Tryd.ntmps9
    go_wp2_with (go_at_call 8; refine many2.out.mono ?_; rintro e w1 ⟨rfl, bb⟩)
    have RT : Ran w1 := (R.next bb).tab
    have H1 := hide (H.out.later bb)
    have A0 : Aft w1.heap.size w1.heap.size [] (w1.alloc (.cells #[.pointer none, .slice none 0 0] 44)) (w1.alloc (.cells #[.pointer none, .slice none 0 0] 44)) := Aft.refl (Bd.made w1)
    go_loopw [11] (fun i wr => ∃ k : Nat, k ≤ ts.length ∧ i = .int .i64 k ∧ Aft w1.heap.size w1.heap.size (putF (ts.take k)) (w1.alloc (.cells #[.pointer none, .slice none 0 0] 44)) wr ∧ w1.heap.size + 1 ≤ wr.heap.size) (fun i _ => ts.length - (intOf i).toNat)
    case atStart => exact ⟨0, Nat.zero_le _, rfl, A0, by simp⟩
    case round =>
      clear A0
      obtain ⟨k, hk, rfl, A, hsw⟩ := hrel
      have hb1 : Below w1.heap.size w1 wr := ((Below.refl _ w1).alloc (Nat.le_refl _) _).trans A.bel
      have hB : Below w.heap.size w wr := bb.trans (hb1.mono bb.size)
      have hlk := putF_le ts k
      by_cases hlt : k < ts.length
      · obtain ⟨b, off, cap, a, n, e, hb, h1, h2, h3, h4⟩ := H1.out.at k hlt
        cases e
        replace h1 := (hb1.cell (p := ⟨b, off + k * 3, none⟩) hb).trans h1
        replace h2 := (hb1.cell (p := ⟨b, off + k * 3 + 1, none⟩) hb).trans h2
        replace h3 := (hb1.cell (p := ⟨b, off + k * 3 + 2, none⟩) hb).trans h3
        have hnx := putF_next ts k hlt
        have hl1 := putF_le ts (k + 1)
        have hmx := Hmem.out _ (List.getElem_mem hlt)
        obtain ⟨hsk, hllk, hyk⟩ := Hsz.out _ (List.getElem_mem hlt)
        obtain ⟨x, hx⟩ : ∃ x, ts[k] = x := ⟨_, rfl⟩
        rw [hx] at h1 h2 h3 h4 hsk hllk hyk hnx hmx
        obtain ⟨L, hL⟩ : ∃ L : ByteArray, (⟨x.lit.toArray⟩ : ByteArray) = L := ⟨_, rfl⟩
        have hLl : L.data.toList = x.lit := by rw [← hL]
        have hLs : L.size ≤ 1000000 := by rw [size_list, hLl]; omega
        rw [hL] at h1
        obtain ⟨m, em⟩ : ∃ m, x.specs.length = m := ⟨_, rfl⟩
        rw [em] at h3 h4 hsk
        have hm5 : m ≤ 100000 := by omega
        have hy6 : ∀ y ∈ x.specs, y.name.length ≤ 1000000 := fun y hy => by have := hyk y hy; omega
        have X0 := Bx.made wr #[.string L, .int .u8 (x.op.toNat : Int), .slice a m n] 37
        have A1 := A.next ((Below.refl _ wr).alloc (Nat.le_refl _) (.cells #[.string L, .int .u8 (x.op.toNat : Int), .slice a m n] 37)) (by omega)
        have hb2 : Below w1.heap.size w1 (wr.alloc (.cells #[.string L, .int .u8 (x.op.toNat : Int), .slice a m n] 37)) := hb1.alloc (by omega) _
        have hsa : w1.heap.size ≤ (wr.alloc (.cells #[.string L, .int .u8 (x.op.toNat : Int), .slice a m n] 37)).heap.size := by simp; omega
        obtain ⟨E, hE⟩ : ∃ E, putF (ts.take k) = E := ⟨_, rfl⟩
        rw [hE] at A1 hnx hlk A
        obtain ⟨E1, hE1⟩ : ∃ E1, putF (ts.take (k + 1)) = E1 := ⟨_, rfl⟩
        rw [hE1] at hnx hl1
        have hlen : E1.length = E.length + (putPt x).length := by rw [hnx, List.length_append]
        have HE1 := hide hE1
        by_cases hL0 : 0 < L.size
        · have hEm := eq_some L hL0
          have hse : x.specs.isEmpty = true := by rw [may_lit hmx L hLl, decide_eq_true hL0]
          have hpt := (put_lit hse hmx).2.2.2
          rw [hpt, ← hLl] at hnx
          have Hnx := hide hnx
          have hll : L.data.toList.length ≤ 3000000 := by rw [← size_list]; omega
          have hEl : E.length ≤ 3000000 := by omega
          clear hnx hpt hse hmx hyk hy6 em hLl hL hx hE hE1 h4 hlen hl1 hlk hl
          go_wp2_with (go_at_call 18; refine (wtext w1.heap.size w1.heap.size E L.data.toList L _ A1.bd rfl hll hEl hsa).mono ?_; rintro e w3 ⟨rfl, A2⟩)
          go_roundw
          case rel => exact ⟨k + 1, by omega, by go_num, by rw [HE1.out, Hnx.out]; exact A1.trans A2, Nat.le_trans hsw (Nat.le_trans (by simp) A2.bel.size)⟩
          case measure => simp [intOf]; omega
        · have hEm := eq_none L hL0
          have hpt := exP_all x L hLl hmx hL0
          rw [hpt] at hnx hlen
          rw [← List.append_assoc] at hnx
          have Hnx := hide hnx
          have hbound : E.length + (exP x.op x.specs x.specs.length).length + 1 ≤ 2000000 := by
            rw [List.length_append, List.length_singleton] at hlen
            omega
          have Hx := hide (putExpression_any w1.heap.size w1.heap.size E L x.op a m n x.specs _ w1 RT (Nat.le_refl _) hb2 h4 em hm5 hy6 A1.bd hsa hbound)
          clear hnx hpt hmx hyk hy6 em hLl hL hx hE hE1 h4 hlen hl1 hlk hbound hl
          go_wp2_with (go_at_call 19; refine Hx.out.mono ?_; rintro e w3 ⟨rfl, A2⟩)
          go_roundw
          case rel => exact ⟨k + 1, by omega, by go_num, by rw [HE1.out, Hnx.out]; exact A1.trans A2, Nat.le_trans hsw (Nat.le_trans (by simp) A2.bel.size)⟩
          case measure => simp [intOf]; omega
      · have hke : k = ts.length := by omega
        have hpe : p.data.toList = putF (ts.take k) := by rw [Hpl.out, hke, List.take_length]
        have Hpe := hide hpe
        clear hpe hlk
        go_wp2_with (go_at_call 20; refine (wdone _ _ _ p _ A.bd Hpe.out (by omega)).mono ?_; rintro e w3 ⟨rfl, A2⟩)
        all_goals go_ret
        all_goals exact ⟨rfl, hB.trans (A2.bel.mono bb.size)⟩
end Go.Proofs.YtjbnofljoijnmaaDoor
