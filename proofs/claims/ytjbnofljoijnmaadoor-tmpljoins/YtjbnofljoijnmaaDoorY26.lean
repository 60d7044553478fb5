/-
  Joined by program out of the texts H7 H9.
-/
import Derived.Test.YtjbnofljoijnmaaDoorY13
import Derived.Test.YtjbnofljoijnmaaDoorY12
import Derived.Test.YtjbnofljoijnmaaDoorY15
import Derived.Deep.RegionHeld3
import Derived.Test.YtjbnofljoijnmaaDoorY19
/-
  WALKS: the program's May of layer 7: literals, expressions, templates.
-/
namespace Go.Proofs.YtjbnofljoijnmaaDoor
open Go.RowKit

theorem literal_sizes (L : ByteArray) (h : 0 < L.size) : literalB L.data.toList = decide (litLen L.data.toList = L.size) := by
  unfold literalB
  have : L.data.toList ≠ [] := by intro e; rw [size_list, e] at h; simp at h
  rw [decide_eq_true this, Bool.true_and, size_list]
/-- whether a part is a literal, as the program asks -/
def pLit (L : ByteArray) (o : UInt8) (m : Nat) : Bool := o == 0 && (decide (m = 0) && literalB L.data.toList)
theorem bel_box {w W : World} {o : Obj} (b : Below (w.alloc o).heap.size (w.alloc o) W) : Below w.heap.size w W := bel_alloc (Below.refl _ _) b
set_option maxRecDepth 20000 in
set_option maxHeartbeats 1000000 in
theorem isLiteral_any (L : ByteArray) (o : UInt8) (a : Option Addr) (m n : Nat) (w : World) (R : Rans w) (hs : L.size ≤ 1000000) :
    Calls Tryd.prog 16 #[.agg #[.string L, .int .u8 (o.toNat : Int), .slice a m n]] w fun e w' => e = .returned (.bool (pLit L o m)) ∧ Below w.heap.size w w' := by
  have X := Bx.made w #[.string L, .int .u8 (o.toNat : Int), .slice a m n] 37
  have B0 : Below w.heap.size w (w.alloc (.cells #[.string L, .int .u8 (o.toNat : Int), .slice a m n] 37)) := (Below.refl _ _).alloc (Nat.le_refl _) _
  obtain ⟨x0, x1, x2⟩ := cells3 X
  by_cases ho : o = 0
  · by_cases hm : m = 0
    · subst hm
      by_cases hL : 0 < L.size
      · have hE := eq_some L hL
        have he : pLit L o 0 = decide (litLen L.data.toList = L.size) := by unfold pLit; rw [literal_sizes L hL, ho]; rfl
        rw [he]
        subst ho
        rw [show (((0 : UInt8).toNat : Nat) : Int) = 0 from rfl] at *
        obtain ⟨k, hk⟩ : ∃ k, litLen L.data.toList = k := ⟨_, rfl⟩
        rw [hk]
        have pany : Hid (∀ w, Rans w → Calls Tryd.prog 25 #[.string L] w fun e w' => e = .returned (.int .i64 k) ∧ Below w.heap.size w w') := by
          intro w R
          have := pieces_any L w R hs
          rw [hk] at this
          exact this
        clear hk he
        replace R := R.alloc (.cells #[.string L, .int .u8 0, .slice a 0 n] 37)
        have RD : Rans (w.alloc (.cells #[.string L, .int .u8 0, .slice a 0 n] 37)).drew := R.next ((Below.refl _ _).drew)
        clear x0 x1 x2
        have HX := hide X
        clear X
        go_enter Tryd.func16, Tryd.ntmps16
        have X := HX.out
        obtain ⟨x0, x1, x2⟩ := cells3 X
        go_wp2
        go_region_held3 (fun W => W.cell? ⟨w.heap.size, 0, none⟩ = some (.string L) ∧ W.cell? ⟨w.heap.size, 1, none⟩ = some (.int .u8 0) ∧ W.cell? ⟨w.heap.size, 2, none⟩ = some (.slice a 0 n)) (first | (exact cells3 HX.out) | (exact cells3 HX.out.drew) | (exact cells3 (HX.out.drew.next bb))) ((go_at_call 25; refine (pany.out _ RD).mono ?_; rintro e w1 ⟨rfl, bb⟩))
        all_goals go_wp2
        all_goals go_ret
        all_goals exact ⟨ret_bool (by rw [Bool.eq_iff_iff]; simp; omega), B0.drew.trans (bb.mono B0.size)⟩
      · have hE := eq_none L hL
        have he : pLit L o 0 = false := by
          have : literalB L.data.toList = false := by rw [list_none L hL]; rfl
          unfold pLit; rw [this]; simp
        rw [he]
        subst ho
        go_enter Tryd.func16, Tryd.ntmps16
        go_wp2
        go_region
        all_goals go_wp2
        all_goals go_ret
        all_goals exact ⟨rfl, B0.drew⟩
    · have he : pLit L o m = false := by unfold pLit; simp [hm]
      have hmz : ((m : Int) == 0) = false := by simp; omega
      rw [he]
      subst ho
      go_enter Tryd.func16, Tryd.ntmps16
      go_wp2
      go_region
      all_goals go_wp2
      all_goals go_ret
      all_goals exact ⟨rfl, B0.drew⟩
  · have he : pLit L o m = false := by unfold pLit; simp [ho]
    have hoz : ((o.toNat : Int) == 0) = false := by
      have : o.toNat ≠ 0 := fun e => ho (UInt8.toNat_inj.1 e)
      simp; omega
    rw [he]
    go_enter Tryd.func16, Tryd.ntmps16
    go_wp2
    go_region
    all_goals go_wp2
    all_goals go_ret
    all_goals exact ⟨rfl, B0.drew⟩
/-- whether a part is an expression, as the program asks -/
def pExp (L : ByteArray) (o : UInt8) (xs : List Sp) : Bool := L.data.toList.isEmpty && (operB o && (xs.all mayX && decide (0 < xs.length)))
theorem poper_of (o : UInt8) (b : Bool) (w : World) (h : operB o = b) : Calls Tryd.prog 26 #[.int .u8 (o.toNat : Int)] w fun e w' => e = .returned (.bool b) ∧ w' = w := by
  subst h; exact poper_any o w
set_option maxRecDepth 20000 in
set_option maxHeartbeats 1000000 in
theorem isExpression_any (L : ByteArray) (o : UInt8) (a : Option Addr) (m n : Nat) (xs : List Sp) (w : World) (hm : xs.length = m) (hS : SpecsAt w (.slice a m n) xs) (hn : m ≤ 100000) (hy : ∀ y ∈ xs, y.name.length ≤ 1000000) :
    Calls Tryd.prog 17 #[.agg #[.string L, .int .u8 (o.toNat : Int), .slice a m n]] w fun e w' => e = .returned (.bool (pExp L o xs)) ∧ Below w.heap.size w w' := by
  have X := Bx.made w #[.string L, .int .u8 (o.toNat : Int), .slice a m n] 37
  have B0 : Below w.heap.size w (w.alloc (.cells #[.string L, .int .u8 (o.toNat : Int), .slice a m n] 37)) := (Below.refl _ _).alloc (Nat.le_refl _) _
  obtain ⟨x0, x1, x2⟩ := cells3 X
  replace hS := hS.later B0
  have HS := hide hS
  have HX := hide X
  clear hS X
  by_cases hL : 0 < L.size
  · have hE := eq_some L hL
    have he : pExp L o xs = false := by
      have : L.data.toList.isEmpty = false := by rw [list_one L hL]; rfl
      unfold pExp; rw [this]; rfl
    rw [he]
    go_enter Tryd.func17, Tryd.ntmps17
    go_wp2
    all_goals go_ret
    all_goals exact ⟨rfl, B0⟩
  · have hE := eq_none L hL
    have hLe : L.data.toList.isEmpty = true := by rw [list_none L hL]; rfl
    cases ho : operB o with
    | false =>
      have he : pExp L o xs = false := by unfold pExp; rw [ho, hLe]; rfl
      rw [he]
      have Ho := hide ho
      clear ho he
      go_enter Tryd.func17, Tryd.ntmps17
      go_wp2_with (go_at_call 26; refine (poper_of o false _ Ho.out).mono ?_; rintro e w1 ⟨rfl, hw⟩; rw [hw])
      all_goals go_ret
      all_goals exact ⟨rfl, B0⟩
    | true =>
      have he : pExp L o xs = (xs.all mayX && decide (0 < xs.length)) := by unfold pExp; rw [ho, hLe]; rfl
      obtain ⟨rr, hrr⟩ : ∃ rr, (xs.all mayX && decide (0 < xs.length)) = rr := ⟨_, rfl⟩
      rw [he, hrr]
      have Hrr := hide hrr
      have Ho := hide ho
      clear ho he hrr
      go_enter Tryd.func17, Tryd.ntmps17
      go_wp2_with (go_at_call 26; refine (poper_of o true _ Ho.out).mono ?_; rintro e w1 ⟨rfl, hw⟩; rw [hw])
      go_loopw [17] (fun j wq => ∃ q : Nat, q ≤ m ∧ j = .int .i64 q ∧ (xs.take q).all mayX = true ∧ Below w.heap.size w wq ∧ Bx wq w.heap.size #[.string L, .int .u8 (o.toNat : Int), .slice a m n] 37 ∧ SpecsAt wq (.slice a m n) xs) (fun j _ => m - (intOf j).toNat)
      case atStart => exact ⟨0, Nat.zero_le _, rfl, by simp, B0, HX.out, HS.out⟩
      case round =>
        clear x0 x1 x2 HX HS
        obtain ⟨q, hq, rfl, hqa, hB, X, hS⟩ := hrel
        obtain ⟨x0, x1, x2⟩ := cells3 X
        by_cases hqm : q < m
        · have hqs : q < xs.length := by omega
          have g4 := hS
          rw [← hm] at g4
          obtain ⟨sb, so, sc, es, hsb, s1, s2, s3⟩ := g4.at q hqs
          rw [hm] at es
          cases es
          have hsn := all_snoc mayX xs q hqs
          rw [hqa, Bool.true_and] at hsn
          have hbad := all_not mayX xs q hqs
          have hyl := hy _ (List.getElem_mem hqs)
          obtain ⟨y, hy2⟩ : ∃ y, xs[q] = y := ⟨_, rfl⟩
          rw [hy2] at s1 s2 s3 hsn hbad hyl
          obtain ⟨nm, hnm⟩ : ∃ nm : ByteArray, (⟨y.name.toArray⟩ : ByteArray) = nm := ⟨_, rfl⟩
          have hns : nm.size ≤ 1000000 := by rw [size_list, ← hnm]; exact hyl
          rw [hnm] at s1
          obtain ⟨mx, hmx⟩ : ∃ mx, y.max = mx := ⟨_, rfl⟩
          obtain ⟨st, hst⟩ : ∃ st, y.star = st := ⟨_, rfl⟩
          rw [hmx] at s2
          rw [hst] at s3
          have hsp : spA nm mx st = y := by rw [← hnm, ← hmx, ← hst]; rfl
          obtain ⟨mb, hmb⟩ : ∃ mb, mayX y = mb := ⟨_, rfl⟩
          rw [hmb] at hsn hbad
          have hmb2 : mayX (spA nm mx st) = mb := by rw [hsp]; exact hmb
          have Hmb := hide hmb2
          have Hsn := hide hsn
          have Hbad := hide hbad
          have HX := hide X
          have HS := hide hS
          have HM := hide hm
          have Hy := hide hy
          clear hsn hbad hy2 hnm hmx hst hsp hmb hmb2 g4 hqa X hS hm hy hyl
          cases mb
          · have hr : rr = false := by rw [← Hrr.out, Hbad.out rfl]; rfl
            subst hr
            go_wp2_with (go_at_call 27; refine (pxmay_is nm mx st false _ hns Hmb.out).mono ?_; rintro e w1 ⟨rfl, bb⟩; replace hB := bel_alloc hB bb; clear bb)
            all_goals go_ret
            all_goals exact ⟨rfl, hB⟩
          · go_wp2_with (go_at_call 27; refine (pxmay_is nm mx st true _ hns Hmb.out).mono ?_; rintro e w1 ⟨rfl, bb⟩)
            go_roundw
            case rel => exact ⟨q + 1, by omega, by go_num, Hsn.out, bel_alloc hB bb, (HX.out.later _).next bb, (HS.out.later ((Below.refl _ _).alloc (Nat.le_refl _) _)).later bb⟩
            case measure => simp [intOf]; omega
        · have hqe : q = m := by omega
          have hr : rr = decide (0 < m) := by
            rw [hqe, ← hm, List.take_length] at hqa
            rw [← Hrr.out, hqa, hm]; rfl
          have Hr := hide hr
          subst hqe
          clear hqa hS X hr
          go_wp2
          all_goals go_ret
          all_goals exact ⟨ret_bool (by rw [Hr.out]), hB⟩
end Go.Proofs.YtjbnofljoijnmaaDoor

/-
  WALKS: the program's May of layer 7, whole.
-/
namespace Go.Proofs.YtjbnofljoijnmaaDoor
open Go.RowKit

theorem lit_is (L : ByteArray) (o : UInt8) (a : Option Addr) (m n : Nat) (b : Bool) (w : World) (R : Rans w) (hs : L.size ≤ 1000000) (h : pLit L o m = b) :
    Calls Tryd.prog 16 #[.agg #[.string L, .int .u8 (o.toNat : Int), .slice a m n]] w fun e w' => e = .returned (.bool b) ∧ Below w.heap.size w w' := by
  subst h; exact isLiteral_any L o a m n w R hs
theorem exp_is (L : ByteArray) (o : UInt8) (a : Option Addr) (m n : Nat) (xs : List Sp) (b : Bool) (w : World) (hm : xs.length = m) (hS : SpecsAt w (.slice a m n) xs) (hn : m ≤ 100000) (hy : ∀ y ∈ xs, y.name.length ≤ 1000000) (h : pExp L o xs = b) :
    Calls Tryd.prog 17 #[.agg #[.string L, .int .u8 (o.toNat : Int), .slice a m n]] w fun e w' => e = .returned (.bool b) ∧ Below w.heap.size w w' := by
  subst h; exact isExpression_any L o a m n xs w hm hS hn hy
theorem may_or (x : Pt) (L : ByteArray) (h : L.data.toList = x.lit) : mayPt x = (pLit L x.op x.specs.length || pExp L x.op x.specs) := by
  unfold mayPt pLit pExp
  rw [h]
  cases hs : x.specs with
  | nil => simp
  | cons y ys => simp [Bool.and_assoc]
theorem lit_yes {L : ByteArray} {o : UInt8} {m : Nat} (h : pLit L o m = true) : 0 < L.size ∧ m = 0 := by
  unfold pLit at h
  simp only [Bool.and_eq_true, decide_eq_true_eq] at h
  refine ⟨?_, h.2.1⟩
  have := (literal_head h.2.2).1
  apply Classical.byContradiction
  intro hn
  exact this (list_none L hn)
theorem exp_yes {L : ByteArray} {o : UInt8} {xs : List Sp} (h : pExp L o xs = true) : ¬ 0 < L.size ∧ 0 < xs.length := by
  unfold pExp at h
  simp only [Bool.and_eq_true, decide_eq_true_eq] at h
  refine ⟨?_, h.2.2.2⟩
  intro hl
  rw [list_one L hl] at h
  simp at h
theorem may_lit {x : Pt} (h : mayPt x = true) (L : ByteArray) (hL : L.data.toList = x.lit) : x.specs.isEmpty = decide (0 < L.size) := by
  rw [may_or x L hL, Bool.or_eq_true] at h
  rcases h with h | h
  · obtain ⟨h1, h2⟩ := lit_yes h
    rw [decide_eq_true h1, List.isEmpty_iff]
    exact List.eq_nil_of_length_eq_zero h2
  · obtain ⟨h1, h2⟩ := exp_yes h
    rw [decide_eq_false h1]
    cases hs : x.specs with
    | nil => rw [hs] at h2; simp at h2
    | cons _ _ => rfl
set_option maxRecDepth 20000 in
set_option maxHeartbeats 1500000 in
theorem pmayT_any (v : Value) (ts : List Pt) (w : World) (R : Rans w) (h : PtsAt w v ts) (hsm : SmallT ts) :
    Calls Tryd.prog 8 #[v] w fun e w' => e = .returned (.bool (mayT ts)) ∧ Below w.heap.size w w' := by
  obtain ⟨hn, hsz⟩ := hsm
  obtain ⟨ao, cp, rfl⟩ := h.form
  have H := hide h
  have Hsz := hide hsz
  obtain ⟨rr, hrr⟩ : ∃ rr, mayT ts = rr := ⟨_, rfl⟩
  rw [hrr]
  have Hrr := hide hrr
  clear h hsz hrr
  go_enter Tryd.func8, Tryd.ntmps8
  go_wp2
  go_loopw [7] (fun i wr => ∃ k : Nat, k ≤ ts.length ∧ i = .int .i64 k ∧ Below w.heap.size w wr ∧ rr = mayF (litAhead ts k) (ts.drop k) ∧ ∀ j (hj : j < ts.length), j < k → mayPt ts[j] = true) (fun i _ => ts.length - (intOf i).toNat)
  case atStart => exact ⟨0, Nat.zero_le _, rfl, Below.refl _ _, Hrr.out.symm, fun _ _ h => absurd h (Nat.not_lt_zero _)⟩
  case round =>
    obtain ⟨k, hk, rfl, hB, hm, hpre⟩ := hrel
    by_cases hlt : k < ts.length
    · obtain ⟨b, off, cap, a, n, e, hb, h1, h2, h3, h4⟩ := (H.out.later hB).at k hlt
      cases e
      rw [may_next ts k hlt] at hm
      obtain ⟨hsk, hlk, hyk⟩ := Hsz.out _ (List.getElem_mem hlt)
      have hnx : ∀ j (hj : j < ts.length), j < k + 1 → mayPt ts[k] = true → mayPt ts[j] = true := by
        intro j hj hjk hx
        by_cases e : j = k
        · subst e; exact hx
        · exact hpre j hj (by omega)
      have hpv : ∀ (hk0 : 0 < k) (P : ByteArray), P.data.toList = (ts[k - 1]'(by omega)).lit → litAhead ts k = decide (0 < P.size) := by
        intro hk0 P hP
        have h1 := ahead_next ts (k - 1) (by omega)
        rw [show k - 1 + 1 = k by omega] at h1
        rw [h1]
        exact may_lit (hpre (k - 1) (by omega) (by omega)) P hP
      obtain ⟨x, hx⟩ : ∃ x, ts[k] = x := ⟨_, rfl⟩
      rw [hx] at h1 h2 h3 h4 hsk hlk hyk hm hnx
      obtain ⟨L, hL⟩ : ∃ L : ByteArray, (⟨x.lit.toArray⟩ : ByteArray) = L := ⟨_, rfl⟩
      have hLl : L.data.toList = x.lit := by rw [← hL]
      have hLs : L.size ≤ 1000000 := by rw [size_list, hLl]; omega
      rw [hL] at h1
      obtain ⟨m, em⟩ : ∃ m, x.specs.length = m := ⟨_, rfl⟩
      have hor := may_or x L hLl
      rw [em] at h3 h4 hsk hor
      have hm5 : m ≤ 100000 := by omega
      have hy6 : ∀ y ∈ x.specs, y.name.length ≤ 1000000 := fun y hy => by have := hyk y hy; omega
      obtain ⟨lb, hlb⟩ : ∃ lb, pLit L x.op m = lb := ⟨_, rfl⟩
      obtain ⟨eb, heb⟩ : ∃ eb, pExp L x.op x.specs = eb := ⟨_, rfl⟩
      rw [hlb, heb] at hor
      have X0 := Bx.made wr #[.string L, .int .u8 (x.op.toNat : Int), .slice a m n] 37
      have RW : Rans (wr.alloc (.cells #[.string L, .int .u8 (x.op.toNat : Int), .slice a m n] 37)) := (R.next hB).alloc _
      have hBa := hB.alloc hB.size (.cells #[.string L, .int .u8 (x.op.toNat : Int), .slice a m n] 37)
      have hS0 : SpecsAt (wr.alloc (.cells #[.string L, .int .u8 (x.op.toNat : Int), .slice a m n] 37)) (.slice a m n) x.specs := h4.later ((Below.refl _ _).alloc (Nat.le_refl _) _)
      have Hlb := hide hlb
      have Heb := hide heb
      have Hem := hide em
      have HX0 := hide X0
      have HS0 := hide hS0
      have Hy6 := hide hy6
      have Hnx := hide hnx
      have Hpv := hide hpv
      cases lb with
      | true =>
        obtain ⟨hL0, hm0⟩ := lit_yes hlb
        subst hm0
        rw [hor, Bool.true_or] at hm
        have hmx : mayPt x = true := by rw [hor, Bool.true_or]
        have hse : x.specs.isEmpty = true := by rw [List.isEmpty_iff]; exact List.eq_nil_of_length_eq_zero em
        rw [hse] at hm
        have hE := eq_some L hL0
        have Hm := hide hm
        have Hnx2 : Hid (∀ j (hj : j < ts.length), j < k + 1 → mayPt ts[j] = true) := fun j hj hjk => hnx j hj hjk hmx
        clear hm hor hlb heb em X0 hS0 hy6 hnx hpv hyk h4 hL hLl hlk hx hpre hse hmx
        by_cases hk0 : 0 < k
        · obtain ⟨P, hP⟩ : ∃ P : ByteArray, (⟨(ts[k - 1]'(by omega)).lit.toArray⟩ : ByteArray) = P := ⟨_, rfl⟩
          have hPl : P.data.toList = (ts[k - 1]'(by omega)).lit := by rw [← hP]
          have hah := Hpv.out hk0 P hPl
          have HP := hide hP
          by_cases hP0 : 0 < P.size
          · have hEP := eq_some P hP0
            have hr : rr = false := by rw [Hm.out, hah, decide_eq_true hP0]; rfl
            subst hr
            clear hah hP hPl
            go_wp2_with (go_at_call 16; refine (lit_is L x.op a 0 n true _ RW hLs Hlb.out).mono ?_; rintro e w1 ⟨rfl, bb⟩; replace hB := bel_alloc hB bb; obtain ⟨x0, x1, x2⟩ := cells3 (HX0.out.next bb); clear bb; obtain ⟨b2, off2, cap2, a2, n2, e2, hb2, g1, g2, g3, g4⟩ := (H.out.later hB).at (k - 1) (by omega); cases e2; rw [HP.out] at g1; clear g2 g3 g4)
            all_goals go_ret
            all_goals exact ⟨rfl, hB⟩
          · have hEP := eq_none P hP0
            have hgo : rr = mayF (litAhead ts (k + 1)) (ts.drop (k + 1)) := by rw [Hm.out, hah, decide_eq_false hP0]; rfl
            have Hgo := hide hgo
            clear hah hP hPl hgo
            go_wp2_with (go_at_call 16; refine (lit_is L x.op a 0 n true _ RW hLs Hlb.out).mono ?_; rintro e w1 ⟨rfl, bb⟩; replace hB := bel_alloc hB bb; obtain ⟨x0, x1, x2⟩ := cells3 (HX0.out.next bb); clear bb; obtain ⟨b2, off2, cap2, a2, n2, e2, hb2, g1, g2, g3, g4⟩ := (H.out.later hB).at (k - 1) (by omega); cases e2; rw [HP.out] at g1; clear g2 g3 g4)
            go_roundw
            case rel => exact ⟨k + 1, by omega, by go_num, hB, Hgo.out, Hnx2.out⟩
            case measure => simp [intOf]; omega
        · have hk1 : k = 0 := by omega
          have hgo : rr = mayF (litAhead ts (k + 1)) (ts.drop (k + 1)) := by rw [Hm.out, hk1]; rfl
          have Hgo := hide hgo
          clear hgo
          subst hk1
          simp only [Nat.zero_mul, Nat.add_zero] at h1 h2 h3
          go_wp2_with (go_at_call 16; refine (lit_is L x.op a 0 n true _ RW hLs Hlb.out).mono ?_; rintro e w1 ⟨rfl, bb⟩; replace hB := bel_alloc hB bb; obtain ⟨x0, x1, x2⟩ := cells3 (HX0.out.next bb); clear bb)
          go_roundw
          case rel => exact ⟨0 + 1, by omega, by go_num, hB, Hgo.out, Hnx2.out⟩
          case measure => simp [intOf]; omega
      | false =>
        cases eb with
        | false =>
          have hr : rr = false := by rw [hm, hor]; rfl
          subst hr
          clear hm hor hlb heb em X0 hS0 hy6 hnx hpv hyk h4 hL hLl hlk hx hpre
          go_wp2_with (first
            | (go_at_call 16; refine (lit_is L x.op a m n false _ RW hLs Hlb.out).mono ?_; rintro e w1 ⟨rfl, bb⟩; replace hB := bel_alloc hB bb; obtain ⟨x0, x1, x2⟩ := cells3 (HX0.out.next bb); have S1 := HS0.out.later bb; clear bb)
            | (go_at_call 17; refine (exp_is L x.op a m n x.specs false _ Hem.out S1 hm5 Hy6.out Heb.out).mono ?_; rintro e w2 ⟨rfl, bb⟩; replace hB := hB.trans (bb.mono hB.size); clear bb))
          all_goals go_ret
          all_goals exact ⟨rfl, hB⟩
        | true =>
          obtain ⟨hL0, hm0⟩ := exp_yes heb
          have hmx : mayPt x = true := by rw [hor]; rfl
          have hse : x.specs.isEmpty = false := by
            cases hs : x.specs with
            | nil => rw [hs] at hm0; simp at hm0
            | cons _ _ => rfl
          have hE := eq_none L hL0
          have hgo : rr = mayF (litAhead ts (k + 1)) (ts.drop (k + 1)) := by rw [hm, hmx, hse]; simp
          have Hgo := hide hgo
          have Hnx2 : Hid (∀ j (hj : j < ts.length), j < k + 1 → mayPt ts[j] = true) := fun j hj hjk => hnx j hj hjk hmx
          clear hm hor hlb heb em X0 hS0 hy6 hnx hpv hyk h4 hL hLl hlk hx hpre hse hmx hgo hm0
          by_cases hk0 : 0 < k
          · skip
            go_wp2_with (first
              | (go_at_call 16; refine (lit_is L x.op a m n false _ RW hLs Hlb.out).mono ?_; rintro e w1 ⟨rfl, bb⟩; replace hB := bel_alloc hB bb; have X1 := HX0.out.next bb; obtain ⟨x0, x1, x2⟩ := cells3 X1; have S1 := HS0.out.later bb; clear bb)
              | (go_at_call 17; refine (exp_is L x.op a m n x.specs true _ Hem.out S1 hm5 Hy6.out Heb.out).mono ?_; rintro e w2 ⟨rfl, bb⟩; replace hB := hB.trans (bb.mono hB.size); clear x0 x1 x2; obtain ⟨x0, x1, x2⟩ := cells3 (X1.next bb); clear bb))
            go_roundw
            case rel => exact ⟨k + 1, by omega, by go_num, hB, Hgo.out, Hnx2.out⟩
            case measure => simp [intOf]; omega
          · have hk1 : k = 0 := by omega
            subst hk1
            simp only [Nat.zero_mul, Nat.add_zero] at h1 h2 h3
            go_wp2_with (first
              | (go_at_call 16; refine (lit_is L x.op a m n false _ RW hLs Hlb.out).mono ?_; rintro e w1 ⟨rfl, bb⟩; replace hB := bel_alloc hB bb; have X1 := HX0.out.next bb; obtain ⟨x0, x1, x2⟩ := cells3 X1; have S1 := HS0.out.later bb; clear bb)
              | (go_at_call 17; refine (exp_is L x.op a m n x.specs true _ Hem.out S1 hm5 Hy6.out Heb.out).mono ?_; rintro e w2 ⟨rfl, bb⟩; replace hB := hB.trans (bb.mono hB.size); clear x0 x1 x2; obtain ⟨x0, x1, x2⟩ := cells3 (X1.next bb); clear bb))
            go_roundw
            case rel => exact ⟨0 + 1, by omega, by go_num, hB, Hgo.out, Hnx2.out⟩
            case measure => simp [intOf]; omega
    · have hke : k = ts.length := by omega
      have hr : rr = true := by rw [hm, hke, List.drop_length]; rfl
      subst hr
      clear hm hpre
      go_wp2
      all_goals go_ret
      all_goals exact ⟨rfl, hB⟩
end Go.Proofs.YtjbnofljoijnmaaDoor
