/-
  WALKS: the law ValueMore (layer 8).
-/
import Derived.Test.YtikhggdigndhoaaL2
namespace Go.Proofs.Ytikhggdigndhoaa
open Go.RowKit

theorem of_yes_n (k : Int) (ua : Option Addr) (uc n : Nat) (l : List (List UInt8)) (c : Vl) (w : World) (H : StrsAt w (.slice ua l.length uc) l) (hl : l.length ≤ 100000) (hts : ∀ y ∈ l, y.length ≤ 140737488355328) (ho : ofV k l = some c) (hn : l.length = n) :
    Calls Try.prog 24 #[.int .i64 k, .slice ua n uc] w fun e w' => ∃ la lc pa pc, e = .returned (.tuple #[.agg #[.int .i64 c.kind, .string ⟨c.s.toArray⟩, .slice la c.l.length lc, .slice pa c.p.length pc], .bool true]) ∧ StrsAt w' (.slice la c.l.length lc) c.l ∧ PairsAt w' (.slice pa c.p.length pc) c.p ∧ Below w.heap.size w w' := by
  subst hn; exact of_yes_is k ua uc l c w H hl hts ho
theorem bytes_back (s : ByteArray) : (⟨s.data.toList.toArray⟩ : ByteArray) = s := by cases s; simp
theorem list_of (l : List (List UInt8)) (h : 0 < l.length) : ofV 2 l = some ⟨2, [], l, []⟩ := by
  unfold ofV; rw [if_neg (by omega), if_pos ⟨rfl, h⟩]
/-- three values' boxes -/
structure Rx (w W : World) (ba bb : Nat) (ca cb : Array Value) (a b : Vl) : Prop where
  bel : Below w.heap.size w W
  fst : Bx W ba ca 25
  snd : Bx W bb cb 25
  va : VlAt W (.agg ca) a
  vb : VlAt W (.agg cb) b
section
variable {w W W' : World} {ba bb : Nat} {ca cb : Array Value} {a b : Vl}
theorem Rx.next (h : Rx w W ba bb ca cb a b) (k : Below W.heap.size W W') : Rx w W' ba bb ca cb a b := ⟨h.bel.trans (k.mono h.bel.size), h.fst.next k, h.snd.next k, h.va.later k, h.vb.later k⟩
end
set_option maxRecDepth 20000 in
set_option maxHeartbeats 8000000 in
theorem more_walk (ua : Option Addr) (uc : Nat) (l : List (List UInt8)) (S : ByteArray) (w : World) (H : StrsAt w (.slice ua l.length uc) l) (hm : l.length ≤ 9223372036854775807) (hms : ∀ y ∈ l, y.length ≤ 140737488355328) (hS : S.size ≤ 140737488355328) :
    Calls Try.prog 7 #[.slice ua l.length uc, .string S] w fun e w' => e = .returned (.bool true) ∧ Below w.heap.size w w' := by
  have H1 := hide H
  have Hms := hide hms
  clear H hms
  obtain ⟨i0, hi, hz0, hz1, hz2⟩ := info_parts info9
  by_cases h0 : l.length = 0
  · have h0i : ((l.length : Int) == 0) = true := by simp [h0]
    clear h0
    go_enter Try.func7, Try.ntmps7
    go_wp2_with (go_at_call 9; refine (awake_any _).mono ?_; rintro e w1 ⟨rfl, bb⟩)
    go_ret
    exact ⟨rfl, bb⟩
  · have h0i : ((l.length : Int) == 0) = false := by simp [h0]
    by_cases h30 : 30 < l.length
    · have h30i : (30 : Int) < l.length := by omega
      go_enter Try.func7, Try.ntmps7
      go_wp2_with (go_at_call 9; refine (awake_any _).mono ?_; rintro e w1 ⟨rfl, bb⟩)
      go_ret
      exact ⟨rfl, bb⟩
    · have h30i : (l.length : Int) ≤ 30 := by omega
      by_cases h200 : 200 < S.size
      · have h200i : (200 : Int) < S.size := by omega
        go_enter Try.func7, Try.ntmps7
        go_wp2_with (go_at_call 9; refine (awake_any _).mono ?_; rintro e w1 ⟨rfl, bb⟩)
        go_ret
        exact ⟨rfl, bb⟩
      · have h200i : (S.size : Int) ≤ 200 := by omega
        have hpos : 0 < l.length := by omega
        have hl3 : l.length ≤ 100000 := by omega
        have oA := list_of l hpos
        have oB := list_of (l ++ [S.data.toList]) (by simp)
        have hcab : compareV ⟨2, [], l, []⟩ ⟨2, [], l ++ [S.data.toList], []⟩ = -1 := more_ahead (fun e => by rw [e] at hpos; simp at hpos) _ oA oB
        have htl : ∀ y ∈ l ++ [S.data.toList], y.length ≤ 140737488355328 := fun y hy => by
          rcases List.mem_append.1 hy with h | h
          · exact Hms.out y h
          · rw [List.mem_singleton] at h
            rw [h]
            simpa using hS
        have OA := hide oA
        have OB := hide oB
        have HC := hide hcab
        have Htl := hide htl
        clear oA oB hcab htl
        go_enter Try.func7, Try.ntmps7
        go_wp2_with (go_at_call 9; refine (awake_any _).mono ?_; rintro e w1 ⟨rfl, bb⟩; have B1 := bb; clear bb)
        go_at_call 24
        refine (of_yes_is 2 ua uc l ⟨2, [], l, []⟩ w1 (H1.out.later B1) hl3 Hms.out OA.out).mono ?_
        rintro e w2 ⟨la, lc, pa, pc, rfl, R1, R2, b2⟩
        have VA : VlAt (w2.alloc (.cells #[.int .i64 2, .string ⟨#[]⟩, .slice la l.length lc, .slice pa 0 pc] 25)) (.agg #[.int .i64 2, .string ⟨#[]⟩, .slice la l.length lc, .slice pa 0 pc]) ⟨2, [], l, []⟩ := (VlAt.mk (c := ⟨2, [], l, []⟩) R1 R2).later (b_alloc _ _)
        have B2 : Below w.heap.size w (w2.alloc (.cells #[.int .i64 2, .string ⟨#[]⟩, .slice la l.length lc, .slice pa 0 pc] 25)) := (B1.trans (b2.mono B1.size)).alloc (by have := (B1.trans (b2.mono B1.size)).size; exact this) _
        have XA : Bx (w2.alloc (.cells #[.int .i64 2, .string ⟨#[]⟩, .slice la l.length lc, .slice pa 0 pc] 25)) w2.heap.size #[.int .i64 2, .string ⟨#[]⟩, .slice la l.length lc, .slice pa 0 pc] 25 := Bx.made _ _ _
        clear b2 R1 R2
        have hcell : ∃ b off, ua = some ⟨b, off, none⟩ ∧ ∀ k, k < l.length → w.cell? ⟨b, off + k, none⟩ = some (.string ⟨(l.getD k []).toArray⟩) := by
          rcases H1.out with ⟨h0, _⟩ | ⟨_, b, off, cap, e, hc⟩
          · rw [h0] at hpos; simp at hpos
          · cases e; exact ⟨b, off, rfl, hc⟩
        obtain ⟨b, off, rfl, hcell⟩ := hcell
        have hbw : b < w.heap.size := lt_of_cell (hcell 0 hpos)
        have Hnews := hide (strs_news hcell)
        clear hcell
        obtain ⟨W2, hW2⟩ : ∃ W2, w2.alloc (.cells #[.int .i64 2, .string ⟨#[]⟩, .slice la l.length lc, .slice pa 0 pc] 25) = W2 := ⟨_, rfl⟩
        obtain ⟨ba, hba⟩ : ∃ ba, w2.heap.size = ba := ⟨_, rfl⟩
        have hwz := B2.size
        have own0 : (W2.alloc (.cells #[] 9)).ownsRow W2.heap.size 9 1 (.slice (some ⟨W2.heap.size, 0, none⟩) 0 0) 0 [] := by
          refine ⟨rfl, .inr ⟨W2.heap.size, 0, #[], rfl, Nat.le_refl _, ?_, Nat.le_refl _, Nat.zero_le _, rfl, rfl⟩⟩
          exact Bx.made W2 #[] 9
        rw [hW2, hba] at XA
        rw [hW2] at VA B2 hwz
        have Own0 := hide own0
        clear own0
        go_wp2_with (at_builtin; refine wpList_append_lies _ rfl _ _ 22 rfl W2.heap.size 9 i0 (.string ⟨#[]⟩) 1 16 Try.underlying22 hi hz0 hz1 hz2 rfl (by decide) (.slice (some ⟨W2.heap.size, 0, none⟩) 0 0) 0 [] rfl Own0.out ⟨b, off, none⟩ l.length uc (strsV l) rfl (by rw [strs_len, Nat.mul_one]) ?c1 (strs_one l) hpos ?c3 ?c4 ?c5 _ rfl ?_)
        case c1 =>
          intro j u hj
          have h9 := Hnews.out j u hj
          have e : (⟨b, off, none⟩ : Addr).add j = ⟨b, off + j, none⟩ := by unfold Addr.add; split <;> simp_all
          rw [e] at h9 ⊢
          exact ((B2.alloc B2.size _).cell (p := ⟨b, off + j, none⟩) hbw).trans h9
        case c3 => unfold maxLen; omega
        case c4 => omega
        case c5 => simp
        intro g cap w4 hown hgrow hat hlt4
        try simp only [Nat.zero_add, List.nil_append] at hown
        have B4 : Below W2.heap.size W2 w4 := ((Below.refl _ _).alloc (Nat.le_refl _) _).grown hgrow (by simp) (fun k e => by cases e; exact Nat.le_refl _)
        have hg : W2.heap.size ≤ g := (hown.lt g rfl).1
        have Hown := hide hown
        have hb4 := B4.size
        clear hown hgrow hat hlt4 Own0 Hnews
        go_wp2_with (at_builtin; refine wpList_append_lies _ rfl _ _ 22 rfl W2.heap.size 9 i0 (.string ⟨#[]⟩) 1 16 Try.underlying22 hi hz0 hz1 hz2 rfl (by decide) (.slice (some ⟨g, 0, none⟩) l.length cap) l.length (strsV l) rfl (own_later Hown.out (b_alloc w4 (.cells #[.string S] 9))) ⟨w4.heap.size, 0, none⟩ 1 1 [.string S] rfl rfl ?d1 ?d2 (by decide) ?d3 ?d4 ?d5 _ rfl ?_)
        case d1 =>
          intro j u hj
          match j, hj with
          | 0, hj => simp at hj; subst hj; simp [Addr.add]
        case d2 => intro u hu; simp at hu; subst hu; rfl
        case d3 => unfold maxLen; omega
        case d4 => omega
        case d5 => simp; omega
        intro g2 cap2 w5 hown2 hgrow2 hat2 hlt5
        have hlb : (l ++ [S.data.toList]).length = l.length + 1 := by simp
        have hlb5 : (l ++ [S.data.toList]).length ≤ 100000 := by omega
        have T5 : StrsAt w5 (.slice (some ⟨g2, 0, none⟩) (l ++ [S.data.toList]).length cap2) (l ++ [S.data.toList]) := by
          apply StrsAt.of_owns
          rw [strs_snoc, hlb, bytes_back]
          exact hown2
        have B5 : Below W2.heap.size W2 w5 := (B4.alloc B4.size _).grown hgrow2 (by simp; omega) (fun k e => by cases e; exact hg)
        have BW5 := B2.trans (B5.mono hwz)
        have XA5 := XA.next B5
        have VA5 := VA.later B5
        have HT5 := hide T5
        clear hown2 hgrow2 hat2 hlt5 B4 Hown T5 hW2 hba
        go_wp2_with (fail)
        go_at_call 24
        refine (of_yes_n 2 (some ⟨g2, 0, none⟩) cap2 (l.length + 1) (l ++ [S.data.toList]) ⟨2, [], (l ++ [S.data.toList]), []⟩ w5 HT5.out hlb5 Htl.out OB.out hlb).mono ?_
        rintro e w6 ⟨ma, mc, na, nc, rfl, R3, R4, b6⟩
        have VB : VlAt (w6.alloc (.cells #[.int .i64 2, .string ⟨#[]⟩, .slice ma (l.length + 1) mc, .slice na 0 nc] 25)) (.agg #[.int .i64 2, .string ⟨#[]⟩, .slice ma (l.length + 1) mc, .slice na 0 nc]) ⟨2, [], (l ++ [S.data.toList]), []⟩ := by
          have := (VlAt.mk (c := ⟨2, [], (l ++ [S.data.toList]), []⟩) R3 R4).later (b_alloc w6 (.cells #[.int .i64 2, .string ⟨#[]⟩, .slice ma (l.length + 1) mc, .slice na 0 nc] 25))
          rw [hlb] at this
          exact this
        have R : Rx w (w6.alloc (.cells #[.int .i64 2, .string ⟨#[]⟩, .slice ma (l.length + 1) mc, .slice na 0 nc] 25)) ba w6.heap.size #[.int .i64 2, .string ⟨#[]⟩, .slice la l.length lc, .slice pa 0 pc] #[.int .i64 2, .string ⟨#[]⟩, .slice ma (l.length + 1) mc, .slice na 0 nc] ⟨2, [], l, []⟩ ⟨2, [], (l ++ [S.data.toList]), []⟩ :=
          ⟨(BW5.trans (b6.mono BW5.size)).alloc (by have := (BW5.trans (b6.mono BW5.size)).size; exact this) _, (XA5.next b6).later _, Bx.made _ _ _, (VA5.later b6).later (b_alloc _ _), VB⟩
        clear b6 R3 R4 VB XA5 VA5 BW5 B5 HT5 XA VA
        rw [hlb]
        obtain ⟨W6, hW6⟩ : ∃ W6, w6.alloc (.cells #[.int .i64 2, .string ⟨#[]⟩, .slice ma (l.length + 1) mc, .slice na 0 nc] 25) = W6 := ⟨_, rfl⟩
        obtain ⟨bb6, hb6⟩ : ∃ b, w6.heap.size = b := ⟨_, rfl⟩
        rw [hW6, hb6] at R
        have Q1 : Hid True := hide trivial
        have HL := hide (H1.out.later R.bel)
        by_cases hev : l.length % 2 = 0
        · have oC : ofV 3 l = some ⟨3, [], [], pairsL l⟩ := by unfold ofV; rw [if_neg (by omega), if_neg (by omega), if_neg (by omega)]
          have HP := hide (pairs_behind OA.out oC)
          have hpl : (pairsL l).length ≤ 100000 := by rw [pairs_len]; omega
          have Htc : Hid (∀ y ∈ textsV ⟨3, [], [], pairsL l⟩, y.length ≤ 140737488355328) := by rw [(of_texts oC).1]; exact Hms
          have OC := hide oC
          have e1 : ((l.length : Int) % 2 == 0) = true := by rw [beq_iff_eq]; omega
          have e2 : ((l.length : Int).tmod 2 == 0) = true := by rw [beq_iff_eq, Int.tmod_eq_emod_of_nonneg (by omega)]; omega
          clear oC
          go_wp2_with (fail)
          go_at_call 24
          refine (of_yes_is 3 (some ⟨b, off, none⟩) uc l ⟨3, [], [], pairsL l⟩ W6 HL.out hl3 Hms.out OC.out).mono ?_
          rintro e w7 ⟨oa, oc, qa, qc, rfl, R5, R6, b7⟩
          have VC : VlAt (w7.alloc (.cells #[.int .i64 3, .string ⟨#[]⟩, .slice oa 0 oc, .slice qa (pairsL l).length qc] 25)) (.agg #[.int .i64 3, .string ⟨#[]⟩, .slice oa 0 oc, .slice qa (pairsL l).length qc]) ⟨3, [], [], pairsL l⟩ := (VlAt.mk (c := ⟨3, [], [], pairsL l⟩) R5 R6).later (b_alloc _ _)
          have XC := Bx.made w7 #[.int .i64 3, .string ⟨#[]⟩, .slice oa 0 oc, .slice qa (pairsL l).length qc] 25
          replace R := (R.next b7).next (b_alloc w7 (.cells #[.int .i64 3, .string ⟨#[]⟩, .slice oa 0 oc, .slice qa (pairsL l).length qc] 25))
          clear b7 R5 R6 hW6 hb6
          obtain ⟨W7, hW7⟩ : ∃ W7, w7.alloc (.cells #[.int .i64 3, .string ⟨#[]⟩, .slice oa 0 oc, .slice qa (pairsL l).length qc] 25) = W7 := ⟨_, rfl⟩
          rw [hW7] at R XC VC
          obtain ⟨x0, x1, x2, x3⟩ := cells4 R.fst
          obtain ⟨y0, y1, y2, y3⟩ := cells4 R.snd
          obtain ⟨z0, z1, z2, z3⟩ := cells4 XC
          go_wp2_with (first | (go_at_call 20; have zz := Q1; clear zz Q1; refine (compare_any _ _ ⟨2, [], l, []⟩ ⟨2, [], (l ++ [S.data.toList]), []⟩ (-1) _ R.va R.vb hl3 (by simp) hlb5 (by simp) Hms.out Htl.out HC.out).mono ?_; rintro e w8 ⟨rfl, bb⟩; replace R := R.next bb; replace XC := XC.next bb; replace VC := VC.later bb; clear bb; obtain ⟨x0, x1, x2, x3⟩ := cells4 R.fst; obtain ⟨y0, y1, y2, y3⟩ := cells4 R.snd; obtain ⟨z0, z1, z2, z3⟩ := cells4 XC) | (go_at_call 22; refine (same_any _ _ ⟨2, [], l, []⟩ ⟨3, [], [], pairsL l⟩ false _ R.va VC hl3 (by simp) (by simp) hpl Hms.out Htc.out HP.out.1).mono ?_; rintro e w8 ⟨rfl, bb⟩; replace R := R.next bb; replace XC := XC.next bb; replace VC := VC.later bb; clear bb; obtain ⟨x0, x1, x2, x3⟩ := cells4 R.fst; obtain ⟨y0, y1, y2, y3⟩ := cells4 R.snd; obtain ⟨z0, z1, z2, z3⟩ := cells4 XC) | (go_at_call 20; refine (compare_any _ _ ⟨2, [], l, []⟩ ⟨3, [], [], pairsL l⟩ (-1) _ R.va VC hl3 (by simp) (by simp) hpl Hms.out Htc.out HP.out.2).mono ?_; rintro e w8 ⟨rfl, bb⟩; replace R := R.next bb; replace XC := XC.next bb; replace VC := VC.later bb; clear bb; obtain ⟨x0, x1, x2, x3⟩ := cells4 R.fst; obtain ⟨y0, y1, y2, y3⟩ := cells4 R.snd; obtain ⟨z0, z1, z2, z3⟩ := cells4 XC))
          all_goals
            go_ret
            exact ⟨ret_bool (by first | rfl | simp), R.bel⟩
        · have oC : ofV 3 l = none := by unfold ofV; rw [if_neg (by omega), if_neg (by omega), if_pos (by omega)]
          have OC := hide oC
          have e1 : ((l.length : Int) % 2 == 0) = false := by rw [beq_eq_false_iff_ne]; omega
          have e2 : ((l.length : Int).tmod 2 == 0) = false := by rw [beq_eq_false_iff_ne, Int.tmod_eq_emod_of_nonneg (by omega)]; omega
          clear oC
          go_wp2_with (fail)
          go_at_call 24
          refine (of_no_is 3 (some ⟨b, off, none⟩) uc l W6 HL.out hl3 Hms.out OC.out).mono ?_
          rintro e w7 ⟨rfl, b7⟩
          have VC := zero_at (w7.alloc (.cells #[.int .i64 0, .string ⟨#[]⟩, .slice none 0 0, .slice none 0 0] 25)) 0
          have XC := Bx.made w7 #[.int .i64 0, .string ⟨#[]⟩, .slice none 0 0, .slice none 0 0] 25
          replace R := (R.next b7).next (b_alloc w7 (.cells #[.int .i64 0, .string ⟨#[]⟩, .slice none 0 0, .slice none 0 0] 25))
          clear b7 hW6 hb6
          obtain ⟨x0, x1, x2, x3⟩ := cells4 R.fst
          obtain ⟨y0, y1, y2, y3⟩ := cells4 R.snd
          obtain ⟨z0, z1, z2, z3⟩ := cells4 XC
          go_wp2_with (go_at_call 20; have zz := Q1; clear zz Q1; refine (compare_any _ _ ⟨2, [], l, []⟩ ⟨2, [], (l ++ [S.data.toList]), []⟩ (-1) _ R.va R.vb hl3 (by simp) hlb5 (by simp) Hms.out Htl.out HC.out).mono ?_; rintro e w8 ⟨rfl, bb⟩; replace R := R.next bb; replace XC := XC.next bb; replace VC := VC.later bb; clear bb; obtain ⟨x0, x1, x2, x3⟩ := cells4 R.fst; obtain ⟨y0, y1, y2, y3⟩ := cells4 R.snd; obtain ⟨z0, z1, z2, z3⟩ := cells4 XC)
          all_goals
            go_ret
            exact ⟨ret_bool (by first | rfl | simp), R.bel⟩
end Go.Proofs.Ytikhggdigndhoaa
