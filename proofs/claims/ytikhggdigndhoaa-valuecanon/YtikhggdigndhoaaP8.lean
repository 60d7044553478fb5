/-
  WALKS: the program's Of, Canon (layer 8).
-/
import Derived.Test.YtikhggdigndhoaaP7
namespace Go.Proofs.Ytikhggdigndhoaa
open Go.RowKit

theorem newly_of_far {n : Nat} {v : Value} (h : ∀ b, b < n → Far b v) : Newly n v := fun g off k c e => by
  apply Classical.byContradiction
  intro hlt
  exact h g (by omega) g off k c e rfl
set_option maxRecDepth 20000 in
set_option maxHeartbeats 4000000 in
theorem of_any (k : Int) (ua : Option Addr) (uc : Nat) (l : List (List UInt8)) (w : World) (H : StrsAt w (.slice ua l.length uc) l) (hl : l.length ≤ 100000) (hts : ∀ y ∈ l, y.length ≤ 140737488355328) :
    Calls Try.prog 24 #[.int .i64 k, .slice ua l.length uc] w fun e w' => OfPost w (ofV k l) e w' := by
  obtain ⟨i0, hi, hz0, hz1, hz2⟩ := info_parts info9
  have G0 : Gx w (w.alloc (.cells #[.int .i64 0, .string ⟨#[]⟩, .slice none 0 0, .slice none 0 0] 25)) 0 ⟨#[]⟩ (.slice none 0 0) (.slice none 0 0) (.slice none 0 0) [] :=
    ⟨(Below.refl _ _).alloc (Nat.le_refl _) _, Bx.made _ _ _, World.ownsRow_nil _ _ _ _⟩
  have HG0 := hide G0
  have H1 := hide H
  have Hts := hide hts
  clear G0 H hts
  go_enter Try.func24, Try.ntmps24
  go_wp2
  go_loopw [6, 11] (fun o i wr => ∃ (q : Nat) (ns : List (List UInt8)) (vo : Option Addr) (vc : Nat), q ≤ l.length ∧ i = .int .i64 q ∧ l.take q = ns ∧ ns.length = q ∧ o = .slice vo ns.length vc ∧ Gx w wr 0 ⟨#[]⟩ (.slice none 0 0) (.slice none 0 0) (.slice vo ns.length vc) ns) (fun _ i _ => l.length - (intOf i).toNat)
  case atStart => exact ⟨0, [], none, 0, Nat.zero_le _, rfl, rfl, rfl, rfl, HG0.out⟩
  case round =>
    clear HG0
    obtain ⟨q, ns, vo, vc, hq, rfl, hns, hnl, rfl, G⟩ := hrel
    by_cases hlt : q < l.length
    · obtain ⟨b, off, cap, e, hb, g1⟩ := (H1.out.later G.bel).at q hlt
      cases e
      have hnx : l.take (q + 1) = ns ++ [l[q]] := by rw [List.take_succ_eq_append_getElem hlt, hns]
      have hy5 := Hts.out _ (List.getElem_mem hlt)
      obtain ⟨y, hy⟩ : ∃ y, l[q] = y := ⟨_, rfl⟩
      rw [hy] at g1 hnx hy5
      obtain ⟨X, hX⟩ : ∃ X : ByteArray, (⟨y.toArray⟩ : ByteArray) = X := ⟨_, rfl⟩
      have hXs : X.size ≤ 281474976710656 := by rw [← hX]; show y.toArray.size ≤ _; simp; omega
      rw [hX] at g1
      have e : strsV [y] = [.string X] := by unfold strsV; rw [List.map_singleton, hX]
      have He := hide e
      have Hnx := hide hnx
      have HG := hide G
      have hnb : ns.length ≤ 100000 := by omega
      have Hnl := hide hnl
      clear e hnx hy hX hns G hnl hy5
      go_wp2_with (first | (go_at_call 28; refine (clone_any X _ hXs).mono ?_; rintro e w2 ⟨rfl, bb⟩; have HG2 := hide (HG.out.next bb)) | (at_builtin; refine wpList_append_lies _ rfl _ _ 22 rfl (w.heap.size + 1) 9 i0 (.string ⟨#[]⟩) 1 16 Try.underlying22 hi hz0 hz1 hz2 rfl (by decide) (.slice vo ns.length vc) ns.length (strsV ns) rfl (HG2.out.alloc (.cells #[.string X] 9)).row ⟨w2.heap.size, 0, none⟩ 1 1 [.string X] rfl rfl ?c1 ?c2 (by decide) ?c3 ?c4 ?c5 _ rfl ?_))
      case c1 =>
        intro j u hj
        match j, hj with
        | 0, hj => simp at hj; subst hj; simp [Addr.add]
      case c2 => intro u hu; simp at hu; subst hu; rfl
      case c3 => unfold maxLen; omega
      case c4 => omega
      case c5 => have := HG2.out.box.lt; simp; omega
      intro g cap w4 hown hgrow hat hlt4
      have G4 := (HG2.out.alloc (.cells #[.string X] 9)).grown (ms := [y]) hgrow (by rw [He.out]; exact hown) rfl
      have HG4 := hide G4
      have hn4 : (ns ++ [y]).length = ns.length + 1 := by simp
      clear hown hgrow hat hlt4 G4
      go_wp2
      go_roundw
      case rel => exact ⟨q + 1, ns ++ [y], some ⟨g, 0, none⟩, cap, by omega, by go_num, Hnx.out, by have := Hnl.out; omega, by rw [hn4], by rw [hn4]; exact HG4.out⟩
      case measure => simp [intOf]; omega
    · have hte : ns = l := by rw [← hns]; exact List.take_of_length_le (by omega)
      subst hte
      have hT := StrsAt.of_owns G.row
      have hNw := Newly.of_owns G.row (Nat.le_refl _)
      have B1 := G.bel
      have X1 := G.box
      have hx1 := X1.lt
      clear hns hnl hq
      obtain ⟨o, ho⟩ : ∃ o, ofV k ns = o := ⟨_, rfl⟩
      have Ho := hide ho
      clear ho
      cases o with
      | none =>
        go_wp2_with (go_at_call 29; refine (made_is k vo vc ns none _ hT hl Hts.out Ho.out).mono ?_; rintro e w5 ⟨bb, rfl⟩; have X5 := X1.next bb; have B5 := B1.trans (bb.mono B1.size); obtain ⟨c0, c1, c2, c3⟩ := cells4 X5; have f0 := X5.free 0; have f1 := X5.free 1; have f2 := X5.free 2; have f3 := X5.free 3)
        obtain ⟨r1, r2⟩ := res4 B5 X5 (.int .i64 0) (.string ⟨#[]⟩) (.slice none 0 0) (.slice none 0 0)
        exact bodyPost_ret (v := .tuple #[.agg #[.int .i64 0, .string ⟨#[]⟩, .slice none 0 0, .slice none 0 0], .bool false]) (ret_cell_tmp Try.results24 _ _ rfl r1 Try.underlying25 rfl (by kernel_rfl)) rfl (of_none Ho.out r2)
      | some c =>
        go_wp2_with (go_at_call 29; refine (made_is k vo vc ns (some c) _ hT hl Hts.out Ho.out).mono ?_; rintro e w5 ⟨bb, sl, sp, rfl, R1, R2, hF⟩; obtain ⟨la, lc, rfl⟩ := R1.form; obtain ⟨pa, pc, rfl⟩ := R2.form; have X5 := X1.next bb; have B5 := B1.trans (bb.mono B1.size); obtain ⟨c0, c1, c2, c3⟩ := cells4 X5; have f0 := X5.free 0; have f1 := X5.free 1; have f2 := X5.free 2; have f3 := X5.free 3)
        obtain ⟨r1, r2⟩ := res4 B5 X5 (.int .i64 c.kind) (.string ⟨c.s.toArray⟩) (.slice la c.l.length lc) (.slice pa c.p.length pc)
        have hbs := B1.size
        have hFw := fun b (hb : b < w.heap.size + 1) => hF b (by omega) (fun _ => hNw.far hb)
        obtain ⟨q1, q2⟩ := hFw w.heap.size (by omega)
        exact bodyPost_ret (v := .tuple #[.agg #[.int .i64 c.kind, .string ⟨c.s.toArray⟩, .slice la c.l.length lc, .slice pa c.p.length pc], .bool true]) (ret_cell_tmp Try.results24 _ _ rfl r1 Try.underlying25 rfl (by kernel_rfl)) rfl (of_yes Ho.out r2 (VlAt.mk ((((R1.putF q1 _ _).putF q1 _ _).putF q1 _ _).putF q1 _ _) ((((R2.putF q2 _ _).putF q2 _ _).putF q2 _ _).putF q2 _ _)) ⟨_, _, _, _, rfl, newly_of_far (fun b hb => (hFw b (by omega)).1), newly_of_far (fun b hb => (hFw b (by omega)).2)⟩)
end Go.Proofs.Ytikhggdigndhoaa
