/-
  WALKS: the reference's Canon, Set, Same (layer 9).
-/
import Derived.Test.YtgnccmmbpgnamaaE4
import Derived.Deep.AppendLies
namespace Go.Proofs.Ytgnccmmbpgnamaa
open Go.RowKit

/-- variables told -/
def BindsPost (w : World) (bs : List Bd) (e : Ending) (w' : World) : Prop := ∃ a c, e = .returned (.slice a bs.length c) ∧ BindsAt w' (.slice a bs.length c) bs ∧ Below w.heap.size w w'
/-- variables told whose slices lie in no elder block -/
def BindsNew (w : World) (bs : List Bd) (e : Ending) (w' : World) : Prop := ∃ a c es, e = .returned (.slice a bs.length c) ∧ plainE es = bs ∧ BindsE w' (.slice a bs.length c) es ∧ (∀ e ∈ es, Newly w.heap.size e.l ∧ Newly w.heap.size e.p) ∧ Below w.heap.size w w'
theorem BindsNew.post {w w' : World} {bs : List Bd} {e : Ending} (h : BindsNew w bs e w') : BindsPost w bs e w' := by
  obtain ⟨a, c, es, h1, h2, h3, _, h4⟩ := h
  exact ⟨a, c, h1, ⟨es, h2, h3⟩, h4⟩
theorem bnew_of {w W : World} {bs : List Bd} {a : Option Addr} {n c : Nat} {es : List Ev} (hn : n = bs.length) (he : plainE es = bs) (h : BindsE W (.slice a n c) es) (hN : ∀ e ∈ es, Newly w.heap.size e.l ∧ Newly w.heap.size e.p) (hb : Below w.heap.size w W) : BindsNew w bs (.returned (.slice a n c)) W := by
  subst hn; exact ⟨a, c, es, rfl, he, h, hN, hb⟩
theorem bpost_of {w W : World} {bs : List Bd} {a : Option Addr} {n c : Nat} (hn : n = bs.length) (h : BindsAt W (.slice a n c) bs) (hb : Below w.heap.size w W) : BindsPost w bs (.returned (.slice a n c)) W := by
  subst hn; exact ⟨a, c, rfl, h, hb⟩
theorem canon_next (bs : List Bd) (q : Nat) (h : q < (namesV bs).length) : (canonB bs).take (q + 1) = (canonB bs).take q ++ [((namesV bs)[q], getV bs (namesV bs)[q])] := by
  rw [List.take_succ_eq_append_getElem (by rw [canonB_len]; exact h)]
  simp [canonB]
theorem news5 {w : World} {a b c d e : Value} {t : TypeId} : ∀ j u, [a, b, c, d, e][j]? = some u → (w.alloc (.cells #[a, b, c, d, e] t)).cell? ((⟨w.heap.size, 0, none⟩ : Addr).add j) = some u := by
  intro j u hj
  match j, hj with
  | 0, hj => simp at hj; subst hj; simp [Addr.add]
  | 1, hj => simp at hj; subst hj; simp [Addr.add]
  | 2, hj => simp at hj; subst hj; simp [Addr.add]
  | 3, hj => simp at hj; subst hj; simp [Addr.add]
  | 4, hj => simp at hj; subst hj; simp [Addr.add]
theorem one5 {X S : ByteArray} {k : Int} {l p : Value} (h : l.oneCell' = true ∧ p.oneCell' = true) : ∀ u ∈ [Value.string X, .int .i64 k, .string S, l, p], u.oneCell' = true := by
  intro u hu
  simp only [List.mem_cons, List.not_mem_nil, or_false] at hu
  rcases hu with rfl | rfl | rfl | rfl | rfl
  · rfl
  · rfl
  · rfl
  · exact h.1
  · exact h.2
set_option maxRecDepth 20000 in
set_option maxHeartbeats 8000000 in
theorem rbcanon_new (v : Value) (bs : List Bd) (w : World) (h : BindsAt w v bs) (F : Fd bs) : Calls Try.prog 19 #[v] w fun e w' => BindsNew w (canonB bs) e w' := by
  obtain ⟨j0, hj, hy0, hy1, hy2⟩ := info_parts info41
  obtain ⟨la, lc, rfl⟩ := h.form
  have hln := F.len
  have HF := hide F
  have H := hide h
  clear h F
  have hnl := names_len bs
  go_enter Try.func19, Try.ntmps19
  go_wp2_with (go_at_call 16; refine (rnames_any _ bs _ H.out HF.out).mono ?_; rintro e w1 ⟨na, nc, rfl, T, bb⟩)
  obtain ⟨m, hm⟩ : ∃ m, (namesV bs).length = m := ⟨_, rfl⟩
  have Hm := hide hm
  rw [hm] at T hnl ⊢
  have HT := hide T
  have Bw := bb
  clear hm T bb
  go_loopw [3, 5] (fun o i wr => ∃ (q : Nat) (es : List Ev) (va : Option Addr) (vc : Nat), q ≤ m ∧ i = .int .i64 q ∧ plainE es = (canonB bs).take q ∧ o = .slice va es.length vc ∧ Rw w1.heap.size wr (.slice va es.length vc) es ∧ Below w1.heap.size w1 wr ∧ ∀ e ∈ es, Newly w.heap.size e.l ∧ Newly w.heap.size e.p) (fun _ i _ => m - (intOf i).toNat)
  case atStart => exact ⟨0, [], none, 0, Nat.zero_le _, rfl, rfl, rfl, Rw.nil _ _, Below.refl _ _, fun _ h => by cases h⟩
  case round =>
    obtain ⟨q, es, va, vc, hq, rfl, hpl, rfl, R, B, NW⟩ := hrel
    by_cases hlt : q < m
    · have hlq : q < (namesV bs).length := by rw [Hm.out]; exact hlt
      obtain ⟨b2, o2, c2, e, hb2, g0⟩ := HT.out.at q hlq
      rw [Hm.out] at e
      cases e
      have hnx := canon_next bs q hlq
      rw [← hpl] at hnx
      have hel : es.length ≤ 100 := by
        have := congrArg List.length hpl
        rw [List.length_take, canonB_len] at this
        simp [plainE] at this
        omega
      have his : isV bs (namesV bs)[q] = true := (mem_names bs _).1 (List.getElem_mem hlq)
      obtain ⟨n, hn⟩ : ∃ n, (namesV bs)[q] = n := ⟨_, rfl⟩
      rw [hn] at g0 hnx his
      obtain ⟨cv, hcv⟩ : ∃ cv, getV bs n = cv := ⟨_, rfl⟩
      rw [hcv] at hnx
      obtain ⟨X, hX⟩ : ∃ X : ByteArray, (⟨n.toArray⟩ : ByteArray) = X := ⟨_, rfl⟩
      rw [hX] at g0
      have hXd : X.data.toList = n := by rw [← hX]
      have g1 := (B.cell (p := ⟨b2, o2 + q, none⟩) hb2).trans g0
      have HG := hide (rget_any (.slice la bs.length lc) bs X cv true wr (H.out.later (Bw.trans (B.mono Bw.size))) HF.out (by rw [hXd]; exact hcv) (by rw [hXd]; exact his))
      have Hnx : Hid (∀ sl sp, plainE (es ++ [⟨(n, cv), sl, sp⟩]) = (canonB bs).take (q + 1)) := hide (fun sl sp => by rw [hnx]; simp [plainE])
      have HR := hide R
      clear hnx hpl his hn hcv hXd R hlq
      go_wp2_with (go_at_call 12; refine HG.out.mono ?_; rintro e w2 ⟨la2, lc2, pa2, pc2, rfl, R1, R2, bb, N1, N2⟩; have g2 := (bb.cell (p := ⟨b2, o2 + q, none⟩) (lt_of_cell g1)).trans g1)
      obtain ⟨kc, hkc⟩ : ∃ kc, cv.kind = kc := ⟨_, rfl⟩
      obtain ⟨S, hS⟩ : ∃ S : ByteArray, (⟨cv.s.toArray⟩ : ByteArray) = S := ⟨_, rfl⟩
      obtain ⟨sl, hsl⟩ : ∃ sl, Value.slice la2 cv.l.length lc2 = sl := ⟨_, rfl⟩
      obtain ⟨sp, hsp⟩ : ∃ sp, Value.slice pa2 cv.p.length pc2 = sp := ⟨_, rfl⟩
      have H1 : Hid (sl.oneCell' = true ∧ sp.oneCell' = true) := by rw [← hsl, ← hsp]; exact hide ⟨rfl, rfl⟩
      have HC : Hid (rowE [⟨(n, cv), sl, sp⟩] = [.string X, .int .i64 kc, .string S, sl, sp]) := hide (by rw [← hX, ← hkc, ← hS]; rfl)
      rw [hkc, hS, hsl, hsp]
      rw [hsl] at R1 N1
      rw [hsp] at R2 N2
      have bA := bb.alloc bb.size (.cells #[.int .i64 kc, .string S, sl, sp] 28)
      have CB := Bx.made w2 #[.int .i64 kc, .string S, sl, sp] 28
      have HE := hide (show EAt (w2.alloc (.cells #[.int .i64 kc, .string S, sl, sp] 28)) ⟨(n, cv), sl, sp⟩ from ⟨R1.later (b_alloc _ _), R2.later (b_alloc _ _)⟩)
      have hws := (Bw.trans (B.mono Bw.size)).size
      have NW2 := hide (show ∀ e ∈ es ++ [(⟨(n, cv), sl, sp⟩ : Ev)], Newly w.heap.size e.l ∧ Newly w.heap.size e.p from fun e he => by
        rcases List.mem_append.1 he with he | he
        · exact NW e he
        · rw [List.mem_singleton] at he; subst he; exact ⟨N1.le hws, N2.le hws⟩)
      have HO := hide (show ∀ j, (Value.slice va es.length vc).ownBlock = some j → OffE j ⟨(n, cv), sl, sp⟩ from fun j hj => by have := (HR.out.row.lt j hj).2; exact ⟨Off.newly N1 this, Off.newly N2 this⟩)
      have R3 := hide (HR.out.next bA)
      have B3 := B.trans (bA.mono B.size)
      have g3 := (bA.cell (p := ⟨b2, o2 + q, none⟩) (lt_of_cell g1)).trans g1
      have hl4 : ∀ x : Ev, (es ++ [x]).length = es.length + 1 := fun x => by simp
      generalize hW3 : w2.alloc (.cells #[.int .i64 kc, .string S, sl, sp] 28) = W3 at CB HE R3 B3 g3 ⊢
      have hs2 : w2.heap.size < W3.heap.size := CB.lt
      obtain ⟨y0, y1, y2, y3⟩ := cells4 CB
      have h0 : (0 : Int) ≤ q := by omega
      have h1 : (q : Int) < m := by omega
      clear hkc hS hsl hsp hX R1 R2 N1 N2 CB g1 g2 bb bA HR HG hW3
      go_wp2
      refine wp_region_any (by kernel_rfl) ?_
      change wpAny _ _ _ _ _ _ _ (World.drew _)
      refine wpAny_take (i := 0) (v := ?_) rfl (by kernel_rfl) (by kernel_rfl) (by kernel_rfl) (fun _ _ _ h => h) (Or.inl ⟨by rfl, ?_⟩) ?_
      rotate_left
      · intro w; go_simp; try with_reducible rfl
      refine wpAny_take (i := 1) (v := ?_) rfl (by kernel_rfl) (by kernel_rfl) (by kernel_rfl) (fun _ _ _ h => h) (Or.inl ⟨by rfl, ?_⟩) ?_
      rotate_left
      · intro w; go_simp; try with_reducible rfl
      refine wpAny_take (i := 2) (v := ?_) rfl (by kernel_rfl) (by kernel_rfl) (by kernel_rfl) (fun _ _ _ h => h) (Or.inl ⟨by rfl, ?_⟩) ?_
      rotate_left
      · intro w; go_simp; try with_reducible rfl
      refine wpAny_take (i := 3) (v := ?_) rfl (by kernel_rfl) (by kernel_rfl) (by kernel_rfl) (fun _ _ _ h => h) (Or.inl ⟨by rfl, ?_⟩) ?_
      rotate_left
      · intro w; go_simp; try with_reducible rfl
      refine wpAny_ready (rs := [4, 5]) (by kernel_rfl) (by simp) ?_
      refine AllReady.cons rfl (fun K hK => ?_) ?_
      · go_simp
        refine hK _ _ ?_; clear hK K
        refine wpAny_ready (rs := [5]) (by kernel_rfl) (by simp) ?_
        refine AllReady.cons rfl (fun K hK => ?_) AllReady.nil
        go_simp
        refine hK _ _ ?_; clear hK K
        refine wpAny_take (i := 6) (v := ?_) rfl (by kernel_rfl) (by kernel_rfl) (by kernel_rfl) (fun _ _ _ h => h) (Or.inl ⟨by rfl, ?_⟩) ?_
        rotate_left
        · intro w; go_simp; try with_reducible rfl
        refine wpAny_ready (rs := [7]) (by kernel_rfl) (by simp) ?_
        refine AllReady.cons rfl (fun K hK => ?_) AllReady.nil
        go_simp
        refine hK _ _ ?_; clear hK K
        refine wpAny_ready (rs := [8]) (by kernel_rfl) (by simp) ?_
        refine AllReady.cons rfl (fun K hK => ?_) AllReady.nil
        refine step_append_lies _ (by rfl) _ _ 22 (by rfl) w1.heap.size 41 j0 (.agg #[.string ⟨#[]⟩, .int .i64 0, .string ⟨#[]⟩, .slice none 0 0, .slice none 0 0]) 5 88 Try.underlying22 hj hy0 hy1 hy2 rfl (by decide) (.slice va es.length vc) es.length (rowE es) (by rfl) (R3.out.drew.alloc (.cells #[.string X, .int .i64 kc, .string S, sl, sp] 41)).row ⟨W3.heap.size, 0, none⟩ 1 1 [.string X, .int .i64 kc, .string S, sl, sp] (by rfl) rfl news5 ?c2 (by decide) ?c3 ?c4 ?c5 _ rfl ?_
        case c2 => exact one5 H1.out
        case c3 => unfold maxLen; omega
        case c4 => omega
        case c5 => have := B3.size; simp; omega
        intro g cap w4 hown hgrow hat hlt4
        have R4 := (R3.out.drew.alloc (.cells #[.string X, .int .i64 kc, .string S, sl, sp] 41)).grown (fs := [⟨(n, cv), sl, sp⟩]) (g := g) (cap := cap) (n := es.length + 1) (fun f hf => by rw [List.mem_singleton] at hf; subst hf; exact HE.out.later ((b_drew W3).trans ((b_alloc _ _).mono (b_drew W3).size))) (fun q hq f hf => by rw [List.mem_singleton] at hf; subst hf; exact HO.out q hq) hgrow (by rw [HC.out]; exact hown) hat rfl
        have B4 := ((B3.drew).alloc (by have := B3.size; simpa using this) (.cells #[.string X, .int .i64 kc, .string S, sl, sp] 41)).grown hgrow (by have := B3.size; simp; omega) (fun j hj => by have := (R3.out.row.lt j hj).1; omega)
        have HR4 := hide R4
        clear hown hgrow hat hlt4 R4
        refine hK _ _ ?_; clear hK K
        refine wpAny_ready (rs := [9]) (by kernel_rfl) (by simp) ?_
        refine AllReady.cons rfl (fun K hK => ?_) AllReady.nil
        go_simp
        refine hK _ _ ?_; clear hK K
        refine wpAny_done (by kernel_rfl) ?_ _
        go_wp2
        go_roundw
        case rel => exact ⟨q + 1, es ++ [⟨(n, cv), sl, sp⟩], some ⟨g, 0, none⟩, cap, by omega, by go_num, Hnx.out _ _, by rw [hl4], by rw [hl4]; exact HR4.out, B4, NW2.out⟩
        case measure => simp [intOf]; omega
      refine AllReady.cons rfl (fun K hK => ?_) AllReady.nil
      go_simp
      refine hK _ _ ?_; clear hK K
      refine wpAny_ready (rs := [4]) (by kernel_rfl) (by simp) ?_
      refine AllReady.cons rfl (fun K hK => ?_) AllReady.nil
      go_simp
      refine hK _ _ ?_; clear hK K
      refine wpAny_take (i := 6) (v := ?_) rfl (by kernel_rfl) (by kernel_rfl) (by kernel_rfl) (fun _ _ _ h => h) (Or.inl ⟨by rfl, ?_⟩) ?_
      rotate_left
      · intro w; go_simp; try with_reducible rfl
      refine wpAny_ready (rs := [7]) (by kernel_rfl) (by simp) ?_
      refine AllReady.cons rfl (fun K hK => ?_) AllReady.nil
      go_simp
      refine hK _ _ ?_; clear hK K
      refine wpAny_ready (rs := [8]) (by kernel_rfl) (by simp) ?_
      refine AllReady.cons rfl (fun K hK => ?_) AllReady.nil
      refine step_append_lies _ (by rfl) _ _ 22 (by rfl) w1.heap.size 41 j0 (.agg #[.string ⟨#[]⟩, .int .i64 0, .string ⟨#[]⟩, .slice none 0 0, .slice none 0 0]) 5 88 Try.underlying22 hj hy0 hy1 hy2 rfl (by decide) (.slice va es.length vc) es.length (rowE es) (by rfl) (R3.out.drew.alloc (.cells #[.string X, .int .i64 kc, .string S, sl, sp] 41)).row ⟨W3.heap.size, 0, none⟩ 1 1 [.string X, .int .i64 kc, .string S, sl, sp] (by rfl) rfl news5 ?c2 (by decide) ?c3 ?c4 ?c5 _ rfl ?_
      case c2 => exact one5 H1.out
      case c3 => unfold maxLen; omega
      case c4 => omega
      case c5 => have := B3.size; simp; omega
      intro g cap w4 hown hgrow hat hlt4
      have R4 := (R3.out.drew.alloc (.cells #[.string X, .int .i64 kc, .string S, sl, sp] 41)).grown (fs := [⟨(n, cv), sl, sp⟩]) (g := g) (cap := cap) (n := es.length + 1) (fun f hf => by rw [List.mem_singleton] at hf; subst hf; exact HE.out.later ((b_drew W3).trans ((b_alloc _ _).mono (b_drew W3).size))) (fun q hq f hf => by rw [List.mem_singleton] at hf; subst hf; exact HO.out q hq) hgrow (by rw [HC.out]; exact hown) hat rfl
      have B4 := ((B3.drew).alloc (by have := B3.size; simpa using this) (.cells #[.string X, .int .i64 kc, .string S, sl, sp] 41)).grown hgrow (by have := B3.size; simp; omega) (fun j hj => by have := (R3.out.row.lt j hj).1; omega)
      have HR4 := hide R4
      clear hown hgrow hat hlt4 R4
      refine hK _ _ ?_; clear hK K
      refine wpAny_ready (rs := [9]) (by kernel_rfl) (by simp) ?_
      refine AllReady.cons rfl (fun K hK => ?_) AllReady.nil
      go_simp
      refine hK _ _ ?_; clear hK K
      refine wpAny_done (by kernel_rfl) ?_ _
      go_wp2
      go_roundw
      case rel => exact ⟨q + 1, es ++ [⟨(n, cv), sl, sp⟩], some ⟨g, 0, none⟩, cap, by omega, by go_num, Hnx.out _ _, by rw [hl4], by rw [hl4]; exact HR4.out, B4, NW2.out⟩
      case measure => simp [intOf]; omega
    · have he : plainE es = canonB bs := by rw [hpl, List.take_of_length_le]; rw [canonB_len, Hm.out]; omega
      have hel : es.length = (canonB bs).length := by rw [← he]; simp [plainE]
      have He := hide he
      have Hel := hide hel
      have HR := hide R
      clear he hel hpl R
      go_wp2
      go_ret
      exact bnew_of Hel.out He.out ⟨EsAt.of_owns HR.out.row, HR.out.val⟩ NW (Bw.trans (B.mono Bw.size))
theorem rbcanon_any (v : Value) (bs : List Bd) (w : World) (h : BindsAt w v bs) (F : Fd bs) : Calls Try.prog 19 #[v] w fun e w' => BindsPost w (canonB bs) e w' := (rbcanon_new v bs w h F).mono fun _ _ h => h.post
theorem rbcanon_is (v : Value) (bs cs : List Bd) (w : World) (h : BindsAt w v bs) (F : Fd bs) (hc : canonB bs = cs) : Calls Try.prog 19 #[v] w fun e w' => BindsPost w cs e w' := by
  subst hc; exact rbcanon_any v bs w h F
end Go.Proofs.Ytgnccmmbpgnamaa
