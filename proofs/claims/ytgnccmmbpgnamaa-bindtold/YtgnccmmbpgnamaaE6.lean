/-
  Variables appended; WALKS: the reference's Set (layer 9).
-/
import Derived.Test.YtgnccmmbpgnamaaE5
namespace Go.Proofs.Ytgnccmmbpgnamaa
open Go.RowKit

theorem EAt.one {w : World} {e : Ev} (h : EAt w e) : e.l.oneCell' = true ∧ e.p.oneCell' = true := by
  obtain ⟨a, c, e1⟩ := h.1.form
  obtain ⟨a', c', e2⟩ := h.2.form
  rw [e1, e2]
  exact ⟨rfl, rfl⟩
/-- the cells of a row, by one place -/
theorem EsAt.flat {w : World} {v : Value} {es : List Ev} (h : EsAt w v es) : (es = [] ∧ ∃ ao cap, v = .slice ao 0 cap) ∨ (0 < es.length ∧ ∃ b off cap, v = .slice (some ⟨b, off, none⟩) es.length cap ∧ ∀ j u, (rowE es)[j]? = some u → w.cell? ⟨b, off + j, none⟩ = some u) := by
  rcases h with h | ⟨hp, b, off, cap, rfl, hc⟩
  · exact .inl h
  · refine .inr ⟨hp, b, off, cap, rfl, fun j u hj => ?_⟩
    have hj5 : j < es.length * 5 := by
      apply Classical.byContradiction
      intro hge
      rw [List.getElem?_eq_none (by rw [rowE_len]; omega)] at hj
      cases hj
    have hk : j / 5 < es.length := by omega
    have e : j / 5 * 5 + j % 5 = j := by omega
    have h2 := rowE_at es (j / 5) (j % 5) hk (by omega)
    rw [e] at h2
    have := hc (j / 5) hk (j % 5) u (by rw [← h2]; exact hj)
    rw [Nat.add_assoc, e] at this
    exact this
/-- a row of variables with others behind it -/
theorem run_moreB (w : World) (ty : TypeId) (base : Nat) (v u : Value) (es fs : List Ev) (h : Rw base w v es) (hu : BindsE w u fs) (hof : ∀ b, v.ownBlock = some b → ∀ f ∈ fs, OffE b f) (hn : es.length + fs.length ≤ 1000000) (hbase : base ≤ w.heap.size) :
    ∃ a c w', (Builtin.append_ #[22, 22] ty #[v, u]).run Try.prog w = .ok (.slice a (es.length + fs.length) c) w' ∧ Rw base w' (.slice a (es.length + fs.length) c) (es ++ fs) ∧ w.grownBy w' v.ownBlock := by
  obtain ⟨i0, hi, hz0, hz1, hz2⟩ := info_parts info41
  rcases hu.1.flat with ⟨rfl, ao, cap, rfl⟩ | ⟨hp, b, off, cap, rfl, hc⟩
  · have hrow := h.row
    rcases hrow.2 with ⟨rfl, h0⟩ | ⟨g, cap', cur, rfl, _, hg, hnc, _, _, _⟩
    · have he : es = [] := List.eq_nil_of_length_eq_zero h0
      subst he
      refine ⟨none, 0, w, ?_, h, ⟨rfl, rfl, rfl, Nat.le_refl _, fun _ _ _ => rfl⟩⟩
      cases ao <;> simp [Builtin.append_, run_underlying Try.underlying22, sizeOf, typeInfo, hi, Builtin.lenOf, Builtin.firstCells, loadCells, loadCellsFrom]
    · refine ⟨some ⟨g, 0, none⟩, cap', w, ?_, by simpa using h, ⟨rfl, rfl, rfl, Nat.le_refl _, fun _ _ _ => rfl⟩⟩
      cases ao <;> simp [Builtin.append_, run_underlying Try.underlying22, sizeOf, typeInfo, hi, Builtin.lenOf, Builtin.firstCells, loadCells, loadCellsFrom, storeCells, hnc]
  · obtain ⟨g, cap', w', h1, h2, h3, h4, _⟩ := run_append_lies (P := Try.prog) w 22 ty base 41 i0 (.agg #[.string ⟨#[]⟩, .int .i64 0, .string ⟨#[]⟩, .slice none 0 0, .slice none 0 0]) 5 88 Try.underlying22 hi hz0 hz1 hz2 rfl (by decide) v es.length (rowE es) h.row ⟨b, off, none⟩ fs.length cap (rowE fs) (rowE_len fs)
      (fun j u hj => by rw [show (⟨b, off, none⟩ : Addr).add j = ⟨b, off + j, none⟩ by simp [Addr.add]]; exact hc j u hj) (fun u hm => by
        obtain ⟨f, hf, hm⟩ := List.mem_flatMap.1 hm
        have h1 := (hu.2 f hf).one
        simp only [cellsE, List.mem_cons, List.not_mem_nil, or_false] at hm
        rcases hm with rfl | rfl | rfl | rfl | rfl
        · rfl
        · rfl
        · rfl
        · exact h1.1
        · exact h1.2) hp (by unfold maxLen; omega) (by omega) hbase w.heap.size rfl
    exact ⟨_, cap', w', h1, h.grown hu.2 hof h3 h2 h4 rfl, h3⟩
theorem wpList_moreB {ops : Array Oper} {rest : List Oper} {o : Oper} {a : Act} {w : World} {Q : Exit → Act → World → Prop} (hgd : o.guard = none) (s x : Operand)
    (ho : o.op = .call { callee := .builtin .append, args := #[s, x], argTypes := #[22, 22] }) (base : Nat) (v u : Value) (es fs : List Ev) (hs : a.eval s = v) (hx : a.eval x = u)
    (hr : Rw base w v es) (hu : BindsE w u fs) (hof : ∀ b, v.ownBlock = some b → ∀ f ∈ fs, OffE b f) (hn : es.length + fs.length ≤ 1000000) (hbase : base ≤ w.heap.size)
    (h : ∀ d c w', Rw base w' (.slice d (es.length + fs.length) c) (es ++ fs) → w.grownBy w' v.ownBlock → wpList Try.prog ops Q rest (a.put o.dst (.slice d (es.length + fs.length) c)) w') : wpList Try.prog ops Q (o :: rest) a w :=
  wpList_plain hgd fun _ hK => by
    obtain ⟨d, c, w', hr, h2, h3⟩ := run_moreB w o.type base v u es fs hr hu hof hn hbase
    unfold Oper.wp execOp
    simp only [ho, resolve, invoke, builtin, Sem.run_bind, Sem.run_pure, Result.andThen_ok, List.map_toArray, List.map_cons, List.map_nil, hs, hx, hr]
    exact hK _ _ (h d c w' h2 h3)
/-- a row of one that a literal has made -/
theorem Rw.made {w : World} {e : Ev} {X S : ByteArray} {k : Int} {l p : Value} (he : EAt w e) (hc : cellsE e = [.string X, .int .i64 k, .string S, l, p]) : Rw w.heap.size (w.alloc (.cells #[.string X, .int .i64 k, .string S, l, p] 41)) (.slice (some ⟨w.heap.size, 0, none⟩) 1 1) [e] := by
  refine ⟨⟨rfl, .inr ⟨w.heap.size, 1, #[.string X, .int .i64 k, .string S, l, p], rfl, Nat.le_refl _, Bx.made _ _ _, Nat.le_refl _, by unfold maxLen; omega, rfl, ?_⟩⟩, fun f hf => ?_, fun b hb f hf => ?_⟩
  · show List.take 5 _ = cellsE e ++ []
    rw [hc]; rfl
  · rw [List.mem_singleton] at hf; subst hf
    exact he.later (b_alloc _ _)
  · rw [List.mem_singleton] at hf; subst hf
    simp [Value.ownBlock] at hb
    exact OffE.old he (by omega)
theorem Rw.below {base : Nat} {w w' : World} {v : Value} {es : List Ev} (h : Rw base w v es) {n : Nat} (hn : n ≤ base) (hs : n ≤ w.heap.size) (hg : w.grownBy w' v.ownBlock) {W : World} (B : Below n W w) : Below n W w' :=
  B.grown hg hs (fun j hj => by have := (h.row.lt j hj).1; omega)
theorem set_fd {bs : List Bd} {s : List UInt8} {u : Vl} (F : Fd bs) (FU : FewV u) (hs : s.length ≤ 200) (hl : bs.length ≤ 99) : Fd ((s, u) :: bs) := ⟨by simp; omega, fun b hb => by
  rcases List.mem_cons.1 hb with rfl | hb
  · exact ⟨hs, FU⟩
  · exact F.all b hb⟩
set_option maxRecDepth 20000 in
set_option maxHeartbeats 4000000 in
theorem rbset_any (v x : Value) (bs cs : List Bd) (s : ByteArray) (u : Vl) (w : World) (h : BindsAt w v bs) (HX : VlAt w x u) (F : Fd bs) (FU : FewV u) (hs : s.size ≤ 200) (hl : bs.length ≤ 99) (hc : setB bs s.data.toList u = cs) :
    Calls Try.prog 24 #[v, .string s, x] w fun e w' => BindsPost w cs e w' := by
  obtain ⟨fs, hpl, hE⟩ := h
  obtain ⟨sl, sp, rfl, g1, g2⟩ := HX
  obtain ⟨la, lc, rfl⟩ := hE.1.form
  have hfl : fs.length ≤ 99 := by
    have := congrArg List.length hpl
    simp [plainE] at this
    omega
  have FN := hide (set_fd F FU (by rw [← size_list]; exact hs) hl)
  obtain ⟨k, hk⟩ : ∃ k, u.kind = k := ⟨_, rfl⟩
  obtain ⟨S, hS⟩ : ∃ S : ByteArray, (⟨u.s.toArray⟩ : ByteArray) = S := ⟨_, rfl⟩
  have HC : Hid (cellsE ⟨(s.data.toList, u), sl, sp⟩ = [.string s, .int .i64 k, .string S, sl, sp]) := hide (by rw [← hk, ← hS]; rfl)
  rw [hk, hS]
  have bA := b_alloc w (.cells #[.int .i64 k, .string S, sl, sp] 28)
  have X0 := Bx.made w #[.int .i64 k, .string S, sl, sp] 28
  have hE1 := hE.later bA
  have he1 : EAt (w.alloc (.cells #[.int .i64 k, .string S, sl, sp] 28)) ⟨(s.data.toList, u), sl, sp⟩ := ⟨g1.later bA, g2.later bA⟩
  have hpl2 : plainE ([⟨(s.data.toList, u), sl, sp⟩] ++ fs) = (s.data.toList, u) :: bs := by rw [← hpl]; rfl
  obtain ⟨W1, hW1⟩ : ∃ W1, w.alloc (.cells #[.int .i64 k, .string S, sl, sp] 28) = W1 := ⟨_, rfl⟩
  rw [hW1] at bA X0 hE1 he1
  have hle : w.heap.size ≤ W1.heap.size := bA.size
  have R1 := hide (Rw.made he1 HC.out)
  have hE2 := hide (hE1.later (b_alloc W1 (.cells #[.string s, .int .i64 k, .string S, sl, sp] 41)))
  have hO := hide (show ∀ b, (Value.slice (some ⟨W1.heap.size, 0, none⟩) 1 1).ownBlock = some b → ∀ f ∈ fs, OffE b f from fun b hb f hf => by simp [Value.ownBlock] at hb; exact OffE.old (hE1.2 f hf) (by omega))
  obtain ⟨y0, y1, y2, y3⟩ := cells4 X0
  have B2 := bA.alloc bA.size (.cells #[.string s, .int .i64 k, .string S, sl, sp] 41)
  have Hp := hide hpl2
  have Hc := hide hc
  clear hE hE1 he1 g1 g2 hpl hpl2 F FU hk hS hc X0
  go_enter Try.func24, Try.ntmps24
  go_wp2_with (first
    | (at_builtin; refine wpList_moreB rfl _ _ rfl W1.heap.size _ _ [⟨(s.data.toList, u), sl, sp⟩] fs rfl rfl R1.out hE2.out hO.out (by simp; omega) (by simp) ?_; intro d c w2 R2 hgr; have B3 := R1.out.below (n := w.heap.size) hle B2.size hgr B2; have b2 := R2.binds; rw [Hp.out] at b2)
    | (go_at_call 19; refine (rbcanon_is _ _ cs _ b2 FN.out Hc.out).mono ?_; rintro e w3 ⟨a3, c3, rfl, h3, bb⟩))
  go_ret
  exact ⟨a3, c3, rfl, h3, B3.trans (bb.mono B3.size)⟩
end Go.Proofs.Ytgnccmmbpgnamaa
