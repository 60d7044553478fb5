/-
  Joined by program out of the texts H4 H5.
-/
import Derived.Test.YtjbnofljoijnmaaDoorY23
import Derived.Deep.AppendLies
/-
  PLAIN, AND WHAT LIES IN MEMORY: the program's reader of layer 7: what an expression comes to.
-/
namespace Go.Proofs.YtjbnofljoijnmaaDoor
open Go.RowKit Go.Lib

/-- what comes of a variable that is read -/
theorem var_bad (o : UInt8) (xs : List Sp) (r : List UInt8) (h : ¬ (endC r < r.length ∧ isX (r.take (endC r)) = true)) : finT o xs r = none ∧ goT (5, []) r = badX (r.take (endC r)) := by
  rcases end_split r with ⟨h1, h2⟩ | ⟨a, c, t, rfl, h2, h3, h4⟩
  · refine ⟨fin_none o xs h2, ?_⟩
    rw [h1, List.take_length]
    exact go_none h2
  · have e : (a ++ c :: t).take (endC (a ++ c :: t)) = a := by rw [h2, List.take_left]
    have hx : isX a = false := by
      cases hx : isX a with
      | false => rfl
      | true => exact absurd ⟨by rw [h2]; simp, by rw [e]; exact hx⟩ h
    rw [e]
    exact ⟨fin_bad o xs h4 h3 hx, go_stop h4 h3 hx⟩
theorem var_good (o : UInt8) (xs : List Sp) (r : List UInt8) (h : endC r < r.length) (hx : isX (r.take (endC r)) = true) :
    ∃ c, (r.drop (endC r)).take 1 = [c] ∧ (c = 125 ∧ finT o xs r = (isT (r.drop (endC r + 1))).map (⟨[], o, xs ++ [specX (r.take (endC r))]⟩ :: ·) ∧ goT (5, []) r = endC r + 1 + goT outT (r.drop (endC r + 1)) ∨
      c = 44 ∧ finT o xs r = finT o (xs ++ [specX (r.take (endC r))]) (r.drop (endC r + 1)) ∧ goT (5, []) r = endC r + 1 + goT (5, []) (r.drop (endC r + 1))) := by
  rcases end_split r with ⟨h1, _⟩ | ⟨a, c, t, rfl, h2, h3, h4⟩
  · omega
  · have e : (a ++ c :: t).take (endC (a ++ c :: t)) = a := by rw [h2, List.take_left]
    have e1 : (a ++ c :: t).drop (endC (a ++ c :: t)) = c :: t := by rw [h2, List.drop_left]
    have e2 : (a ++ c :: t).drop (endC (a ++ c :: t) + 1) = t := by
      rw [← List.drop_drop, e1]; rfl
    rw [e] at hx
    rw [e, e1, e2, h2]
    have hc : c = 44 ∨ c = 125 := by unfold sepB at h3; simpa using h3
    refine ⟨c, rfl, ?_⟩
    rcases hc with rfl | rfl
    · refine .inr ⟨rfl, fin_more o xs h4 hx, ?_⟩
      rw [go_next h4 (.inl rfl) hx, if_pos rfl]
    · refine .inl ⟨rfl, fin_last o xs h4 hx, ?_⟩
      rw [go_next h4 (.inr rfl) hx, if_neg (by decide)]

/-- where a reader stands -/
def posAt (W : World) (b : Nat) : Nat := match W.cell? ⟨b, 1, none⟩ with | some (.int _ n) => n.toNat | _ => 0
theorem Rd.pos {W : World} {b p : Nat} {s : ByteArray} (h : Rd W b s p) : posAt W b = p := by
  have x1 : W.cell? ⟨b, 1, none⟩ = some (.int .i64 p) := h.cell 1 _ rfl
  unfold posAt
  rw [x1]
  simp
theorem own_moved {W W' : World} {base b : Nat} {v : Value} {n : Nat} {xs : List Value} {t : TypeId} {z : Nat} (h : W.ownsRow base t z v n xs) (m : Mv b W W') (hb : b < base) : W'.ownsRow base t z v n xs := by
  refine ⟨h.1, ?_⟩
  rcases h.2 with ⟨rfl, h0⟩ | ⟨g, cap, cur, rfl, h1, hg, hn, hm, hs, ht⟩
  · exact .inl ⟨rfl, h0⟩
  · exact .inr ⟨g, cap, cur, rfl, h1, (m.kept g (lt_of_block hg) (by omega)).trans hg, hn, hm, hs, ht⟩
/-- what reading an expression comes to -/
def ExprPost (b : Nat) (s : ByteArray) (p : Nat) (w : World) (e : Ending) (w' : World) : Prop :=
  Mv b w w' ∧ ((isT (s.data.toList.drop p) = none ∧ e = fault (p + goT outT (s.data.toList.drop p))) ∨
    ∃ (x : Pt) (q : Nat) (a : Option Addr) (c : Nat), p < q ∧ q ≤ s.size ∧ x.lit = [] ∧ isT (s.data.toList.drop p) = (isT (s.data.toList.drop q)).map (x :: ·) ∧ p + goT outT (s.data.toList.drop p) = q + goT outT (s.data.toList.drop q) ∧
      e = .returned (.agg #[.string ⟨#[]⟩, .int .u8 (x.op.toNat : Int), .slice a x.specs.length c]) ∧ SpecsAt w' (.slice a x.specs.length c) x.specs ∧ TySp w' (.slice a x.specs.length c) ∧ Rd w' b s q)
/-- what an expression that is read holds in memory -/
structure Ex (w W : World) (b kp q : Nat) (s : ByteArray) (op : Int) (pv sv : Value) (n : Nat) (ys : List Value) : Prop where
  mv : Mv b w W
  rd : Rd W b s q
  res : Bx W w.heap.size #[.string ⟨#[]⟩, .int .u8 0, .slice none 0 0] 37
  par : Bx W kp #[.string ⟨#[]⟩, .int .u8 op, pv] 37
  own : W.ownsRow (kp + 1) 39 3 sv n ys
  lt : b < w.heap.size
  le : w.heap.size < kp
section
variable {w W W' : World} {b kp q q' : Nat} {s : ByteArray} {op : Int} {pv sv pv' sv' : Value} {n n' : Nat} {ys ys' : List Value}
theorem Mv.alloc (h : Mv b w W) (hb : b ≤ W.heap.size) (hw : w.heap.size ≤ W.heap.size) (o : Obj) : Mv b w (W.alloc o) :=
  ⟨h.bel.alloc hb o, fun i hi hn => (Below.heap_alloc W o i (by omega)).trans (h.kept i hi hn)⟩
theorem Ex.moved (h : Ex w W b kp q s op pv sv n ys) (m : Mv b W W') (r : Rd W' b s q') : Ex w W' b kp q' s op pv sv n ys := by
  have h1 := h.lt
  have h2 := h.le
  exact ⟨h.mv.trans m, r, h.res.moved m (by omega), h.par.moved m (by omega), own_moved h.own m (by omega), h1, h2⟩
theorem Ex.alloc (h : Ex w W b kp q s op pv sv n ys) (o : Obj) : Ex w (W.alloc o) b kp q s op pv sv n ys :=
  ⟨h.mv.alloc (Nat.le_of_lt h.rd.lt) (Nat.le_of_lt h.res.lt) o, h.rd.later o, h.res.later o, h.par.later o, h.own.alloc o, h.lt, h.le⟩
theorem Ex.drew (h : Ex w W b kp q s op pv sv n ys) : Ex w W.drew b kp q s op pv sv n ys := ⟨h.mv.drew, h.rd, h.res, h.par, h.own, h.lt, h.le⟩
theorem Ex.grown (h : Ex w W b kp q s op pv sv n ys) (hg : W.grownBy W' sv.ownBlock) (ho : W'.ownsRow (kp + 1) 39 3 sv' n' ys') : Ex w W' b kp q s op pv sv' n' ys' := by
  have h1 := h.lt
  have h2 := h.le
  have hk := h.par.lt
  have hr : ∀ i, i ≤ kp → some i ≠ sv.ownBlock := fun i hi e => by have := (h.own.lt i e.symm).1; omega
  have hb : ∀ i, i ≤ kp → W'.heap[i]? = W.heap[i]? := fun i hi => hg.block i (by omega) (hr i hi)
  exact ⟨⟨h.mv.bel.grown hg (by omega) (fun j hj => by have := (h.own.lt j hj).1; omega), fun i hi hn => (hb i (by omega)).trans (h.mv.kept i hi hn)⟩, (hb b (by omega)).trans h.rd, (hb _ (by omega)).trans h.res, (hb kp (Nat.le_refl _)).trans h.par, ho, h1, h2⟩
theorem Ex.put (h : Ex w W b kp q s op pv sv n ys) (v : Value) : Ex w (W.setCell ⟨kp, 2, none⟩ v) b kp q s op v sv n ys := by
  have h1 := h.lt
  have h2 := h.le
  exact ⟨h.mv.put (by omega) (by omega) 2 v, h.rd.other (by omega) 2 v, h.res.other (by omega) 2 v, h.par.put 2 v, own_put h.own (by omega), h1, h2⟩
end
end Go.Proofs.YtjbnofljoijnmaaDoor

/-
  WALKS: the program's reader of layer 7: expressions.
-/
namespace Go.Proofs.YtjbnofljoijnmaaDoor
open Go.RowKit Go.Lib

theorem head_drop (t : List UInt8) : (headOp t).2 = t.drop (opL (headOp t).1).length := by
  cases t with
  | nil => rfl
  | cons a t =>
    rw [headOp_cons]
    cases ha : opB a with
    | true => rw [if_pos rfl]; unfold opL; rw [if_neg (op_dead ha).2.1]; rfl
    | false => simp [opL]
set_option maxRecDepth 20000 in
set_option maxHeartbeats 4000000 in
theorem expression_any (b : Nat) (s : ByteArray) (p : Nat) (w w0 : World) (R : Rans w0) (h0 : w0.heap.size ≤ b) (B0 : Below w0.heap.size w0 w) (hr : Rd w b s p) (hs : s.size ≤ 1000000) (t : List UInt8) (hl : s.data.toList.drop p = 123 :: t) :
    Calls Tryd.prog 32 #[.pointer (some ⟨b, 0, none⟩)] w fun e w' => ExprPost b s p w e w' := by
  obtain ⟨i0, hi, hz0, hz1, hz2⟩ := info_parts info47
  have hln := congrArg List.length hl
  rw [List.length_drop, ← size_list, List.length_cons] at hln
  have hp : p < s.size := by omega
  have ht : s.data.toList.drop (p + 1) = t := by rw [← List.drop_drop, hl]; rfl
  obtain ⟨op, hop⟩ : ∃ op, (headOp t).1 = op := ⟨_, rfl⟩
  obtain ⟨q0, hq0⟩ : ∃ q0, p + 1 + (opL op).length = q0 := ⟨_, rfl⟩
  have e2 : (headOp t).2 = s.data.toList.drop q0 := by rw [← hq0, ← List.drop_drop, ht, ← hop]; exact head_drop t
  have hlen := op_len t
  rw [hop] at hlen
  have hfin : isT (s.data.toList.drop p) = finT op [] (s.data.toList.drop q0) := by rw [hl, fin_start, hop, e2]
  have hgo : p + goT outT (s.data.toList.drop p) = q0 + goT (5, []) (s.data.toList.drop q0) := by rw [hl, go_open, hop, e2, ← hq0]; omega
  have oany : Hid (∀ W, Rd W b s (p + 1) → Calls Tryd.prog 44 #[.pointer (some ⟨b, 0, none⟩)] W fun e w' => e = .returned (.int .u8 (op.toNat : Int)) ∧ Mv b W w' ∧ Rd w' b s q0) := by
    intro W hW
    have := operator_any b s (p + 1) W hW (by omega) hs
    rw [ht, hop, hq0] at this
    exact this
  unfold ExprPost
  obtain ⟨T, hT⟩ : ∃ T, isT (s.data.toList.drop p) = T := ⟨_, rfl⟩
  obtain ⟨G, hG⟩ : ∃ G, p + goT outT (s.data.toList.drop p) = G := ⟨_, rfl⟩
  rw [hT, hG]
  rw [hT] at hfin
  rw [hG] at hgo
  obtain ⟨F, hF⟩ : ∃ F : ByteArray, F.data.toList = (s.data.toList.drop p).take 1 := ⟨⟨((s.data.toList.drop p).take 1).toArray⟩, rfl⟩
  have HF := hide hF
  have Hfin := hide hfin
  have Hgo := hide hgo
  have hq1 : q0 ≤ s.size := by omega
  have hq2 : p < q0 := by omega
  have hbw := hr.lt
  clear hln ht e2 hlen hfin hgo hT hG hF hl hop hq0
  have X := Bx.made w #[.string ⟨#[]⟩, .int .u8 0, .slice none 0 0] 37
  have hkb : w.heap.size ≠ b := by omega
  have M : Mv b w (w.alloc (.cells #[.string ⟨#[]⟩, .int .u8 0, .slice none 0 0] 37)) := Mv.of ((Below.refl _ _).alloc (Nat.le_refl _) _) hbw
  replace hr : Rd _ b s p := hr.later (.cells #[.string ⟨#[]⟩, .int .u8 0, .slice none 0 0] 37)
  go_enter Tryd.func32, Tryd.ntmps32
  go_wp2_with (first
    | (go_at_call 43; refine (take_any b s F p 1 _ hr (by omega) hs HF.out).mono ?_; rintro e w1 ⟨rfl, m1, hr1⟩; replace M := M.trans m1; replace X := X.moved m1 hkb; clear m1)
    | (go_at_call 44; refine (oany.out _ hr1).mono ?_; rintro e w2 ⟨rfl, m2, hr2⟩; replace M := M.trans m2; replace X := X.moved m2 hkb; clear m2))
  have E0 : Ex w (w2.alloc (.cells #[.string ⟨#[]⟩, .int .u8 (op.toNat : Int), .slice none 0 0] 37)) b w2.heap.size q0 s (op.toNat : Int) (.slice none 0 0) (.slice none 0 0) 0 [] :=
    ⟨M.alloc (Nat.le_of_lt hr2.lt) (Nat.le_of_lt X.lt) _, hr2.later _, X.later _, Bx.made _ _ _, World.ownsRow_nil _ _ _ _, hbw, X.lt⟩
  have HE0 := hide E0
  generalize w2.heap.size = kp at *
  clear M X E0 hr hr1 hr2
  go_loopw [] (fun wr => ∃ (q : Nat) (xs : List Sp) (va : Option Addr) (vc : Nat), p < q ∧ q ≤ s.size ∧ T = finT op xs (s.data.toList.drop q) ∧ G = q + goT (5, []) (s.data.toList.drop q) ∧ xs.length ≤ q ∧ Ex w wr b kp q s (op.toNat : Int) (.slice va xs.length vc) (.slice va xs.length vc) xs.length (specsV xs)) (fun wr => s.size - posAt wr b)
  case atStart => exact ⟨q0, [], none, 0, hq2, hq1, Hfin.out, Hgo.out, Nat.zero_le _, HE0.out⟩
  case round =>
    clear HE0 Hfin Hgo
    obtain ⟨q, xs, va, vc, hpq, hqs, hT, hG, hxs, E⟩ := hrel
    have RW : Rans wr := R.next (B0.trans (E.mv.bel.mono h0))
    have hv := fun W (RW : Rans W) (hW : Rd W b s q) => variable_any b s q W RW hW hqs hs
    unfold VarPost at hv
    have hpos := E.rd.pos
    obtain ⟨r, er⟩ : ∃ r, s.data.toList.drop q = r := ⟨_, rfl⟩
    have hrl : r.length = s.size - q := by rw [← er, List.length_drop, ← size_list]
    rw [er] at hv hT hG
    obtain ⟨x0, x1, x2⟩ := cells3 E.par
    by_cases hg : endC r < r.length ∧ isX (r.take (endC r)) = true
    · obtain ⟨hg1, hg2⟩ := hg
      obtain ⟨c, hc1, hc2⟩ := var_good op xs r hg1 hg2
      obtain ⟨n, hn⟩ : ∃ n, endC r = n := ⟨_, rfl⟩
      obtain ⟨y, hy⟩ : ∃ y, specX (r.take (endC r)) = y := ⟨_, rfl⟩
      obtain ⟨nm, hnm⟩ : ∃ nm : ByteArray, (⟨y.name.toArray⟩ : ByteArray) = nm := ⟨_, rfl⟩
      obtain ⟨mx, hmx⟩ : ∃ mx, y.max = mx := ⟨_, rfl⟩
      obtain ⟨st, hst⟩ : ∃ st, y.star = st := ⟨_, rfl⟩
      have hspv : spV y = [.string nm, .int .i64 mx, .bool st] := by unfold spV; rw [hnm, hmx, hst]
      have vany : Hid (∀ W, Rans W → Rd W b s q → Calls Tryd.prog 45 #[.pointer (some ⟨b, 0, none⟩)] W fun e w' => e = .returned (.agg #[.string nm, .int .i64 mx, .bool st]) ∧ Mv b W w' ∧ Rd w' b s (q + n)) := by
        intro W RW hW
        refine (hv W RW hW).mono ?_
        rintro e w' ⟨m, he⟩
        rw [if_pos ⟨hg1, hg2⟩, hy, hspv, hn] at he
        exact ⟨he.1, m, he.2⟩
      rw [hn] at hc1 hc2 hg1
      rw [hn] at hy
      rw [hy] at hc2
      have e1 : r.drop n = s.data.toList.drop (q + n) := by rw [← er, List.drop_drop]
      have e2 : r.drop (n + 1) = s.data.toList.drop (q + n + 1) := by rw [← er, List.drop_drop]; rfl
      rw [e1] at hc1
      rw [e2] at hc2
      obtain ⟨F2, hF2⟩ : ∃ F2 : ByteArray, F2.data.toList = [c] := ⟨⟨#[c]⟩, rfl⟩
      obtain ⟨hF0, hFc⟩ := byte_list hF2
      have HF2 : Hid (F2.data.toList = (s.data.toList.drop (q + n)).take 1) := hF2.trans hc1.symm
      have HE := hide E.drew
      have Hspv := hide hspv
      have hqn : q + n + 1 ≤ s.size := by omega
      have RD := R.next (B0.trans (E.mv.drew.bel.mono h0))
      have hc3 : (c = 125 ∧ T = (isT (s.data.toList.drop (q + n + 1))).map (⟨[], op, xs ++ [y]⟩ :: ·) ∧ G = q + n + 1 + goT outT (s.data.toList.drop (q + n + 1))) ∨ (c = 44 ∧ T = finT op (xs ++ [y]) (s.data.toList.drop (q + n + 1)) ∧ G = q + n + 1 + goT (5, []) (s.data.toList.drop (q + n + 1))) := by
        rcases hc2 with ⟨h1, h2, h3⟩ | ⟨h1, h2, h3⟩
        · exact .inl ⟨h1, hT.trans h2, by omega⟩
        · exact .inr ⟨h1, hT.trans h2, by omega⟩
      clear hc2 hT hG hc1 hy hnm hmx hst hspv hg1 hg2 hn e1 e2 er hv E hF2
      rcases hc3 with ⟨hc, hT, hG⟩ | ⟨hc, hT, hG⟩
      · have HT := hide hT
        have HG := hide hG
        clear hT hG
        go_wp2
        refine wp_region_any (by kernel_rfl) ?_
        change wpAny _ _ _ _ _ _ _ (World.drew _)
        refine wpAny_take (i := 0) (v := ?_) rfl (by kernel_rfl) (by kernel_rfl) (by kernel_rfl) (fun _ _ _ h => h) (Or.inl ⟨by rfl, ?_⟩) ?_
        rotate_left
        · intro w; go_simp; try with_reducible rfl
        refine wpAny_take (i := 2) (v := ?_) rfl (by kernel_rfl) (by kernel_rfl) (by kernel_rfl) (fun _ _ _ h => h) (Or.inl ⟨by rfl, ?_⟩) ?_
        rotate_left
        · intro w; go_simp; try with_reducible rfl
        refine wpAny_ready (rs := [1, 3]) (by kernel_rfl) (by simp) ?_
        refine AllReady.cons rfl (fun K hK => ?_) (AllReady.cons rfl (fun K hK => ?_) AllReady.nil)
        · go_simp
          first | (refine hK _ _ ?_; clear hK K) | skip
          refine wpAny_ready (rs := [3]) (by kernel_rfl) (by simp) ?_
          refine AllReady.cons rfl (fun K hK => ?_) AllReady.nil
          go_simp
          go_wp2_with (go_at_call 45; refine (vany.out _ RD HE.out.rd).mono ?_; rintro e w3 ⟨rfl, mm, rr⟩; have E1 := HE.out.moved mm rr; clear mm rr)
          first | (refine hK _ _ ?_; clear hK K) | skip
          refine wpAny_ready (rs := [4]) (by kernel_rfl) (by simp) ?_
          refine AllReady.cons rfl (fun K hK => ?_) AllReady.nil
          go_simp
          first | (refine hK _ _ ?_; clear hK K) | skip
          refine wpAny_ready (rs := [5]) (by kernel_rfl) (by simp) ?_
          refine AllReady.cons rfl (fun K hK => ?_) AllReady.nil
          refine step_append_lies _ (by rfl) _ _ 35 (by rfl) (kp + 1) 39 i0 (.agg #[.string ⟨#[]⟩, .int .i64 0, .bool false]) 3 32 Tryd.underlying35 hi hz0 hz1 hz2 rfl (by decide) (.slice va xs.length vc) xs.length (specsV xs) (by rfl) (E1.alloc (.cells #[.string nm, .int .i64 mx, .bool st] 39)).own ⟨w3.heap.size, 0, none⟩ 1 1 [.string nm, .int .i64 mx, .bool st] (by rfl) rfl ?c1 ?c2 (by decide) ?c3 ?c4 ?c5 _ rfl ?_
          case c1 =>
            intro j u hj
            match j, hj with
            | 0, hj => simp at hj; subst hj; simp [Addr.add]
            | 1, hj => simp at hj; subst hj; simp [Addr.add]
            | 2, hj => simp at hj; subst hj; simp [Addr.add]
          case c2 => intro u hu; simp at hu; rcases hu with rfl | rfl | rfl <;> rfl
          case c3 => unfold maxLen; omega
          case c4 => omega
          case c5 => have := E1.par.lt; simp; omega
          intro g cap w4 hown hgrow hat hlt
          have E4 := (E1.alloc (.cells #[.string nm, .int .i64 mx, .bool st] 39)).grown hgrow hown
          clear hown hgrow hat hlt x0 x1 x2
          obtain ⟨x0, x1, x2⟩ := cells3 E4.par
          have f2 := E4.par.free 2
          first | (refine hK _ _ ?_; clear hK K) | skip
          refine wpAny_ready (rs := [6]) (by kernel_rfl) (by simp) ?_
          refine AllReady.cons rfl (fun K hK => ?_) AllReady.nil
          go_simp
          first | (refine hK _ _ ?_; clear hK K) | skip
          refine wpAny_ready (rs := [7]) (by kernel_rfl) (by simp) ?_
          refine AllReady.cons rfl (fun K hK => ?_) AllReady.nil
          go_simp
          first | (refine hK _ _ ?_; clear hK K) | skip
          refine wpAny_done (by kernel_rfl) ?_ _
          have hcmp : ((F2[0].toNat : Int) == 125) = true := by rw [hFc, hc]; rfl
          have E5 := E4.put (.slice (some ⟨g, 0, none⟩) (xs.length + 1) cap)
          clear E4 x0 x1 x2 f2
          have HE5 := hide E5
          clear E5
          go_wp2_with (go_at_call 43; refine (take_any b s F2 (q + n) 1 _ HE5.out.rd hqn hs HF2.out).mono ?_; rintro e w6 ⟨rfl, m6, r6⟩; have E6 := HE5.out.moved m6 r6; clear m6 r6; obtain ⟨x0, x1, x2⟩ := cells3 E6.par; obtain ⟨y0, y1, y2⟩ := cells3 E6.res; have f0 := E6.res.free 0; have f1 := E6.res.free 1; have f2 := E6.res.free 2)
          have X3 := ((E6.res.put 0 (.string ⟨#[]⟩)).put 1 (.int .u8 (op.toNat : Int))).put 2 (.slice (some ⟨g, 0, none⟩) (xs.length + 1) cap)
          obtain ⟨z0, z1, z2⟩ := cells3 (x := .string ⟨#[]⟩) (y := .int .u8 (op.toNat : Int)) (z := .slice (some ⟨g, 0, none⟩) (xs.length + 1) cap) X3
          have hbl : b ≤ w.heap.size := Nat.le_of_lt hbw
          have hns : (xs ++ [y]).length = xs.length + 1 := by simp
          have hown : w6.ownsRow (kp + 1) 39 3 (.slice (some ⟨g, 0, none⟩) (xs.length + 1) cap) (xs ++ [y]).length (specsV (xs ++ [y])) := by rw [specsV_snoc, Hspv.out, hns]; exact E6.own
          have hlw : w.heap.size < kp + 1 := by have := E6.le; omega
          have hownz := own_put (b := w.heap.size) (j := 2) (u := .slice (some ⟨g, 0, none⟩) (xs.length + 1) cap) (own_put (b := w.heap.size) (j := 1) (u := .int .u8 (op.toNat : Int)) (own_put (b := w.heap.size) (j := 0) (u := .string ⟨#[]⟩) hown hlw) hlw) hlw
          refine bodyPost_ret (v := .agg #[.string ⟨#[]⟩, .int .u8 (op.toNat : Int), .slice (some ⟨g, 0, none⟩) (xs.length + 1) cap]) ?_ rfl ⟨((E6.mv.put (Nat.le_refl _) hbl 0 _).put (Nat.le_refl _) hbl 1 _).put (Nat.le_refl _) hbl 2 _, .inr ⟨⟨[], op, xs ++ [y]⟩, q + n + 1, some ⟨g, 0, none⟩, cap, by omega, hqn, rfl, HT.out, HG.out, by rw [hns], ?_, ?_, ?_⟩⟩
          · simp [results, Tryd.results32, go_sem, z0, z1, z2]
          · rw [hns]; exact SpecsAt.of_owns hownz
          · rw [hns]; exact TySp.of_owns hownz
          · exact ((E6.rd.other (by omega) 0 _).other (by omega) 1 _).other (by omega) 2 _
        · go_simp
          go_wp2_with (go_at_call 45; refine (vany.out _ RD HE.out.rd).mono ?_; rintro e w3 ⟨rfl, mm, rr⟩; have E1 := HE.out.moved mm rr; clear mm rr)
          first | (refine hK _ _ ?_; clear hK K) | skip
          obtain ⟨x0, x1, x2⟩ := cells3 E1.par
          refine wpAny_ready (rs := [1, 4]) (by kernel_rfl) (by simp) ?_
          refine AllReady.cons rfl (fun K hK => ?_) (AllReady.cons rfl (fun K hK => ?_) AllReady.nil)
          · go_simp
            first | (refine hK _ _ ?_; clear hK K) | skip
            refine wpAny_ready (rs := [4]) (by kernel_rfl) (by simp) ?_
            refine AllReady.cons rfl (fun K hK => ?_) AllReady.nil
            go_simp
            first | (refine hK _ _ ?_; clear hK K) | skip
            refine wpAny_ready (rs := [5]) (by kernel_rfl) (by simp) ?_
            refine AllReady.cons rfl (fun K hK => ?_) AllReady.nil
            refine step_append_lies _ (by rfl) _ _ 35 (by rfl) (kp + 1) 39 i0 (.agg #[.string ⟨#[]⟩, .int .i64 0, .bool false]) 3 32 Tryd.underlying35 hi hz0 hz1 hz2 rfl (by decide) (.slice va xs.length vc) xs.length (specsV xs) (by rfl) (E1.alloc (.cells #[.string nm, .int .i64 mx, .bool st] 39)).own ⟨w3.heap.size, 0, none⟩ 1 1 [.string nm, .int .i64 mx, .bool st] (by rfl) rfl ?c1 ?c2 (by decide) ?c3 ?c4 ?c5 _ rfl ?_
            case c1 =>
              intro j u hj
              match j, hj with
              | 0, hj => simp at hj; subst hj; simp [Addr.add]
              | 1, hj => simp at hj; subst hj; simp [Addr.add]
              | 2, hj => simp at hj; subst hj; simp [Addr.add]
            case c2 => intro u hu; simp at hu; rcases hu with rfl | rfl | rfl <;> rfl
            case c3 => unfold maxLen; omega
            case c4 => omega
            case c5 => have := E1.par.lt; simp; omega
            intro g cap w4 hown hgrow hat hlt
            have E4 := (E1.alloc (.cells #[.string nm, .int .i64 mx, .bool st] 39)).grown hgrow hown
            clear hown hgrow hat hlt x0 x1 x2
            obtain ⟨x0, x1, x2⟩ := cells3 E4.par
            have f2 := E4.par.free 2
            first | (refine hK _ _ ?_; clear hK K) | skip
            refine wpAny_ready (rs := [6]) (by kernel_rfl) (by simp) ?_
            refine AllReady.cons rfl (fun K hK => ?_) AllReady.nil
            go_simp
            first | (refine hK _ _ ?_; clear hK K) | skip
            refine wpAny_ready (rs := [7]) (by kernel_rfl) (by simp) ?_
            refine AllReady.cons rfl (fun K hK => ?_) AllReady.nil
            go_simp
            first | (refine hK _ _ ?_; clear hK K) | skip
            refine wpAny_done (by kernel_rfl) ?_ _
            have hcmp : ((F2[0].toNat : Int) == 125) = true := by rw [hFc, hc]; rfl
            have E5 := E4.put (.slice (some ⟨g, 0, none⟩) (xs.length + 1) cap)
            clear E4 x0 x1 x2 f2
            have HE5 := hide E5
            clear E5
            go_wp2_with (go_at_call 43; refine (take_any b s F2 (q + n) 1 _ HE5.out.rd hqn hs HF2.out).mono ?_; rintro e w6 ⟨rfl, m6, r6⟩; have E6 := HE5.out.moved m6 r6; clear m6 r6; obtain ⟨x0, x1, x2⟩ := cells3 E6.par; obtain ⟨y0, y1, y2⟩ := cells3 E6.res; have f0 := E6.res.free 0; have f1 := E6.res.free 1; have f2 := E6.res.free 2)
            have X3 := ((E6.res.put 0 (.string ⟨#[]⟩)).put 1 (.int .u8 (op.toNat : Int))).put 2 (.slice (some ⟨g, 0, none⟩) (xs.length + 1) cap)
            obtain ⟨z0, z1, z2⟩ := cells3 (x := .string ⟨#[]⟩) (y := .int .u8 (op.toNat : Int)) (z := .slice (some ⟨g, 0, none⟩) (xs.length + 1) cap) X3
            have hbl : b ≤ w.heap.size := Nat.le_of_lt hbw
            have hns : (xs ++ [y]).length = xs.length + 1 := by simp
            have hown : w6.ownsRow (kp + 1) 39 3 (.slice (some ⟨g, 0, none⟩) (xs.length + 1) cap) (xs ++ [y]).length (specsV (xs ++ [y])) := by rw [specsV_snoc, Hspv.out, hns]; exact E6.own
            have hlw : w.heap.size < kp + 1 := by have := E6.le; omega
            have hownz := own_put (b := w.heap.size) (j := 2) (u := .slice (some ⟨g, 0, none⟩) (xs.length + 1) cap) (own_put (b := w.heap.size) (j := 1) (u := .int .u8 (op.toNat : Int)) (own_put (b := w.heap.size) (j := 0) (u := .string ⟨#[]⟩) hown hlw) hlw) hlw
            refine bodyPost_ret (v := .agg #[.string ⟨#[]⟩, .int .u8 (op.toNat : Int), .slice (some ⟨g, 0, none⟩) (xs.length + 1) cap]) ?_ rfl ⟨((E6.mv.put (Nat.le_refl _) hbl 0 _).put (Nat.le_refl _) hbl 1 _).put (Nat.le_refl _) hbl 2 _, .inr ⟨⟨[], op, xs ++ [y]⟩, q + n + 1, some ⟨g, 0, none⟩, cap, by omega, hqn, rfl, HT.out, HG.out, by rw [hns], ?_, ?_, ?_⟩⟩
            · simp [results, Tryd.results32, go_sem, z0, z1, z2]
            · rw [hns]; exact SpecsAt.of_owns hownz
            · rw [hns]; exact TySp.of_owns hownz
            · exact ((E6.rd.other (by omega) 0 _).other (by omega) 1 _).other (by omega) 2 _
          · go_simp
            first | (refine hK _ _ ?_; clear hK K) | skip
            clear x0 x1 x2
            obtain ⟨x0, x1, x2⟩ := cells3 (E1.alloc (.cells #[.string nm, .int .i64 mx, .bool st] 39)).par
            refine wpAny_ready (rs := [1]) (by kernel_rfl) (by simp) ?_
            refine AllReady.cons rfl (fun K hK => ?_) AllReady.nil
            go_simp
            first | (refine hK _ _ ?_; clear hK K) | skip
            refine wpAny_ready (rs := [5]) (by kernel_rfl) (by simp) ?_
            refine AllReady.cons rfl (fun K hK => ?_) AllReady.nil
            refine step_append_lies _ (by rfl) _ _ 35 (by rfl) (kp + 1) 39 i0 (.agg #[.string ⟨#[]⟩, .int .i64 0, .bool false]) 3 32 Tryd.underlying35 hi hz0 hz1 hz2 rfl (by decide) (.slice va xs.length vc) xs.length (specsV xs) (by rfl) (E1.alloc (.cells #[.string nm, .int .i64 mx, .bool st] 39)).own ⟨w3.heap.size, 0, none⟩ 1 1 [.string nm, .int .i64 mx, .bool st] (by rfl) rfl ?c1 ?c2 (by decide) ?c3 ?c4 ?c5 _ rfl ?_
            case c1 =>
              intro j u hj
              match j, hj with
              | 0, hj => simp at hj; subst hj; simp [Addr.add]
              | 1, hj => simp at hj; subst hj; simp [Addr.add]
              | 2, hj => simp at hj; subst hj; simp [Addr.add]
            case c2 => intro u hu; simp at hu; rcases hu with rfl | rfl | rfl <;> rfl
            case c3 => unfold maxLen; omega
            case c4 => omega
            case c5 => have := E1.par.lt; simp; omega
            intro g cap w4 hown hgrow hat hlt
            have E4 := (E1.alloc (.cells #[.string nm, .int .i64 mx, .bool st] 39)).grown hgrow hown
            clear hown hgrow hat hlt x0 x1 x2
            obtain ⟨x0, x1, x2⟩ := cells3 E4.par
            have f2 := E4.par.free 2
            first | (refine hK _ _ ?_; clear hK K) | skip
            refine wpAny_ready (rs := [6]) (by kernel_rfl) (by simp) ?_
            refine AllReady.cons rfl (fun K hK => ?_) AllReady.nil
            go_simp
            first | (refine hK _ _ ?_; clear hK K) | skip
            refine wpAny_ready (rs := [7]) (by kernel_rfl) (by simp) ?_
            refine AllReady.cons rfl (fun K hK => ?_) AllReady.nil
            go_simp
            first | (refine hK _ _ ?_; clear hK K) | skip
            refine wpAny_done (by kernel_rfl) ?_ _
            have hcmp : ((F2[0].toNat : Int) == 125) = true := by rw [hFc, hc]; rfl
            have E5 := E4.put (.slice (some ⟨g, 0, none⟩) (xs.length + 1) cap)
            clear E4 x0 x1 x2 f2
            have HE5 := hide E5
            clear E5
            go_wp2_with (go_at_call 43; refine (take_any b s F2 (q + n) 1 _ HE5.out.rd hqn hs HF2.out).mono ?_; rintro e w6 ⟨rfl, m6, r6⟩; have E6 := HE5.out.moved m6 r6; clear m6 r6; obtain ⟨x0, x1, x2⟩ := cells3 E6.par; obtain ⟨y0, y1, y2⟩ := cells3 E6.res; have f0 := E6.res.free 0; have f1 := E6.res.free 1; have f2 := E6.res.free 2)
            have X3 := ((E6.res.put 0 (.string ⟨#[]⟩)).put 1 (.int .u8 (op.toNat : Int))).put 2 (.slice (some ⟨g, 0, none⟩) (xs.length + 1) cap)
            obtain ⟨z0, z1, z2⟩ := cells3 (x := .string ⟨#[]⟩) (y := .int .u8 (op.toNat : Int)) (z := .slice (some ⟨g, 0, none⟩) (xs.length + 1) cap) X3
            have hbl : b ≤ w.heap.size := Nat.le_of_lt hbw
            have hns : (xs ++ [y]).length = xs.length + 1 := by simp
            have hown : w6.ownsRow (kp + 1) 39 3 (.slice (some ⟨g, 0, none⟩) (xs.length + 1) cap) (xs ++ [y]).length (specsV (xs ++ [y])) := by rw [specsV_snoc, Hspv.out, hns]; exact E6.own
            have hlw : w.heap.size < kp + 1 := by have := E6.le; omega
            have hownz := own_put (b := w.heap.size) (j := 2) (u := .slice (some ⟨g, 0, none⟩) (xs.length + 1) cap) (own_put (b := w.heap.size) (j := 1) (u := .int .u8 (op.toNat : Int)) (own_put (b := w.heap.size) (j := 0) (u := .string ⟨#[]⟩) hown hlw) hlw) hlw
            refine bodyPost_ret (v := .agg #[.string ⟨#[]⟩, .int .u8 (op.toNat : Int), .slice (some ⟨g, 0, none⟩) (xs.length + 1) cap]) ?_ rfl ⟨((E6.mv.put (Nat.le_refl _) hbl 0 _).put (Nat.le_refl _) hbl 1 _).put (Nat.le_refl _) hbl 2 _, .inr ⟨⟨[], op, xs ++ [y]⟩, q + n + 1, some ⟨g, 0, none⟩, cap, by omega, hqn, rfl, HT.out, HG.out, by rw [hns], ?_, ?_, ?_⟩⟩
            · simp [results, Tryd.results32, go_sem, z0, z1, z2]
            · rw [hns]; exact SpecsAt.of_owns hownz
            · rw [hns]; exact TySp.of_owns hownz
            · exact ((E6.rd.other (by omega) 0 _).other (by omega) 1 _).other (by omega) 2 _
      · have HT := hide hT
        have HG := hide hG
        clear hT hG
        go_wp2
        refine wp_region_any (by kernel_rfl) ?_
        change wpAny _ _ _ _ _ _ _ (World.drew _)
        refine wpAny_take (i := 0) (v := ?_) rfl (by kernel_rfl) (by kernel_rfl) (by kernel_rfl) (fun _ _ _ h => h) (Or.inl ⟨by rfl, ?_⟩) ?_
        rotate_left
        · intro w; go_simp; try with_reducible rfl
        refine wpAny_take (i := 2) (v := ?_) rfl (by kernel_rfl) (by kernel_rfl) (by kernel_rfl) (fun _ _ _ h => h) (Or.inl ⟨by rfl, ?_⟩) ?_
        rotate_left
        · intro w; go_simp; try with_reducible rfl
        refine wpAny_ready (rs := [1, 3]) (by kernel_rfl) (by simp) ?_
        refine AllReady.cons rfl (fun K hK => ?_) (AllReady.cons rfl (fun K hK => ?_) AllReady.nil)
        · go_simp
          first | (refine hK _ _ ?_; clear hK K) | skip
          refine wpAny_ready (rs := [3]) (by kernel_rfl) (by simp) ?_
          refine AllReady.cons rfl (fun K hK => ?_) AllReady.nil
          go_simp
          go_wp2_with (go_at_call 45; refine (vany.out _ RD HE.out.rd).mono ?_; rintro e w3 ⟨rfl, mm, rr⟩; have E1 := HE.out.moved mm rr; clear mm rr)
          first | (refine hK _ _ ?_; clear hK K) | skip
          refine wpAny_ready (rs := [4]) (by kernel_rfl) (by simp) ?_
          refine AllReady.cons rfl (fun K hK => ?_) AllReady.nil
          go_simp
          first | (refine hK _ _ ?_; clear hK K) | skip
          refine wpAny_ready (rs := [5]) (by kernel_rfl) (by simp) ?_
          refine AllReady.cons rfl (fun K hK => ?_) AllReady.nil
          refine step_append_lies _ (by rfl) _ _ 35 (by rfl) (kp + 1) 39 i0 (.agg #[.string ⟨#[]⟩, .int .i64 0, .bool false]) 3 32 Tryd.underlying35 hi hz0 hz1 hz2 rfl (by decide) (.slice va xs.length vc) xs.length (specsV xs) (by rfl) (E1.alloc (.cells #[.string nm, .int .i64 mx, .bool st] 39)).own ⟨w3.heap.size, 0, none⟩ 1 1 [.string nm, .int .i64 mx, .bool st] (by rfl) rfl ?c1 ?c2 (by decide) ?c3 ?c4 ?c5 _ rfl ?_
          case c1 =>
            intro j u hj
            match j, hj with
            | 0, hj => simp at hj; subst hj; simp [Addr.add]
            | 1, hj => simp at hj; subst hj; simp [Addr.add]
            | 2, hj => simp at hj; subst hj; simp [Addr.add]
          case c2 => intro u hu; simp at hu; rcases hu with rfl | rfl | rfl <;> rfl
          case c3 => unfold maxLen; omega
          case c4 => omega
          case c5 => have := E1.par.lt; simp; omega
          intro g cap w4 hown hgrow hat hlt
          have E4 := (E1.alloc (.cells #[.string nm, .int .i64 mx, .bool st] 39)).grown hgrow hown
          clear hown hgrow hat hlt x0 x1 x2
          obtain ⟨x0, x1, x2⟩ := cells3 E4.par
          have f2 := E4.par.free 2
          first | (refine hK _ _ ?_; clear hK K) | skip
          refine wpAny_ready (rs := [6]) (by kernel_rfl) (by simp) ?_
          refine AllReady.cons rfl (fun K hK => ?_) AllReady.nil
          go_simp
          first | (refine hK _ _ ?_; clear hK K) | skip
          refine wpAny_ready (rs := [7]) (by kernel_rfl) (by simp) ?_
          refine AllReady.cons rfl (fun K hK => ?_) AllReady.nil
          go_simp
          first | (refine hK _ _ ?_; clear hK K) | skip
          refine wpAny_done (by kernel_rfl) ?_ _
          have hcmp : ((F2[0].toNat : Int) == 125) = false := by rw [hFc, hc]; rfl
          have E5 := E4.put (.slice (some ⟨g, 0, none⟩) (xs.length + 1) cap)
          clear E4 x0 x1 x2 f2
          have HE5 := hide E5
          clear E5
          go_wp2_with (go_at_call 43; refine (take_any b s F2 (q + n) 1 _ HE5.out.rd hqn hs HF2.out).mono ?_; rintro e w6 ⟨rfl, m6, r6⟩; have E6 := HE5.out.moved m6 r6; clear m6 r6; obtain ⟨x0, x1, x2⟩ := cells3 E6.par; obtain ⟨y0, y1, y2⟩ := cells3 E6.res; have f0 := E6.res.free 0; have f1 := E6.res.free 1; have f2 := E6.res.free 2)
          have hns : (xs ++ [y]).length = xs.length + 1 := by simp
          have hp6 := E6.rd.pos
          go_roundw
          case rel => exact ⟨q + n + 1, xs ++ [y], some ⟨g, 0, none⟩, cap, by omega, hqn, HT.out, HG.out, by omega, by rw [hns, specsV_snoc, Hspv.out]; exact E6⟩
          case measure => rw [hp6, hpos]; omega
        · go_simp
          go_wp2_with (go_at_call 45; refine (vany.out _ RD HE.out.rd).mono ?_; rintro e w3 ⟨rfl, mm, rr⟩; have E1 := HE.out.moved mm rr; clear mm rr)
          first | (refine hK _ _ ?_; clear hK K) | skip
          obtain ⟨x0, x1, x2⟩ := cells3 E1.par
          refine wpAny_ready (rs := [1, 4]) (by kernel_rfl) (by simp) ?_
          refine AllReady.cons rfl (fun K hK => ?_) (AllReady.cons rfl (fun K hK => ?_) AllReady.nil)
          · go_simp
            first | (refine hK _ _ ?_; clear hK K) | skip
            refine wpAny_ready (rs := [4]) (by kernel_rfl) (by simp) ?_
            refine AllReady.cons rfl (fun K hK => ?_) AllReady.nil
            go_simp
            first | (refine hK _ _ ?_; clear hK K) | skip
            refine wpAny_ready (rs := [5]) (by kernel_rfl) (by simp) ?_
            refine AllReady.cons rfl (fun K hK => ?_) AllReady.nil
            refine step_append_lies _ (by rfl) _ _ 35 (by rfl) (kp + 1) 39 i0 (.agg #[.string ⟨#[]⟩, .int .i64 0, .bool false]) 3 32 Tryd.underlying35 hi hz0 hz1 hz2 rfl (by decide) (.slice va xs.length vc) xs.length (specsV xs) (by rfl) (E1.alloc (.cells #[.string nm, .int .i64 mx, .bool st] 39)).own ⟨w3.heap.size, 0, none⟩ 1 1 [.string nm, .int .i64 mx, .bool st] (by rfl) rfl ?c1 ?c2 (by decide) ?c3 ?c4 ?c5 _ rfl ?_
            case c1 =>
              intro j u hj
              match j, hj with
              | 0, hj => simp at hj; subst hj; simp [Addr.add]
              | 1, hj => simp at hj; subst hj; simp [Addr.add]
              | 2, hj => simp at hj; subst hj; simp [Addr.add]
            case c2 => intro u hu; simp at hu; rcases hu with rfl | rfl | rfl <;> rfl
            case c3 => unfold maxLen; omega
            case c4 => omega
            case c5 => have := E1.par.lt; simp; omega
            intro g cap w4 hown hgrow hat hlt
            have E4 := (E1.alloc (.cells #[.string nm, .int .i64 mx, .bool st] 39)).grown hgrow hown
            clear hown hgrow hat hlt x0 x1 x2
            obtain ⟨x0, x1, x2⟩ := cells3 E4.par
            have f2 := E4.par.free 2
            first | (refine hK _ _ ?_; clear hK K) | skip
            refine wpAny_ready (rs := [6]) (by kernel_rfl) (by simp) ?_
            refine AllReady.cons rfl (fun K hK => ?_) AllReady.nil
            go_simp
            first | (refine hK _ _ ?_; clear hK K) | skip
            refine wpAny_ready (rs := [7]) (by kernel_rfl) (by simp) ?_
            refine AllReady.cons rfl (fun K hK => ?_) AllReady.nil
            go_simp
            first | (refine hK _ _ ?_; clear hK K) | skip
            refine wpAny_done (by kernel_rfl) ?_ _
            have hcmp : ((F2[0].toNat : Int) == 125) = false := by rw [hFc, hc]; rfl
            have E5 := E4.put (.slice (some ⟨g, 0, none⟩) (xs.length + 1) cap)
            clear E4 x0 x1 x2 f2
            have HE5 := hide E5
            clear E5
            go_wp2_with (go_at_call 43; refine (take_any b s F2 (q + n) 1 _ HE5.out.rd hqn hs HF2.out).mono ?_; rintro e w6 ⟨rfl, m6, r6⟩; have E6 := HE5.out.moved m6 r6; clear m6 r6; obtain ⟨x0, x1, x2⟩ := cells3 E6.par; obtain ⟨y0, y1, y2⟩ := cells3 E6.res; have f0 := E6.res.free 0; have f1 := E6.res.free 1; have f2 := E6.res.free 2)
            have hns : (xs ++ [y]).length = xs.length + 1 := by simp
            have hp6 := E6.rd.pos
            go_roundw
            case rel => exact ⟨q + n + 1, xs ++ [y], some ⟨g, 0, none⟩, cap, by omega, hqn, HT.out, HG.out, by omega, by rw [hns, specsV_snoc, Hspv.out]; exact E6⟩
            case measure => rw [hp6, hpos]; omega
          · go_simp
            first | (refine hK _ _ ?_; clear hK K) | skip
            clear x0 x1 x2
            obtain ⟨x0, x1, x2⟩ := cells3 (E1.alloc (.cells #[.string nm, .int .i64 mx, .bool st] 39)).par
            refine wpAny_ready (rs := [1]) (by kernel_rfl) (by simp) ?_
            refine AllReady.cons rfl (fun K hK => ?_) AllReady.nil
            go_simp
            first | (refine hK _ _ ?_; clear hK K) | skip
            refine wpAny_ready (rs := [5]) (by kernel_rfl) (by simp) ?_
            refine AllReady.cons rfl (fun K hK => ?_) AllReady.nil
            refine step_append_lies _ (by rfl) _ _ 35 (by rfl) (kp + 1) 39 i0 (.agg #[.string ⟨#[]⟩, .int .i64 0, .bool false]) 3 32 Tryd.underlying35 hi hz0 hz1 hz2 rfl (by decide) (.slice va xs.length vc) xs.length (specsV xs) (by rfl) (E1.alloc (.cells #[.string nm, .int .i64 mx, .bool st] 39)).own ⟨w3.heap.size, 0, none⟩ 1 1 [.string nm, .int .i64 mx, .bool st] (by rfl) rfl ?c1 ?c2 (by decide) ?c3 ?c4 ?c5 _ rfl ?_
            case c1 =>
              intro j u hj
              match j, hj with
              | 0, hj => simp at hj; subst hj; simp [Addr.add]
              | 1, hj => simp at hj; subst hj; simp [Addr.add]
              | 2, hj => simp at hj; subst hj; simp [Addr.add]
            case c2 => intro u hu; simp at hu; rcases hu with rfl | rfl | rfl <;> rfl
            case c3 => unfold maxLen; omega
            case c4 => omega
            case c5 => have := E1.par.lt; simp; omega
            intro g cap w4 hown hgrow hat hlt
            have E4 := (E1.alloc (.cells #[.string nm, .int .i64 mx, .bool st] 39)).grown hgrow hown
            clear hown hgrow hat hlt x0 x1 x2
            obtain ⟨x0, x1, x2⟩ := cells3 E4.par
            have f2 := E4.par.free 2
            first | (refine hK _ _ ?_; clear hK K) | skip
            refine wpAny_ready (rs := [6]) (by kernel_rfl) (by simp) ?_
            refine AllReady.cons rfl (fun K hK => ?_) AllReady.nil
            go_simp
            first | (refine hK _ _ ?_; clear hK K) | skip
            refine wpAny_ready (rs := [7]) (by kernel_rfl) (by simp) ?_
            refine AllReady.cons rfl (fun K hK => ?_) AllReady.nil
            go_simp
            first | (refine hK _ _ ?_; clear hK K) | skip
            refine wpAny_done (by kernel_rfl) ?_ _
            have hcmp : ((F2[0].toNat : Int) == 125) = false := by rw [hFc, hc]; rfl
            have E5 := E4.put (.slice (some ⟨g, 0, none⟩) (xs.length + 1) cap)
            clear E4 x0 x1 x2 f2
            have HE5 := hide E5
            clear E5
            go_wp2_with (go_at_call 43; refine (take_any b s F2 (q + n) 1 _ HE5.out.rd hqn hs HF2.out).mono ?_; rintro e w6 ⟨rfl, m6, r6⟩; have E6 := HE5.out.moved m6 r6; clear m6 r6; obtain ⟨x0, x1, x2⟩ := cells3 E6.par; obtain ⟨y0, y1, y2⟩ := cells3 E6.res; have f0 := E6.res.free 0; have f1 := E6.res.free 1; have f2 := E6.res.free 2)
            have hns : (xs ++ [y]).length = xs.length + 1 := by simp
            have hp6 := E6.rd.pos
            go_roundw
            case rel => exact ⟨q + n + 1, xs ++ [y], some ⟨g, 0, none⟩, cap, by omega, hqn, HT.out, HG.out, by omega, by rw [hns, specsV_snoc, Hspv.out]; exact E6⟩
            case measure => rw [hp6, hpos]; omega
    · obtain ⟨h1, h2⟩ := var_bad op xs r hg
      rw [h1] at hT
      rw [h2] at hG
      have vany : Hid (∀ W, Rans W → Rd W b s q → Calls Tryd.prog 45 #[.pointer (some ⟨b, 0, none⟩)] W fun e w' => e = fault G ∧ Mv b W w') := by
        intro W RW hW
        refine (hv W RW hW).mono ?_
        rintro e w' ⟨m, he⟩
        rw [if_neg hg] at he
        exact ⟨by rw [he, hG], m⟩
      have HT := hide hT
      have HE := hide E.drew
      have RD := R.next (B0.trans (E.mv.drew.bel.mono h0))
      clear hv hT hG h1 h2 hg E
      go_wp2
      refine wp_region_any (by kernel_rfl) ?_
      change wpAny _ _ _ _ _ _ _ (World.drew _)
      refine wpAny_take (i := 0) (v := ?_) rfl (by kernel_rfl) (by kernel_rfl) (by kernel_rfl) (fun _ _ _ h => h) (Or.inl ⟨by rfl, ?_⟩) ?_
      rotate_left
      · intro w; go_simp; try with_reducible rfl
      refine wpAny_take (i := 2) (v := ?_) rfl (by kernel_rfl) (by kernel_rfl) (by kernel_rfl) (fun _ _ _ h => h) (Or.inl ⟨by rfl, ?_⟩) ?_
      rotate_left
      · intro w; go_simp; try with_reducible rfl
      refine wpAny_ready (rs := [1, 3]) (by kernel_rfl) (by simp) ?_
      refine AllReady.cons rfl (fun K hK => ?_) (AllReady.cons rfl (fun K hK => ?_) AllReady.nil)
      · go_simp
        refine hK _ _ ?_
        clear hK K
        refine wpAny_ready (rs := [3]) (by kernel_rfl) (by simp) ?_
        refine AllReady.cons rfl (fun K hK => ?_) AllReady.nil
        go_simp
        go_wp2_with (go_at_call 45; refine (vany.out _ RD HE.out.rd).mono ?_; rintro e w1 ⟨he, mm⟩; unfold fault at he; subst he)
        exact ⟨rfl, HE.out.mv.trans mm, .inl ⟨HT.out, rfl⟩⟩
      · go_simp
        go_wp2_with (go_at_call 45; refine (vany.out _ RD HE.out.rd).mono ?_; rintro e w1 ⟨he, mm⟩; unfold fault at he; subst he)
        exact ⟨rfl, HE.out.mv.trans mm, .inl ⟨HT.out, rfl⟩⟩
end Go.Proofs.YtjbnofljoijnmaaDoor
