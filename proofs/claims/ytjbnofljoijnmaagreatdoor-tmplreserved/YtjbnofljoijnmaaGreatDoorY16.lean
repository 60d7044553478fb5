/-
  Joined by program out of the texts A10.
-/
import Derived.Test.YtjbnofljoijnmaaGreatDoorY15
import Derived.Test.YtjbnofljoijnmaaGreatDoorW5
/-
  Rows of structs; WALKS: the reference's inside.
-/
namespace Go.Proofs.YtjbnofljoijnmaaGreatDoor
open Go.RowKit Go.Lib

theorem three_at {α : Type} (f : α → List Value) (hf : ∀ a, (f a).length = 3) : ∀ (xs : List α) (k j : Nat) (h : k < xs.length), j < 3 → (xs.flatMap f)[k * 3 + j]? = (f xs[k])[j]? := by
  intro xs
  induction xs with
  | nil => intro k j h; simp at h
  | cons x xs ih =>
    intro k j h hj
    rw [List.flatMap_cons]
    cases k with
    | zero =>
      rw [Nat.zero_mul, Nat.zero_add, List.getElem?_append_left (by rw [hf]; exact hj)]; rfl
    | succ k =>
      rw [List.getElem?_append_right (by rw [hf]; omega), hf, show (k + 1) * 3 + j - 3 = k * 3 + j by omega]
      exact ih k j (by simpa using h) hj
def spV (y : Sp) : List Value := [.string ⟨y.name.toArray⟩, .int .i64 y.max, .bool y.star]
def specsV (xs : List Sp) : List Value := xs.flatMap spV
theorem specsV_len (xs : List Sp) : (specsV xs).length = xs.length * 3 := by
  induction xs with
  | nil => rfl
  | cons x xs ih =>
    show (spV x ++ specsV xs).length = _
    rw [List.length_append, ih, List.length_cons]
    show 3 + xs.length * 3 = _
    omega
theorem specsV_snoc (xs : List Sp) (y : Sp) : specsV (xs ++ [y]) = specsV xs ++ spV y := by simp [specsV]
theorem SpecsAt.of_owns {w : World} {base : Nat} {v : Value} {xs : List Sp} (h : w.ownsRow base 45 3 v xs.length (specsV xs)) : SpecsAt w v xs := by
  have h' := h
  rcases h.2 with ⟨rfl, h0⟩ | ⟨g, cap, cur, rfl, _, hg, hn, hm, hs, ht⟩
  · exact .inl ⟨List.eq_nil_of_length_eq_zero h0, _, _, rfl⟩
  · by_cases hp : 0 < xs.length
    · refine .inr ⟨hp, g, 0, cap, rfl, fun k hk => ?_⟩
      rw [Nat.zero_add]
      have e0 := h'.cellAt (k * 3 + 0) (by omega)
      have e1 := h'.cellAt (k * 3 + 1) (by omega)
      have e2 := h'.cellAt (k * 3 + 2) (by omega)
      unfold specsV at e0 e1 e2
      rw [three_at spV (fun _ => rfl) xs k _ hk (by omega)] at e0 e1 e2
      exact ⟨e0, e1, e2⟩
    · have : xs = [] := List.eq_nil_of_length_eq_zero (by omega)
      subst this
      exact .inl ⟨rfl, _, _, rfl⟩
theorem info47 : (Tryz.prog.info? 45).map (fun i => (i.zero, i.size, i.bytes)) = some (some (.agg #[.string ⟨#[]⟩, .int .i64 0, .bool false]), 3, 32) := by kernel_rfl
theorem head_some {s : ByteArray} (h : 0 < s.size) : headOp s.data.toList = if opB s[0] then (s[0], s.data.toList.drop 1) else (0, s.data.toList) := by
  conv => lhs; rw [list_one s h]
  rw [headOp_cons, ← list_one s h]
/-- the block in which variables lie is of their type -/
def TySp (w : World) (v : Value) : Prop := ∀ a n c, v = .slice (some a) n c → ∃ cur fr, w.heap[a.block]? = some (.cells cur 45 fr)
theorem TySp.later {w w' : World} {v : Value} (h : TySp w v) (hb : Below w.heap.size w w') : TySp w' v := by
  intro a n c e
  obtain ⟨cur, fr, hc⟩ := h a n c e
  exact ⟨cur, fr, (hb.block _ (lt_of_block hc)).trans hc⟩
theorem TySp.none (w : World) : TySp w (.slice none 0 0) := by intro a n c e; cases e
theorem TySp.of_owns {w : World} {base z : Nat} {v : Value} {n : Nat} {xs : List Value} (h : w.ownsRow base 45 z v n xs) : TySp w v := by
  intro a m c e
  rcases h.2 with ⟨rfl, _⟩ | ⟨g, cap, cur, rfl, _, hg, _⟩
  · cases e
  · cases e; exact ⟨cur, (0, 0), hg⟩
/-- inside's answer -/
def InsPost (w : World) (o : Option Pt) (e : Ending) (w' : World) : Prop :=
  Below w.heap.size w w' ∧ match o with
  | some x => ∃ sv, e = .returned (.tuple #[.agg #[.string ⟨x.lit.toArray⟩, .int .u8 x.op.toNat, sv], .bool true]) ∧ SpecsAt w' sv x.specs ∧ TySp w' sv
  | none => e = .returned (.tuple #[.agg #[.string ⟨#[]⟩, .int .u8 0, .slice none 0 0], .bool false])
theorem own_put {W : World} {base : Nat} {v : Value} {n : Nat} {xs : List Value} {t : TypeId} {z b j : Nat} {u : Value} (h : W.ownsRow base t z v n xs) (hb : b < base) : (W.setCell ⟨b, j, none⟩ u).ownsRow base t z v n xs := by
  refine ⟨h.1, ?_⟩
  rcases h.2 with ⟨rfl, h0⟩ | ⟨g, cap, cur, rfl, h1, hg, hn, hm, hs, ht⟩
  · exact .inl ⟨rfl, h0⟩
  · have hne : g ≠ b := by omega
    exact .inr ⟨g, cap, cur, rfl, h1, by rw [heap_setCell_other _ _ _ _ hne]; exact hg, hn, hm, hs, ht⟩
theorem goC_at {R : ByteArray} {rl : List UInt8} (h : R.data.toList = rl) (k : Nat) (hk : k < R.size) (one : List UInt8) : goC one (rl.drop k) = if R[k] = 44 then one :: goC [] (rl.drop (k + 1)) else goC (one ++ [R[k]]) (rl.drop (k + 1)) := by
  have hl : k < rl.length := by rw [← h, ← size_list]; exact hk
  have e : rl[k] = R[k] := by subst h; rfl
  rw [List.drop_eq_getElem_cons hl, goC_cons, e]
theorem goC_end {R : ByteArray} {rl : List UInt8} (h : R.data.toList = rl) (one : List UInt8) : goC one (rl.drop R.size) = [one] := by
  rw [List.drop_eq_nil_of_le (by rw [← h, ← size_list]; exact Nat.le_refl _)]; rfl
theorem len_goC (one l : List UInt8) : (goC one l).length ≤ l.length + 1 := by
  induction l generalizing one with
  | nil => simp [goC]
  | cons a t ih =>
    rw [goC_cons]
    split
    · have := ih []; simp; omega
    · have := ih (one ++ [a]); simp; omega
set_option maxRecDepth 20000 in
set_option maxHeartbeats 4000000 in
theorem ins_any (s : ByteArray) (w : World) (hs : s.size ≤ 100000) : Calls Tryz.prog 44 #[.string s] w fun e w' => InsPost w (insT s.data.toList) e w' := by
  obtain ⟨i0, hi, hz0, hz1, hz2⟩ := info_parts info47
  have start : ∃ (R : ByteArray) (c : Int), R.data.toList = (headOp s.data.toList).2 ∧ ((headOp s.data.toList).1.toNat : Int) = c ∧ R.size ≤ s.size ∧
      ((∃ h : 0 < s.size, opB s[0] = true ∧ s.extract 1 s.size = R ∧ c = (s[0].toNat : Int)) ∨ (∃ h : 0 < s.size, s[0] ≠ 0 ∧ operB s[0] = false ∧ s = R ∧ c = 0) ∨ (∃ h : 0 < s.size, s[0] = 0 ∧ s = R ∧ c = 0) ∨ (¬ 0 < s.size ∧ s = R ∧ c = 0)) := by
    by_cases h0 : 0 < s.size
    · have hh := head_some h0
      cases ho : opB s[0] with
      | true =>
        rw [if_pos ho] at hh
        refine ⟨s.extract 1 s.size, _, by rw [hh, cut_list], rfl, by simp, .inl ⟨h0, ho, rfl, by rw [hh]⟩⟩
      | false =>
        rw [if_neg (by rw [ho]; decide)] at hh
        refine ⟨s, 0, by rw [hh], by rw [hh]; rfl, Nat.le_refl _, ?_⟩
        by_cases hz : s[0] = 0
        · exact .inr (.inr (.inl ⟨h0, hz, rfl, rfl⟩))
        · refine .inr (.inl ⟨h0, hz, ?_, rfl, rfl⟩)
          unfold operB; rw [ho]; simp [hz]
    · have : headOp s.data.toList = (0, []) := by rw [list_none s h0]; rfl
      exact ⟨s, 0, by rw [this, list_none s h0], by rw [this]; rfl, Nat.le_refl _, .inr (.inr (.inr ⟨h0, rfl, rfl⟩))⟩
  obtain ⟨R, c, hRl, hc, hRs, hcase⟩ := start
  obtain ⟨rl, erl⟩ : ∃ rl, (headOp s.data.toList).2 = rl := ⟨_, rfl⟩
  obtain ⟨op, eop⟩ : ∃ op, (headOp s.data.toList).1 = op := ⟨_, rfl⟩
  obtain ⟨res, eres⟩ : ∃ res, insT s.data.toList = res := ⟨_, rfl⟩
  have hres : (if (goC [] rl).all isX then some (⟨[], op, (goC [] rl).map specX⟩ : Pt) else none) = res := by rw [← eres, ← erl, ← eop]; rfl
  rw [eres]
  rw [erl] at hRl
  rw [eop] at hc
  have HRl := hide hRl
  have Hc := hide hc
  have Hres := hide hres
  clear hRl hc erl eop eres hres
  rcases hcase with hA | hA | hA | hA
  · obtain ⟨h0, ho, hR, hcc⟩ := hA
    have hE := eq_some s h0
    have hz : ((s[0].toNat : Int) != 0) = true := by
      have : s[0].toNat ≠ 0 := fun e => (op_dead ho).2.1 (UInt8.toNat_inj.1 e)
      simp; omega
    have hob2 : operB s[0] = true := by unfold operB; rw [ho]; simp
    have Hob2 := hide hob2
    have Hcc := hide hcc
    clear hob2 ho hcc
    go_enter Tryz.func44, Tryz.ntmps44
    go_wp2_with (go_at_call 21; refine (roper_is s[0] true _ Hob2.out).mono ?_; rintro e w1 ⟨rfl, hw⟩; rw [hw]; clear hw)
    rw [← Hcc.out]
    clear Hcc hz hE hR
    have BB : Below w.heap.size w ((w.alloc (.cells #[.string ⟨#[]⟩, .int .u8 0, .slice none 0 0] 43)).alloc (.cells #[.string ⟨#[]⟩, .int .u8 c, .slice none 0 0] 43)) := ((Below.refl _ _).alloc (Nat.le_refl _) _).alloc (by simp) _
    have X0 : Bx ((w.alloc (.cells #[.string ⟨#[]⟩, .int .u8 0, .slice none 0 0] 43)).alloc (.cells #[.string ⟨#[]⟩, .int .u8 c, .slice none 0 0] 43)) w.heap.size #[.string ⟨#[]⟩, .int .u8 0, .slice none 0 0] 43 := (Bx.made _ _ _).later _
    have X1 : Bx ((w.alloc (.cells #[.string ⟨#[]⟩, .int .u8 0, .slice none 0 0] 43)).alloc (.cells #[.string ⟨#[]⟩, .int .u8 c, .slice none 0 0] 43)) (w.heap.size + 1) #[.string ⟨#[]⟩, .int .u8 c, .slice none 0 0] 43 := by
      have := Bx.made (w.alloc (.cells #[.string ⟨#[]⟩, .int .u8 0, .slice none 0 0] 43)) #[.string ⟨#[]⟩, .int .u8 c, .slice none 0 0] 43
      rwa [show (w.alloc (.cells #[.string ⟨#[]⟩, .int .u8 0, .slice none 0 0] 43)).heap.size = w.heap.size + 1 by simp] at this
    go_loopw [5, 6] (fun one i wr => ∃ (k : Nat) (O : ByteArray) (done : List (List UInt8)) (va : Option Addr) (vc : Nat), i = .int .i64 k ∧ one = .string O ∧ O.size ≤ k ∧ done.length ≤ k ∧ (k ≤ R.size ∧ goC [] rl = done ++ goC O.data.toList (rl.drop k) ∨ k = R.size + 1 ∧ goC [] rl = done) ∧ done.all isX = true ∧ Below w.heap.size w wr ∧ Bx wr w.heap.size #[.string ⟨#[]⟩, .int .u8 0, .slice none 0 0] 43 ∧ Bx wr (w.heap.size + 1) #[.string ⟨#[]⟩, .int .u8 c, .slice va done.length vc] 43 ∧ wr.ownsRow (w.heap.size + 2) 45 3 (.slice va done.length vc) done.length (specsV (done.map specX))) (fun _ i _ => R.size + 1 - (intOf i).toNat)
    case atStart => exact ⟨0, ⟨#[]⟩, [], none, 0, rfl, rfl, Nat.le_refl _, Nat.le_refl _, .inl ⟨Nat.zero_le _, by simp⟩, rfl, BB, X0, X1, World.ownsRow_nil _ _ _ _⟩
    case round =>
      obtain ⟨k, O, done, va, vc, rfl, rfl, hO, hd, hdis, hall, hB, X0, X1, hown⟩ := hrel
      have x10 := X1.cell 0 (.string ⟨#[]⟩) rfl
      have x11 := X1.cell 1 (.int .u8 c) rfl
      have x12 := X1.cell 2 (.slice va done.length vc) rfl
      by_cases hkR : k ≤ R.size
      · have hg : goC [] rl = done ++ goC O.data.toList (rl.drop k) := by
          rcases hdis with h | h
          · exact h.2
          · omega
        by_cases hA : ∃ h : k < R.size, R[k] ≠ 44
        · obtain ⟨hlt, h44⟩ := hA
          have hne : ((R[k].toNat : Int) != 44) = true := by
            have : R[k].toNat ≠ 44 := fun e => h44 (UInt8.toNat_inj.1 e)
            simp; omega
          have hml := mid_list R k hlt
          have hms : (R.extract k (k + 1)).size = 1 := by rw [size_list, hml]; rfl
          have a1 := str_add O (R.extract k (k + 1)) (by rw [hms]; unfold maxLen; omega)
          obtain ⟨O1, hO1⟩ : ∃ O1, O ++ R.extract k (k + 1) = O1 := ⟨_, rfl⟩
          have hO1l : O1.data.toList = O.data.toList ++ [R[k]] := by rw [← hO1, app_list, hml]
          have hO1s : O1.size ≤ k + 1 := by rw [← hO1, ByteArray.size_append, hms]; omega
          have hg1 : goC [] rl = done ++ goC O1.data.toList (rl.drop (k + 1)) := by rw [hg, goC_at HRl.out k hlt, if_neg h44, hO1l]
          rw [hO1] at a1
          have HG := hide hg1
          have HX0 := hide X0
          have HX1 := hide X1
          have Hown := hide hown
          clear hg hg1 hdis h44 hml hms hO1 hO1l X0 X1 hown
          go_wp2
          go_roundw
          case rel => exact ⟨k + 1, O1, done, va, vc, by go_num, rfl, hO1s, by omega, .inl ⟨by omega, HG.out⟩, hall, hB, HX0.out, HX1.out, Hown.out⟩
          case measure => simp [intOf]; omega
        · have hnext : ((k + 1 ≤ R.size ∧ goC [] rl = (done ++ [O.data.toList]) ++ goC [] (rl.drop (k + 1))) ∨ (k + 1 = R.size + 1 ∧ goC [] rl = done ++ [O.data.toList])) ∧ O.data.toList ∈ goC [] rl := by
            by_cases hlt : k < R.size
            · have h44 : R[k] = 44 := by
                apply Classical.byContradiction
                intro h; exact hA ⟨hlt, h⟩
              have e := goC_at HRl.out k hlt O.data.toList
              rw [if_pos h44] at e
              rw [hg, e]
              exact ⟨.inl ⟨by omega, by simp⟩, by simp⟩
            · have hke : k = R.size := by omega
              rw [hke, goC_end HRl.out] at hg
              rw [hg]
              exact ⟨.inr ⟨by omega, rfl⟩, by simp⟩
          obtain ⟨NM, hNM⟩ : ∃ x, nmX O = x := ⟨_, rfl⟩
          obtain ⟨MX, hMX⟩ : ∃ x, (specX O.data.toList).max = x := ⟨_, rfl⟩
          obtain ⟨ST, hST⟩ : ∃ x, (specX O.data.toList).star = x := ⟨_, rfl⟩
          obtain ⟨b, hb⟩ : ∃ b, isX O.data.toList = b := ⟨_, rfl⟩
          have hsp : spV (specX O.data.toList) = [.string NM, .int .i64 MX, .bool ST] := by
            have e := spX O
            rw [← e, hNM, hMX, hST]; rfl
          have HN := hide hNM
          have HMX := hide hMX
          have HST := hide hST
          have HIS := hide hb
          have Hnext := hide hnext
          have HX0 := hide X0
          have HX1 := hide X1
          have Hown := hide hown
          have Hsp := hide hsp
          have Hall := hide hall
          by_cases hlt : k < R.size
          · have h44 : R[k] = 44 := by
              apply Classical.byContradiction
              intro h; exact hA ⟨hlt, h⟩
            have hne : ((R[k].toNat : Int) != 44) = false := by simp [h44]
            clear hnext hNM hMX hST hb hsp X0 X1 hown hall hg hdis hA h44
            cases b
            · have hr : res = none := by
                rw [← Hres.out, if_neg]
                intro h
                have := List.all_eq_true.1 h _ Hnext.out.2
                rw [HIS.out] at this; cases this
              have Hr := hide hr
              clear hr
              go_wp2_with (go_at_call 63; refine (ris_is O NM MX ST false _ (by omega) HN.out HMX.out HST.out HIS.out).mono ?_; rintro e w2 ⟨rfl, bb⟩; have Y0 := HX0.out.next bb; have Y1 := HX1.out.next bb; have y0 := Y0.cell 0 (.string ⟨#[]⟩) rfl; have y1 := Y0.cell 1 (.int .u8 0) rfl; have y2 := Y0.cell 2 (.slice none 0 0) rfl; have z2 := Y1.cell 2 (.slice va done.length vc) rfl; have fy := Y0.free; have fz := Y1.free; have lt0 := Y0.lt; have lt1 := Y1.lt)
              have Z := (((Y0.put 0 (.string ⟨#[]⟩)).put 1 (.int .u8 0)).put 2 (.slice none 0 0)).later (.cells #[.string NM, .int .i64 MX, .bool ST] 45)
              have hB1 := hB.trans (bb.mono hB.size)
              have hB2 := (((hB1.setCell (p := ⟨w.heap.size, 0, none⟩) (Nat.le_refl _) (.string ⟨#[]⟩)).setCell (p := ⟨w.heap.size, 1, none⟩) (Nat.le_refl _) (.int .u8 0)).setCell (p := ⟨w.heap.size, 2, none⟩) (Nat.le_refl _) (.slice none 0 0)).alloc (by simp; omega) (.cells #[.string NM, .int .i64 MX, .bool ST] 45)
              refine bodyPost_ret (v := .tuple #[.agg #[.string ⟨#[]⟩, .int .u8 0, .slice none 0 0], .bool false]) (ret_cell_tmp Tryz.results44 _ _ rfl Z Tryz.underlying43 rfl (by kernel_rfl)) rfl ⟨hB2, ?_⟩
              rw [Hr.out]
            · go_wp2_with (first | (go_at_call 63; refine (ris_is O NM MX ST true _ (by omega) HN.out HMX.out HST.out HIS.out).mono ?_; rintro e w2 ⟨rfl, bb⟩; have Y0 := HX0.out.next bb; have Y1 := HX1.out.next bb; have y0 := Y0.cell 0 (.string ⟨#[]⟩) rfl; have y1 := Y0.cell 1 (.int .u8 0) rfl; have y2 := Y0.cell 2 (.slice none 0 0) rfl; have z2 := Y1.cell 2 (.slice va done.length vc) rfl; have fy := Y0.free; have fz := Y1.free; have lt0 := Y0.lt; have lt1 := Y1.lt) | (at_builtin; refine wpList_append_own _ rfl _ _ 41 rfl (w.heap.size + 2) 45 i0 (.agg #[.string ⟨#[]⟩, .int .i64 0, .bool false]) 3 32 Tryz.underlying41 hi hz0 hz1 hz2 rfl (by decide) _ _ _ rfl (((own_later Hown.out bb).alloc _).alloc _) ⟨w2.heap.size + 1, 0, none⟩ 1 1 [.string NM, .int .i64 MX, .bool ST] rfl rfl ?c1 ?c2 ?c3 ?c4 ?c5 ?_))
              case c1 =>
                intro j u hj
                match j, hj with
                | 0, hj => simp at hj; subst hj; simp [Addr.add]
                | 1, hj => simp at hj; subst hj; simp [Addr.add]
                | 2, hj => simp at hj; subst hj; simp [Addr.add]
              case c2 => intro u hu; simp at hu; rcases hu with rfl | rfl | rfl <;> rfl
              case c3 => unfold maxLen; omega
              case c4 => omega
              case c5 => have h8 := hB.size; have h9 := bb.size; simp; omega
              · intro v' w4 hown' hgrow _
                have hB1 := hB.trans (bb.mono hB.size)
                have h9 := hB1.size
                have hB2 := (hB1.alloc hB1.size (.cells #[.string NM, .int .i64 MX, .bool ST] 45)).alloc (by simp; omega) (.cells #[.string NM, .int .i64 MX, .bool ST] 45)
                have hlo : ∀ j, (Value.slice va done.length vc).ownBlock = some j → w.heap.size + 2 ≤ j := fun j hj => ((own_later Hown.out bb).lt j hj).1
                have hB4 := hB2.grown hgrow (by simp; omega) (fun j hj => by have := hlo j hj; omega)
                have V0 : Bx w4 w.heap.size #[.string ⟨#[]⟩, .int .u8 0, .slice none 0 0] 43 := (hgrow.block w.heap.size (by simp; omega) (fun h => by have := hlo _ h.symm; omega)).trans ((Y0.later _).later _)
                have V1 : Bx w4 (w.heap.size + 1) #[.string ⟨#[]⟩, .int .u8 c, .slice va done.length vc] 43 := (hgrow.block (w.heap.size + 1) (by simp; omega) (fun h => by have := hlo _ h.symm; omega)).trans ((Y1.later _).later _)
                have hvs' : ∃ a c', v' = .slice (some ⟨a, 0, none⟩) (done.length + 1) c' := by
                  rcases hown'.2 with ⟨_, h⟩ | ⟨g, cap, cur, rfl, _⟩
                  · omega
                  · exact ⟨_, _, rfl⟩
                obtain ⟨va', vc', hv'⟩ := hvs'
                rw [hv'] at hown' ⊢
                have v12 := V1.cell 2 (.slice va done.length vc) rfl
                have fv := V1.free
                have hown5 := own_put (j := 2) (u := .slice (some ⟨va', 0, none⟩) (done.length + 1) vc') hown' (show w.heap.size + 1 < w.heap.size + 2 by omega)
                have V1' := V1.put 2 (.slice (some ⟨va', 0, none⟩) (done.length + 1) vc')
                have V0' := V0.other (k := w.heap.size + 1) (by omega) 2 (.slice (some ⟨va', 0, none⟩) (done.length + 1) vc')
                have hB5 := hB4.setCell (p := ⟨w.heap.size + 1, 2, none⟩) (by simp) (.slice (some ⟨va', 0, none⟩) (done.length + 1) vc')
                have Hown5 := hide hown5
                have HV1 := hide V1'
                have HV0 := hide V0'
                clear hown' hgrow hv' hown5 V1' V0' V0 V1 hB2 hB4 hlo Y0 Y1 y0 y1 y2 z2 fy fz
                go_wp2
                go_roundw
                case rel => exact ⟨k + 1, ⟨#[]⟩, done ++ [O.data.toList], some ⟨va', 0, none⟩, vc', by go_num, rfl, by simp [ByteArray.size], by simp; omega, Hnext.out.1, by simp [List.all_append, Hall.out, HIS.out], hB5, HV0.out, by rw [List.length_append]; exact HV1.out, by rw [List.length_append, List.map_append, List.map_cons, List.map_nil, specsV_snoc, Hsp.out]; exact Hown5.out⟩
                case measure => simp [intOf]; omega
          · clear hnext hNM hMX hST hb hsp X0 X1 hown hall hg hdis hA
            cases b
            · have hr : res = none := by
                rw [← Hres.out, if_neg]
                intro h
                have := List.all_eq_true.1 h _ Hnext.out.2
                rw [HIS.out] at this; cases this
              have Hr := hide hr
              clear hr
              go_wp2_with (go_at_call 63; refine (ris_is O NM MX ST false _ (by omega) HN.out HMX.out HST.out HIS.out).mono ?_; rintro e w2 ⟨rfl, bb⟩; have Y0 := HX0.out.next bb; have Y1 := HX1.out.next bb; have y0 := Y0.cell 0 (.string ⟨#[]⟩) rfl; have y1 := Y0.cell 1 (.int .u8 0) rfl; have y2 := Y0.cell 2 (.slice none 0 0) rfl; have z2 := Y1.cell 2 (.slice va done.length vc) rfl; have fy := Y0.free; have fz := Y1.free; have lt0 := Y0.lt; have lt1 := Y1.lt)
              have Z := (((Y0.put 0 (.string ⟨#[]⟩)).put 1 (.int .u8 0)).put 2 (.slice none 0 0)).later (.cells #[.string NM, .int .i64 MX, .bool ST] 45)
              have hB1 := hB.trans (bb.mono hB.size)
              have hB2 := (((hB1.setCell (p := ⟨w.heap.size, 0, none⟩) (Nat.le_refl _) (.string ⟨#[]⟩)).setCell (p := ⟨w.heap.size, 1, none⟩) (Nat.le_refl _) (.int .u8 0)).setCell (p := ⟨w.heap.size, 2, none⟩) (Nat.le_refl _) (.slice none 0 0)).alloc (by simp; omega) (.cells #[.string NM, .int .i64 MX, .bool ST] 45)
              refine bodyPost_ret (v := .tuple #[.agg #[.string ⟨#[]⟩, .int .u8 0, .slice none 0 0], .bool false]) (ret_cell_tmp Tryz.results44 _ _ rfl Z Tryz.underlying43 rfl (by kernel_rfl)) rfl ⟨hB2, ?_⟩
              rw [Hr.out]
            · go_wp2_with (first | (go_at_call 63; refine (ris_is O NM MX ST true _ (by omega) HN.out HMX.out HST.out HIS.out).mono ?_; rintro e w2 ⟨rfl, bb⟩; have Y0 := HX0.out.next bb; have Y1 := HX1.out.next bb; have y0 := Y0.cell 0 (.string ⟨#[]⟩) rfl; have y1 := Y0.cell 1 (.int .u8 0) rfl; have y2 := Y0.cell 2 (.slice none 0 0) rfl; have z2 := Y1.cell 2 (.slice va done.length vc) rfl; have fy := Y0.free; have fz := Y1.free; have lt0 := Y0.lt; have lt1 := Y1.lt) | (at_builtin; refine wpList_append_own _ rfl _ _ 41 rfl (w.heap.size + 2) 45 i0 (.agg #[.string ⟨#[]⟩, .int .i64 0, .bool false]) 3 32 Tryz.underlying41 hi hz0 hz1 hz2 rfl (by decide) _ _ _ rfl (((own_later Hown.out bb).alloc _).alloc _) ⟨w2.heap.size + 1, 0, none⟩ 1 1 [.string NM, .int .i64 MX, .bool ST] rfl rfl ?c1 ?c2 ?c3 ?c4 ?c5 ?_))
              case c1 =>
                intro j u hj
                match j, hj with
                | 0, hj => simp at hj; subst hj; simp [Addr.add]
                | 1, hj => simp at hj; subst hj; simp [Addr.add]
                | 2, hj => simp at hj; subst hj; simp [Addr.add]
              case c2 => intro u hu; simp at hu; rcases hu with rfl | rfl | rfl <;> rfl
              case c3 => unfold maxLen; omega
              case c4 => omega
              case c5 => have h8 := hB.size; have h9 := bb.size; simp; omega
              · intro v' w4 hown' hgrow _
                have hB1 := hB.trans (bb.mono hB.size)
                have h9 := hB1.size
                have hB2 := (hB1.alloc hB1.size (.cells #[.string NM, .int .i64 MX, .bool ST] 45)).alloc (by simp; omega) (.cells #[.string NM, .int .i64 MX, .bool ST] 45)
                have hlo : ∀ j, (Value.slice va done.length vc).ownBlock = some j → w.heap.size + 2 ≤ j := fun j hj => ((own_later Hown.out bb).lt j hj).1
                have hB4 := hB2.grown hgrow (by simp; omega) (fun j hj => by have := hlo j hj; omega)
                have V0 : Bx w4 w.heap.size #[.string ⟨#[]⟩, .int .u8 0, .slice none 0 0] 43 := (hgrow.block w.heap.size (by simp; omega) (fun h => by have := hlo _ h.symm; omega)).trans ((Y0.later _).later _)
                have V1 : Bx w4 (w.heap.size + 1) #[.string ⟨#[]⟩, .int .u8 c, .slice va done.length vc] 43 := (hgrow.block (w.heap.size + 1) (by simp; omega) (fun h => by have := hlo _ h.symm; omega)).trans ((Y1.later _).later _)
                have hvs' : ∃ a c', v' = .slice (some ⟨a, 0, none⟩) (done.length + 1) c' := by
                  rcases hown'.2 with ⟨_, h⟩ | ⟨g, cap, cur, rfl, _⟩
                  · omega
                  · exact ⟨_, _, rfl⟩
                obtain ⟨va', vc', hv'⟩ := hvs'
                rw [hv'] at hown' ⊢
                have v12 := V1.cell 2 (.slice va done.length vc) rfl
                have fv := V1.free
                have hown5 := own_put (j := 2) (u := .slice (some ⟨va', 0, none⟩) (done.length + 1) vc') hown' (show w.heap.size + 1 < w.heap.size + 2 by omega)
                have V1' := V1.put 2 (.slice (some ⟨va', 0, none⟩) (done.length + 1) vc')
                have V0' := V0.other (k := w.heap.size + 1) (by omega) 2 (.slice (some ⟨va', 0, none⟩) (done.length + 1) vc')
                have hB5 := hB4.setCell (p := ⟨w.heap.size + 1, 2, none⟩) (by simp) (.slice (some ⟨va', 0, none⟩) (done.length + 1) vc')
                have Hown5 := hide hown5
                have HV1 := hide V1'
                have HV0 := hide V0'
                clear hown' hgrow hv' hown5 V1' V0' V0 V1 hB2 hB4 hlo Y0 Y1 y0 y1 y2 z2 fy fz
                go_wp2
                go_roundw
                case rel => exact ⟨k + 1, ⟨#[]⟩, done ++ [O.data.toList], some ⟨va', 0, none⟩, vc', by go_num, rfl, by simp [ByteArray.size], by simp; omega, Hnext.out.1, by simp [List.all_append, Hall.out, HIS.out], hB5, HV0.out, by rw [List.length_append]; exact HV1.out, by rw [List.length_append, List.map_append, List.map_cons, List.map_nil, specsV_snoc, Hsp.out]; exact Hown5.out⟩
                case measure => simp [intOf]; omega
      · have hke : k = R.size + 1 := by omega
        have hg : goC [] rl = done := by
          rcases hdis with h | h
          · omega
          · exact h.2
        have hr : res = some ⟨[], op, done.map specX⟩ := by
          rw [← Hres.out, hg, if_pos hall]
        have Hown := hide hown
        have HX0 := hide X0
        have Hr := hide hr
        have f0 := X0.free
        have x00 := X0.cell 0 (.string ⟨#[]⟩) rfl
        have x01 := X0.cell 1 (.int .u8 0) rfl
        have x02 := X0.cell 2 (.slice none 0 0) rfl
        clear hg hr hdis hall hown X0
        go_wp2
        have Z := ((HX0.out.put 0 (.string ⟨#[]⟩)).put 1 (.int .u8 c)).put 2 (.slice va done.length vc)
        have hB2 := ((hB.setCell (p := ⟨w.heap.size, 0, none⟩) (Nat.le_refl _) (.string ⟨#[]⟩)).setCell (p := ⟨w.heap.size, 1, none⟩) (Nat.le_refl _) (.int .u8 c)).setCell (p := ⟨w.heap.size, 2, none⟩) (Nat.le_refl _) (.slice va done.length vc)
        refine bodyPost_ret (v := .tuple #[.agg #[.string ⟨#[]⟩, .int .u8 c, .slice va done.length vc], .bool true]) (ret_cell_tmp Tryz.results44 _ _ rfl Z Tryz.underlying43 rfl (by kernel_rfl)) rfl ⟨hB2, ?_⟩
        rw [Hr.out]
        refine ⟨.slice va done.length vc, by rw [Hc.out], ?_⟩
        have h3 := own_put (b := w.heap.size) (j := 2) (u := .slice va done.length vc) (own_put (b := w.heap.size) (j := 1) (u := .int .u8 c) (own_put (b := w.heap.size) (j := 0) (u := .string ⟨#[]⟩) Hown.out (by omega)) (by omega)) (by omega)
        exact ⟨SpecsAt.of_owns (xs := done.map specX) (by rw [List.length_map]; exact h3), TySp.of_owns h3⟩
  · obtain ⟨h0, hzz, ho, hR, hcc⟩ := hA
    subst hR
    subst hcc
    have hE := eq_some s h0
    have hz : ((s[0].toNat : Int) != 0) = true := by
      have : s[0].toNat ≠ 0 := fun e => hzz (UInt8.toNat_inj.1 e)
      simp; omega
    have Hob2 := hide ho
    clear ho hzz
    go_enter Tryz.func44, Tryz.ntmps44
    go_wp2_with (go_at_call 21; refine (roper_is s[0] false _ Hob2.out).mono ?_; rintro e w1 ⟨rfl, hw⟩; rw [hw]; clear hw)
    clear hz hE
    have BB : Below w.heap.size w ((w.alloc (.cells #[.string ⟨#[]⟩, .int .u8 0, .slice none 0 0] 43)).alloc (.cells #[.string ⟨#[]⟩, .int .u8 0, .slice none 0 0] 43)) := ((Below.refl _ _).alloc (Nat.le_refl _) _).alloc (by simp) _
    have X0 : Bx ((w.alloc (.cells #[.string ⟨#[]⟩, .int .u8 0, .slice none 0 0] 43)).alloc (.cells #[.string ⟨#[]⟩, .int .u8 0, .slice none 0 0] 43)) w.heap.size #[.string ⟨#[]⟩, .int .u8 0, .slice none 0 0] 43 := (Bx.made _ _ _).later _
    have X1 : Bx ((w.alloc (.cells #[.string ⟨#[]⟩, .int .u8 0, .slice none 0 0] 43)).alloc (.cells #[.string ⟨#[]⟩, .int .u8 0, .slice none 0 0] 43)) (w.heap.size + 1) #[.string ⟨#[]⟩, .int .u8 0, .slice none 0 0] 43 := by
      have := Bx.made (w.alloc (.cells #[.string ⟨#[]⟩, .int .u8 0, .slice none 0 0] 43)) #[.string ⟨#[]⟩, .int .u8 0, .slice none 0 0] 43
      rwa [show (w.alloc (.cells #[.string ⟨#[]⟩, .int .u8 0, .slice none 0 0] 43)).heap.size = w.heap.size + 1 by simp] at this
    go_loopw [5, 6] (fun one i wr => ∃ (k : Nat) (O : ByteArray) (done : List (List UInt8)) (va : Option Addr) (vc : Nat), i = .int .i64 k ∧ one = .string O ∧ O.size ≤ k ∧ done.length ≤ k ∧ (k ≤ s.size ∧ goC [] rl = done ++ goC O.data.toList (rl.drop k) ∨ k = s.size + 1 ∧ goC [] rl = done) ∧ done.all isX = true ∧ Below w.heap.size w wr ∧ Bx wr w.heap.size #[.string ⟨#[]⟩, .int .u8 0, .slice none 0 0] 43 ∧ Bx wr (w.heap.size + 1) #[.string ⟨#[]⟩, .int .u8 0, .slice va done.length vc] 43 ∧ wr.ownsRow (w.heap.size + 2) 45 3 (.slice va done.length vc) done.length (specsV (done.map specX))) (fun _ i _ => s.size + 1 - (intOf i).toNat)
    case atStart => exact ⟨0, ⟨#[]⟩, [], none, 0, rfl, rfl, Nat.le_refl _, Nat.le_refl _, .inl ⟨Nat.zero_le _, by simp⟩, rfl, BB, X0, X1, World.ownsRow_nil _ _ _ _⟩
    case round =>
      obtain ⟨k, O, done, va, vc, rfl, rfl, hO, hd, hdis, hall, hB, X0, X1, hown⟩ := hrel
      have x10 := X1.cell 0 (.string ⟨#[]⟩) rfl
      have x11 := X1.cell 1 (.int .u8 0) rfl
      have x12 := X1.cell 2 (.slice va done.length vc) rfl
      by_cases hkR : k ≤ s.size
      · have hg : goC [] rl = done ++ goC O.data.toList (rl.drop k) := by
          rcases hdis with h | h
          · exact h.2
          · omega
        by_cases hA : ∃ h : k < s.size, s[k] ≠ 44
        · obtain ⟨hlt, h44⟩ := hA
          have hne : ((s[k].toNat : Int) != 44) = true := by
            have : s[k].toNat ≠ 44 := fun e => h44 (UInt8.toNat_inj.1 e)
            simp; omega
          have hml := mid_list s k hlt
          have hms : (s.extract k (k + 1)).size = 1 := by rw [size_list, hml]; rfl
          have a1 := str_add O (s.extract k (k + 1)) (by rw [hms]; unfold maxLen; omega)
          obtain ⟨O1, hO1⟩ : ∃ O1, O ++ s.extract k (k + 1) = O1 := ⟨_, rfl⟩
          have hO1l : O1.data.toList = O.data.toList ++ [s[k]] := by rw [← hO1, app_list, hml]
          have hO1s : O1.size ≤ k + 1 := by rw [← hO1, ByteArray.size_append, hms]; omega
          have hg1 : goC [] rl = done ++ goC O1.data.toList (rl.drop (k + 1)) := by rw [hg, goC_at HRl.out k hlt, if_neg h44, hO1l]
          rw [hO1] at a1
          have HG := hide hg1
          have HX0 := hide X0
          have HX1 := hide X1
          have Hown := hide hown
          clear hg hg1 hdis h44 hml hms hO1 hO1l X0 X1 hown
          go_wp2
          go_roundw
          case rel => exact ⟨k + 1, O1, done, va, vc, by go_num, rfl, hO1s, by omega, .inl ⟨by omega, HG.out⟩, hall, hB, HX0.out, HX1.out, Hown.out⟩
          case measure => simp [intOf]; omega
        · have hnext : ((k + 1 ≤ s.size ∧ goC [] rl = (done ++ [O.data.toList]) ++ goC [] (rl.drop (k + 1))) ∨ (k + 1 = s.size + 1 ∧ goC [] rl = done ++ [O.data.toList])) ∧ O.data.toList ∈ goC [] rl := by
            by_cases hlt : k < s.size
            · have h44 : s[k] = 44 := by
                apply Classical.byContradiction
                intro h; exact hA ⟨hlt, h⟩
              have e := goC_at HRl.out k hlt O.data.toList
              rw [if_pos h44] at e
              rw [hg, e]
              exact ⟨.inl ⟨by omega, by simp⟩, by simp⟩
            · have hke : k = s.size := by omega
              rw [hke, goC_end HRl.out] at hg
              rw [hg]
              exact ⟨.inr ⟨by omega, rfl⟩, by simp⟩
          obtain ⟨NM, hNM⟩ : ∃ x, nmX O = x := ⟨_, rfl⟩
          obtain ⟨MX, hMX⟩ : ∃ x, (specX O.data.toList).max = x := ⟨_, rfl⟩
          obtain ⟨ST, hST⟩ : ∃ x, (specX O.data.toList).star = x := ⟨_, rfl⟩
          obtain ⟨b, hb⟩ : ∃ b, isX O.data.toList = b := ⟨_, rfl⟩
          have hsp : spV (specX O.data.toList) = [.string NM, .int .i64 MX, .bool ST] := by
            have e := spX O
            rw [← e, hNM, hMX, hST]; rfl
          have HN := hide hNM
          have HMX := hide hMX
          have HST := hide hST
          have HIS := hide hb
          have Hnext := hide hnext
          have HX0 := hide X0
          have HX1 := hide X1
          have Hown := hide hown
          have Hsp := hide hsp
          have Hall := hide hall
          by_cases hlt : k < s.size
          · have h44 : s[k] = 44 := by
              apply Classical.byContradiction
              intro h; exact hA ⟨hlt, h⟩
            have hne : ((s[k].toNat : Int) != 44) = false := by simp [h44]
            clear hnext hNM hMX hST hb hsp X0 X1 hown hall hg hdis hA h44
            cases b
            · have hr : res = none := by
                rw [← Hres.out, if_neg]
                intro h
                have := List.all_eq_true.1 h _ Hnext.out.2
                rw [HIS.out] at this; cases this
              have Hr := hide hr
              clear hr
              go_wp2_with (go_at_call 63; refine (ris_is O NM MX ST false _ (by omega) HN.out HMX.out HST.out HIS.out).mono ?_; rintro e w2 ⟨rfl, bb⟩; have Y0 := HX0.out.next bb; have Y1 := HX1.out.next bb; have y0 := Y0.cell 0 (.string ⟨#[]⟩) rfl; have y1 := Y0.cell 1 (.int .u8 0) rfl; have y2 := Y0.cell 2 (.slice none 0 0) rfl; have z2 := Y1.cell 2 (.slice va done.length vc) rfl; have fy := Y0.free; have fz := Y1.free; have lt0 := Y0.lt; have lt1 := Y1.lt)
              have Z := (((Y0.put 0 (.string ⟨#[]⟩)).put 1 (.int .u8 0)).put 2 (.slice none 0 0)).later (.cells #[.string NM, .int .i64 MX, .bool ST] 45)
              have hB1 := hB.trans (bb.mono hB.size)
              have hB2 := (((hB1.setCell (p := ⟨w.heap.size, 0, none⟩) (Nat.le_refl _) (.string ⟨#[]⟩)).setCell (p := ⟨w.heap.size, 1, none⟩) (Nat.le_refl _) (.int .u8 0)).setCell (p := ⟨w.heap.size, 2, none⟩) (Nat.le_refl _) (.slice none 0 0)).alloc (by simp; omega) (.cells #[.string NM, .int .i64 MX, .bool ST] 45)
              refine bodyPost_ret (v := .tuple #[.agg #[.string ⟨#[]⟩, .int .u8 0, .slice none 0 0], .bool false]) (ret_cell_tmp Tryz.results44 _ _ rfl Z Tryz.underlying43 rfl (by kernel_rfl)) rfl ⟨hB2, ?_⟩
              rw [Hr.out]
            · go_wp2_with (first | (go_at_call 63; refine (ris_is O NM MX ST true _ (by omega) HN.out HMX.out HST.out HIS.out).mono ?_; rintro e w2 ⟨rfl, bb⟩; have Y0 := HX0.out.next bb; have Y1 := HX1.out.next bb; have y0 := Y0.cell 0 (.string ⟨#[]⟩) rfl; have y1 := Y0.cell 1 (.int .u8 0) rfl; have y2 := Y0.cell 2 (.slice none 0 0) rfl; have z2 := Y1.cell 2 (.slice va done.length vc) rfl; have fy := Y0.free; have fz := Y1.free; have lt0 := Y0.lt; have lt1 := Y1.lt) | (at_builtin; refine wpList_append_own _ rfl _ _ 41 rfl (w.heap.size + 2) 45 i0 (.agg #[.string ⟨#[]⟩, .int .i64 0, .bool false]) 3 32 Tryz.underlying41 hi hz0 hz1 hz2 rfl (by decide) _ _ _ rfl (((own_later Hown.out bb).alloc _).alloc _) ⟨w2.heap.size + 1, 0, none⟩ 1 1 [.string NM, .int .i64 MX, .bool ST] rfl rfl ?c1 ?c2 ?c3 ?c4 ?c5 ?_))
              case c1 =>
                intro j u hj
                match j, hj with
                | 0, hj => simp at hj; subst hj; simp [Addr.add]
                | 1, hj => simp at hj; subst hj; simp [Addr.add]
                | 2, hj => simp at hj; subst hj; simp [Addr.add]
              case c2 => intro u hu; simp at hu; rcases hu with rfl | rfl | rfl <;> rfl
              case c3 => unfold maxLen; omega
              case c4 => omega
              case c5 => have h8 := hB.size; have h9 := bb.size; simp; omega
              · intro v' w4 hown' hgrow _
                have hB1 := hB.trans (bb.mono hB.size)
                have h9 := hB1.size
                have hB2 := (hB1.alloc hB1.size (.cells #[.string NM, .int .i64 MX, .bool ST] 45)).alloc (by simp; omega) (.cells #[.string NM, .int .i64 MX, .bool ST] 45)
                have hlo : ∀ j, (Value.slice va done.length vc).ownBlock = some j → w.heap.size + 2 ≤ j := fun j hj => ((own_later Hown.out bb).lt j hj).1
                have hB4 := hB2.grown hgrow (by simp; omega) (fun j hj => by have := hlo j hj; omega)
                have V0 : Bx w4 w.heap.size #[.string ⟨#[]⟩, .int .u8 0, .slice none 0 0] 43 := (hgrow.block w.heap.size (by simp; omega) (fun h => by have := hlo _ h.symm; omega)).trans ((Y0.later _).later _)
                have V1 : Bx w4 (w.heap.size + 1) #[.string ⟨#[]⟩, .int .u8 0, .slice va done.length vc] 43 := (hgrow.block (w.heap.size + 1) (by simp; omega) (fun h => by have := hlo _ h.symm; omega)).trans ((Y1.later _).later _)
                have hvs' : ∃ a c', v' = .slice (some ⟨a, 0, none⟩) (done.length + 1) c' := by
                  rcases hown'.2 with ⟨_, h⟩ | ⟨g, cap, cur, rfl, _⟩
                  · omega
                  · exact ⟨_, _, rfl⟩
                obtain ⟨va', vc', hv'⟩ := hvs'
                rw [hv'] at hown' ⊢
                have v12 := V1.cell 2 (.slice va done.length vc) rfl
                have fv := V1.free
                have hown5 := own_put (j := 2) (u := .slice (some ⟨va', 0, none⟩) (done.length + 1) vc') hown' (show w.heap.size + 1 < w.heap.size + 2 by omega)
                have V1' := V1.put 2 (.slice (some ⟨va', 0, none⟩) (done.length + 1) vc')
                have V0' := V0.other (k := w.heap.size + 1) (by omega) 2 (.slice (some ⟨va', 0, none⟩) (done.length + 1) vc')
                have hB5 := hB4.setCell (p := ⟨w.heap.size + 1, 2, none⟩) (by simp) (.slice (some ⟨va', 0, none⟩) (done.length + 1) vc')
                have Hown5 := hide hown5
                have HV1 := hide V1'
                have HV0 := hide V0'
                clear hown' hgrow hv' hown5 V1' V0' V0 V1 hB2 hB4 hlo Y0 Y1 y0 y1 y2 z2 fy fz
                go_wp2
                go_roundw
                case rel => exact ⟨k + 1, ⟨#[]⟩, done ++ [O.data.toList], some ⟨va', 0, none⟩, vc', by go_num, rfl, by simp [ByteArray.size], by simp; omega, Hnext.out.1, by simp [List.all_append, Hall.out, HIS.out], hB5, HV0.out, by rw [List.length_append]; exact HV1.out, by rw [List.length_append, List.map_append, List.map_cons, List.map_nil, specsV_snoc, Hsp.out]; exact Hown5.out⟩
                case measure => simp [intOf]; omega
          · clear hnext hNM hMX hST hb hsp X0 X1 hown hall hg hdis hA
            cases b
            · have hr : res = none := by
                rw [← Hres.out, if_neg]
                intro h
                have := List.all_eq_true.1 h _ Hnext.out.2
                rw [HIS.out] at this; cases this
              have Hr := hide hr
              clear hr
              go_wp2_with (go_at_call 63; refine (ris_is O NM MX ST false _ (by omega) HN.out HMX.out HST.out HIS.out).mono ?_; rintro e w2 ⟨rfl, bb⟩; have Y0 := HX0.out.next bb; have Y1 := HX1.out.next bb; have y0 := Y0.cell 0 (.string ⟨#[]⟩) rfl; have y1 := Y0.cell 1 (.int .u8 0) rfl; have y2 := Y0.cell 2 (.slice none 0 0) rfl; have z2 := Y1.cell 2 (.slice va done.length vc) rfl; have fy := Y0.free; have fz := Y1.free; have lt0 := Y0.lt; have lt1 := Y1.lt)
              have Z := (((Y0.put 0 (.string ⟨#[]⟩)).put 1 (.int .u8 0)).put 2 (.slice none 0 0)).later (.cells #[.string NM, .int .i64 MX, .bool ST] 45)
              have hB1 := hB.trans (bb.mono hB.size)
              have hB2 := (((hB1.setCell (p := ⟨w.heap.size, 0, none⟩) (Nat.le_refl _) (.string ⟨#[]⟩)).setCell (p := ⟨w.heap.size, 1, none⟩) (Nat.le_refl _) (.int .u8 0)).setCell (p := ⟨w.heap.size, 2, none⟩) (Nat.le_refl _) (.slice none 0 0)).alloc (by simp; omega) (.cells #[.string NM, .int .i64 MX, .bool ST] 45)
              refine bodyPost_ret (v := .tuple #[.agg #[.string ⟨#[]⟩, .int .u8 0, .slice none 0 0], .bool false]) (ret_cell_tmp Tryz.results44 _ _ rfl Z Tryz.underlying43 rfl (by kernel_rfl)) rfl ⟨hB2, ?_⟩
              rw [Hr.out]
            · go_wp2_with (first | (go_at_call 63; refine (ris_is O NM MX ST true _ (by omega) HN.out HMX.out HST.out HIS.out).mono ?_; rintro e w2 ⟨rfl, bb⟩; have Y0 := HX0.out.next bb; have Y1 := HX1.out.next bb; have y0 := Y0.cell 0 (.string ⟨#[]⟩) rfl; have y1 := Y0.cell 1 (.int .u8 0) rfl; have y2 := Y0.cell 2 (.slice none 0 0) rfl; have z2 := Y1.cell 2 (.slice va done.length vc) rfl; have fy := Y0.free; have fz := Y1.free; have lt0 := Y0.lt; have lt1 := Y1.lt) | (at_builtin; refine wpList_append_own _ rfl _ _ 41 rfl (w.heap.size + 2) 45 i0 (.agg #[.string ⟨#[]⟩, .int .i64 0, .bool false]) 3 32 Tryz.underlying41 hi hz0 hz1 hz2 rfl (by decide) _ _ _ rfl (((own_later Hown.out bb).alloc _).alloc _) ⟨w2.heap.size + 1, 0, none⟩ 1 1 [.string NM, .int .i64 MX, .bool ST] rfl rfl ?c1 ?c2 ?c3 ?c4 ?c5 ?_))
              case c1 =>
                intro j u hj
                match j, hj with
                | 0, hj => simp at hj; subst hj; simp [Addr.add]
                | 1, hj => simp at hj; subst hj; simp [Addr.add]
                | 2, hj => simp at hj; subst hj; simp [Addr.add]
              case c2 => intro u hu; simp at hu; rcases hu with rfl | rfl | rfl <;> rfl
              case c3 => unfold maxLen; omega
              case c4 => omega
              case c5 => have h8 := hB.size; have h9 := bb.size; simp; omega
              · intro v' w4 hown' hgrow _
                have hB1 := hB.trans (bb.mono hB.size)
                have h9 := hB1.size
                have hB2 := (hB1.alloc hB1.size (.cells #[.string NM, .int .i64 MX, .bool ST] 45)).alloc (by simp; omega) (.cells #[.string NM, .int .i64 MX, .bool ST] 45)
                have hlo : ∀ j, (Value.slice va done.length vc).ownBlock = some j → w.heap.size + 2 ≤ j := fun j hj => ((own_later Hown.out bb).lt j hj).1
                have hB4 := hB2.grown hgrow (by simp; omega) (fun j hj => by have := hlo j hj; omega)
                have V0 : Bx w4 w.heap.size #[.string ⟨#[]⟩, .int .u8 0, .slice none 0 0] 43 := (hgrow.block w.heap.size (by simp; omega) (fun h => by have := hlo _ h.symm; omega)).trans ((Y0.later _).later _)
                have V1 : Bx w4 (w.heap.size + 1) #[.string ⟨#[]⟩, .int .u8 0, .slice va done.length vc] 43 := (hgrow.block (w.heap.size + 1) (by simp; omega) (fun h => by have := hlo _ h.symm; omega)).trans ((Y1.later _).later _)
                have hvs' : ∃ a c', v' = .slice (some ⟨a, 0, none⟩) (done.length + 1) c' := by
                  rcases hown'.2 with ⟨_, h⟩ | ⟨g, cap, cur, rfl, _⟩
                  · omega
                  · exact ⟨_, _, rfl⟩
                obtain ⟨va', vc', hv'⟩ := hvs'
                rw [hv'] at hown' ⊢
                have v12 := V1.cell 2 (.slice va done.length vc) rfl
                have fv := V1.free
                have hown5 := own_put (j := 2) (u := .slice (some ⟨va', 0, none⟩) (done.length + 1) vc') hown' (show w.heap.size + 1 < w.heap.size + 2 by omega)
                have V1' := V1.put 2 (.slice (some ⟨va', 0, none⟩) (done.length + 1) vc')
                have V0' := V0.other (k := w.heap.size + 1) (by omega) 2 (.slice (some ⟨va', 0, none⟩) (done.length + 1) vc')
                have hB5 := hB4.setCell (p := ⟨w.heap.size + 1, 2, none⟩) (by simp) (.slice (some ⟨va', 0, none⟩) (done.length + 1) vc')
                have Hown5 := hide hown5
                have HV1 := hide V1'
                have HV0 := hide V0'
                clear hown' hgrow hv' hown5 V1' V0' V0 V1 hB2 hB4 hlo Y0 Y1 y0 y1 y2 z2 fy fz
                go_wp2
                go_roundw
                case rel => exact ⟨k + 1, ⟨#[]⟩, done ++ [O.data.toList], some ⟨va', 0, none⟩, vc', by go_num, rfl, by simp [ByteArray.size], by simp; omega, Hnext.out.1, by simp [List.all_append, Hall.out, HIS.out], hB5, HV0.out, by rw [List.length_append]; exact HV1.out, by rw [List.length_append, List.map_append, List.map_cons, List.map_nil, specsV_snoc, Hsp.out]; exact Hown5.out⟩
                case measure => simp [intOf]; omega
      · have hke : k = s.size + 1 := by omega
        have hg : goC [] rl = done := by
          rcases hdis with h | h
          · omega
          · exact h.2
        have hr : res = some ⟨[], op, done.map specX⟩ := by
          rw [← Hres.out, hg, if_pos hall]
        have Hown := hide hown
        have HX0 := hide X0
        have Hr := hide hr
        have f0 := X0.free
        have x00 := X0.cell 0 (.string ⟨#[]⟩) rfl
        have x01 := X0.cell 1 (.int .u8 0) rfl
        have x02 := X0.cell 2 (.slice none 0 0) rfl
        clear hg hr hdis hall hown X0
        go_wp2
        have Z := ((HX0.out.put 0 (.string ⟨#[]⟩)).put 1 (.int .u8 0)).put 2 (.slice va done.length vc)
        have hB2 := ((hB.setCell (p := ⟨w.heap.size, 0, none⟩) (Nat.le_refl _) (.string ⟨#[]⟩)).setCell (p := ⟨w.heap.size, 1, none⟩) (Nat.le_refl _) (.int .u8 0)).setCell (p := ⟨w.heap.size, 2, none⟩) (Nat.le_refl _) (.slice va done.length vc)
        refine bodyPost_ret (v := .tuple #[.agg #[.string ⟨#[]⟩, .int .u8 0, .slice va done.length vc], .bool true]) (ret_cell_tmp Tryz.results44 _ _ rfl Z Tryz.underlying43 rfl (by kernel_rfl)) rfl ⟨hB2, ?_⟩
        rw [Hr.out]
        refine ⟨.slice va done.length vc, by rw [Hc.out], ?_⟩
        have h3 := own_put (b := w.heap.size) (j := 2) (u := .slice va done.length vc) (own_put (b := w.heap.size) (j := 1) (u := .int .u8 0) (own_put (b := w.heap.size) (j := 0) (u := .string ⟨#[]⟩) Hown.out (by omega)) (by omega)) (by omega)
        exact ⟨SpecsAt.of_owns (xs := done.map specX) (by rw [List.length_map]; exact h3), TySp.of_owns h3⟩
  · obtain ⟨h0, hzz, hR, hcc⟩ := hA
    subst hR
    subst hcc
    have hE := eq_some s h0
    have hz : ((s[0].toNat : Int) != 0) = false := by simp [hzz]
    clear hzz
    go_enter Tryz.func44, Tryz.ntmps44
    go_wp2
    clear hz hE
    have BB : Below w.heap.size w ((w.alloc (.cells #[.string ⟨#[]⟩, .int .u8 0, .slice none 0 0] 43)).alloc (.cells #[.string ⟨#[]⟩, .int .u8 0, .slice none 0 0] 43)) := ((Below.refl _ _).alloc (Nat.le_refl _) _).alloc (by simp) _
    have X0 : Bx ((w.alloc (.cells #[.string ⟨#[]⟩, .int .u8 0, .slice none 0 0] 43)).alloc (.cells #[.string ⟨#[]⟩, .int .u8 0, .slice none 0 0] 43)) w.heap.size #[.string ⟨#[]⟩, .int .u8 0, .slice none 0 0] 43 := (Bx.made _ _ _).later _
    have X1 : Bx ((w.alloc (.cells #[.string ⟨#[]⟩, .int .u8 0, .slice none 0 0] 43)).alloc (.cells #[.string ⟨#[]⟩, .int .u8 0, .slice none 0 0] 43)) (w.heap.size + 1) #[.string ⟨#[]⟩, .int .u8 0, .slice none 0 0] 43 := by
      have := Bx.made (w.alloc (.cells #[.string ⟨#[]⟩, .int .u8 0, .slice none 0 0] 43)) #[.string ⟨#[]⟩, .int .u8 0, .slice none 0 0] 43
      rwa [show (w.alloc (.cells #[.string ⟨#[]⟩, .int .u8 0, .slice none 0 0] 43)).heap.size = w.heap.size + 1 by simp] at this
    go_loopw [5, 6] (fun one i wr => ∃ (k : Nat) (O : ByteArray) (done : List (List UInt8)) (va : Option Addr) (vc : Nat), i = .int .i64 k ∧ one = .string O ∧ O.size ≤ k ∧ done.length ≤ k ∧ (k ≤ s.size ∧ goC [] rl = done ++ goC O.data.toList (rl.drop k) ∨ k = s.size + 1 ∧ goC [] rl = done) ∧ done.all isX = true ∧ Below w.heap.size w wr ∧ Bx wr w.heap.size #[.string ⟨#[]⟩, .int .u8 0, .slice none 0 0] 43 ∧ Bx wr (w.heap.size + 1) #[.string ⟨#[]⟩, .int .u8 0, .slice va done.length vc] 43 ∧ wr.ownsRow (w.heap.size + 2) 45 3 (.slice va done.length vc) done.length (specsV (done.map specX))) (fun _ i _ => s.size + 1 - (intOf i).toNat)
    case atStart => exact ⟨0, ⟨#[]⟩, [], none, 0, rfl, rfl, Nat.le_refl _, Nat.le_refl _, .inl ⟨Nat.zero_le _, by simp⟩, rfl, BB, X0, X1, World.ownsRow_nil _ _ _ _⟩
    case round =>
      obtain ⟨k, O, done, va, vc, rfl, rfl, hO, hd, hdis, hall, hB, X0, X1, hown⟩ := hrel
      have x10 := X1.cell 0 (.string ⟨#[]⟩) rfl
      have x11 := X1.cell 1 (.int .u8 0) rfl
      have x12 := X1.cell 2 (.slice va done.length vc) rfl
      by_cases hkR : k ≤ s.size
      · have hg : goC [] rl = done ++ goC O.data.toList (rl.drop k) := by
          rcases hdis with h | h
          · exact h.2
          · omega
        by_cases hA : ∃ h : k < s.size, s[k] ≠ 44
        · obtain ⟨hlt, h44⟩ := hA
          have hne : ((s[k].toNat : Int) != 44) = true := by
            have : s[k].toNat ≠ 44 := fun e => h44 (UInt8.toNat_inj.1 e)
            simp; omega
          have hml := mid_list s k hlt
          have hms : (s.extract k (k + 1)).size = 1 := by rw [size_list, hml]; rfl
          have a1 := str_add O (s.extract k (k + 1)) (by rw [hms]; unfold maxLen; omega)
          obtain ⟨O1, hO1⟩ : ∃ O1, O ++ s.extract k (k + 1) = O1 := ⟨_, rfl⟩
          have hO1l : O1.data.toList = O.data.toList ++ [s[k]] := by rw [← hO1, app_list, hml]
          have hO1s : O1.size ≤ k + 1 := by rw [← hO1, ByteArray.size_append, hms]; omega
          have hg1 : goC [] rl = done ++ goC O1.data.toList (rl.drop (k + 1)) := by rw [hg, goC_at HRl.out k hlt, if_neg h44, hO1l]
          rw [hO1] at a1
          have HG := hide hg1
          have HX0 := hide X0
          have HX1 := hide X1
          have Hown := hide hown
          clear hg hg1 hdis h44 hml hms hO1 hO1l X0 X1 hown
          go_wp2
          go_roundw
          case rel => exact ⟨k + 1, O1, done, va, vc, by go_num, rfl, hO1s, by omega, .inl ⟨by omega, HG.out⟩, hall, hB, HX0.out, HX1.out, Hown.out⟩
          case measure => simp [intOf]; omega
        · have hnext : ((k + 1 ≤ s.size ∧ goC [] rl = (done ++ [O.data.toList]) ++ goC [] (rl.drop (k + 1))) ∨ (k + 1 = s.size + 1 ∧ goC [] rl = done ++ [O.data.toList])) ∧ O.data.toList ∈ goC [] rl := by
            by_cases hlt : k < s.size
            · have h44 : s[k] = 44 := by
                apply Classical.byContradiction
                intro h; exact hA ⟨hlt, h⟩
              have e := goC_at HRl.out k hlt O.data.toList
              rw [if_pos h44] at e
              rw [hg, e]
              exact ⟨.inl ⟨by omega, by simp⟩, by simp⟩
            · have hke : k = s.size := by omega
              rw [hke, goC_end HRl.out] at hg
              rw [hg]
              exact ⟨.inr ⟨by omega, rfl⟩, by simp⟩
          obtain ⟨NM, hNM⟩ : ∃ x, nmX O = x := ⟨_, rfl⟩
          obtain ⟨MX, hMX⟩ : ∃ x, (specX O.data.toList).max = x := ⟨_, rfl⟩
          obtain ⟨ST, hST⟩ : ∃ x, (specX O.data.toList).star = x := ⟨_, rfl⟩
          obtain ⟨b, hb⟩ : ∃ b, isX O.data.toList = b := ⟨_, rfl⟩
          have hsp : spV (specX O.data.toList) = [.string NM, .int .i64 MX, .bool ST] := by
            have e := spX O
            rw [← e, hNM, hMX, hST]; rfl
          have HN := hide hNM
          have HMX := hide hMX
          have HST := hide hST
          have HIS := hide hb
          have Hnext := hide hnext
          have HX0 := hide X0
          have HX1 := hide X1
          have Hown := hide hown
          have Hsp := hide hsp
          have Hall := hide hall
          by_cases hlt : k < s.size
          · have h44 : s[k] = 44 := by
              apply Classical.byContradiction
              intro h; exact hA ⟨hlt, h⟩
            have hne : ((s[k].toNat : Int) != 44) = false := by simp [h44]
            clear hnext hNM hMX hST hb hsp X0 X1 hown hall hg hdis hA h44
            cases b
            · have hr : res = none := by
                rw [← Hres.out, if_neg]
                intro h
                have := List.all_eq_true.1 h _ Hnext.out.2
                rw [HIS.out] at this; cases this
              have Hr := hide hr
              clear hr
              go_wp2_with (go_at_call 63; refine (ris_is O NM MX ST false _ (by omega) HN.out HMX.out HST.out HIS.out).mono ?_; rintro e w2 ⟨rfl, bb⟩; have Y0 := HX0.out.next bb; have Y1 := HX1.out.next bb; have y0 := Y0.cell 0 (.string ⟨#[]⟩) rfl; have y1 := Y0.cell 1 (.int .u8 0) rfl; have y2 := Y0.cell 2 (.slice none 0 0) rfl; have z2 := Y1.cell 2 (.slice va done.length vc) rfl; have fy := Y0.free; have fz := Y1.free; have lt0 := Y0.lt; have lt1 := Y1.lt)
              have Z := (((Y0.put 0 (.string ⟨#[]⟩)).put 1 (.int .u8 0)).put 2 (.slice none 0 0)).later (.cells #[.string NM, .int .i64 MX, .bool ST] 45)
              have hB1 := hB.trans (bb.mono hB.size)
              have hB2 := (((hB1.setCell (p := ⟨w.heap.size, 0, none⟩) (Nat.le_refl _) (.string ⟨#[]⟩)).setCell (p := ⟨w.heap.size, 1, none⟩) (Nat.le_refl _) (.int .u8 0)).setCell (p := ⟨w.heap.size, 2, none⟩) (Nat.le_refl _) (.slice none 0 0)).alloc (by simp; omega) (.cells #[.string NM, .int .i64 MX, .bool ST] 45)
              refine bodyPost_ret (v := .tuple #[.agg #[.string ⟨#[]⟩, .int .u8 0, .slice none 0 0], .bool false]) (ret_cell_tmp Tryz.results44 _ _ rfl Z Tryz.underlying43 rfl (by kernel_rfl)) rfl ⟨hB2, ?_⟩
              rw [Hr.out]
            · go_wp2_with (first | (go_at_call 63; refine (ris_is O NM MX ST true _ (by omega) HN.out HMX.out HST.out HIS.out).mono ?_; rintro e w2 ⟨rfl, bb⟩; have Y0 := HX0.out.next bb; have Y1 := HX1.out.next bb; have y0 := Y0.cell 0 (.string ⟨#[]⟩) rfl; have y1 := Y0.cell 1 (.int .u8 0) rfl; have y2 := Y0.cell 2 (.slice none 0 0) rfl; have z2 := Y1.cell 2 (.slice va done.length vc) rfl; have fy := Y0.free; have fz := Y1.free; have lt0 := Y0.lt; have lt1 := Y1.lt) | (at_builtin; refine wpList_append_own _ rfl _ _ 41 rfl (w.heap.size + 2) 45 i0 (.agg #[.string ⟨#[]⟩, .int .i64 0, .bool false]) 3 32 Tryz.underlying41 hi hz0 hz1 hz2 rfl (by decide) _ _ _ rfl (((own_later Hown.out bb).alloc _).alloc _) ⟨w2.heap.size + 1, 0, none⟩ 1 1 [.string NM, .int .i64 MX, .bool ST] rfl rfl ?c1 ?c2 ?c3 ?c4 ?c5 ?_))
              case c1 =>
                intro j u hj
                match j, hj with
                | 0, hj => simp at hj; subst hj; simp [Addr.add]
                | 1, hj => simp at hj; subst hj; simp [Addr.add]
                | 2, hj => simp at hj; subst hj; simp [Addr.add]
              case c2 => intro u hu; simp at hu; rcases hu with rfl | rfl | rfl <;> rfl
              case c3 => unfold maxLen; omega
              case c4 => omega
              case c5 => have h8 := hB.size; have h9 := bb.size; simp; omega
              · intro v' w4 hown' hgrow _
                have hB1 := hB.trans (bb.mono hB.size)
                have h9 := hB1.size
                have hB2 := (hB1.alloc hB1.size (.cells #[.string NM, .int .i64 MX, .bool ST] 45)).alloc (by simp; omega) (.cells #[.string NM, .int .i64 MX, .bool ST] 45)
                have hlo : ∀ j, (Value.slice va done.length vc).ownBlock = some j → w.heap.size + 2 ≤ j := fun j hj => ((own_later Hown.out bb).lt j hj).1
                have hB4 := hB2.grown hgrow (by simp; omega) (fun j hj => by have := hlo j hj; omega)
                have V0 : Bx w4 w.heap.size #[.string ⟨#[]⟩, .int .u8 0, .slice none 0 0] 43 := (hgrow.block w.heap.size (by simp; omega) (fun h => by have := hlo _ h.symm; omega)).trans ((Y0.later _).later _)
                have V1 : Bx w4 (w.heap.size + 1) #[.string ⟨#[]⟩, .int .u8 0, .slice va done.length vc] 43 := (hgrow.block (w.heap.size + 1) (by simp; omega) (fun h => by have := hlo _ h.symm; omega)).trans ((Y1.later _).later _)
                have hvs' : ∃ a c', v' = .slice (some ⟨a, 0, none⟩) (done.length + 1) c' := by
                  rcases hown'.2 with ⟨_, h⟩ | ⟨g, cap, cur, rfl, _⟩
                  · omega
                  · exact ⟨_, _, rfl⟩
                obtain ⟨va', vc', hv'⟩ := hvs'
                rw [hv'] at hown' ⊢
                have v12 := V1.cell 2 (.slice va done.length vc) rfl
                have fv := V1.free
                have hown5 := own_put (j := 2) (u := .slice (some ⟨va', 0, none⟩) (done.length + 1) vc') hown' (show w.heap.size + 1 < w.heap.size + 2 by omega)
                have V1' := V1.put 2 (.slice (some ⟨va', 0, none⟩) (done.length + 1) vc')
                have V0' := V0.other (k := w.heap.size + 1) (by omega) 2 (.slice (some ⟨va', 0, none⟩) (done.length + 1) vc')
                have hB5 := hB4.setCell (p := ⟨w.heap.size + 1, 2, none⟩) (by simp) (.slice (some ⟨va', 0, none⟩) (done.length + 1) vc')
                have Hown5 := hide hown5
                have HV1 := hide V1'
                have HV0 := hide V0'
                clear hown' hgrow hv' hown5 V1' V0' V0 V1 hB2 hB4 hlo Y0 Y1 y0 y1 y2 z2 fy fz
                go_wp2
                go_roundw
                case rel => exact ⟨k + 1, ⟨#[]⟩, done ++ [O.data.toList], some ⟨va', 0, none⟩, vc', by go_num, rfl, by simp [ByteArray.size], by simp; omega, Hnext.out.1, by simp [List.all_append, Hall.out, HIS.out], hB5, HV0.out, by rw [List.length_append]; exact HV1.out, by rw [List.length_append, List.map_append, List.map_cons, List.map_nil, specsV_snoc, Hsp.out]; exact Hown5.out⟩
                case measure => simp [intOf]; omega
          · clear hnext hNM hMX hST hb hsp X0 X1 hown hall hg hdis hA
            cases b
            · have hr : res = none := by
                rw [← Hres.out, if_neg]
                intro h
                have := List.all_eq_true.1 h _ Hnext.out.2
                rw [HIS.out] at this; cases this
              have Hr := hide hr
              clear hr
              go_wp2_with (go_at_call 63; refine (ris_is O NM MX ST false _ (by omega) HN.out HMX.out HST.out HIS.out).mono ?_; rintro e w2 ⟨rfl, bb⟩; have Y0 := HX0.out.next bb; have Y1 := HX1.out.next bb; have y0 := Y0.cell 0 (.string ⟨#[]⟩) rfl; have y1 := Y0.cell 1 (.int .u8 0) rfl; have y2 := Y0.cell 2 (.slice none 0 0) rfl; have z2 := Y1.cell 2 (.slice va done.length vc) rfl; have fy := Y0.free; have fz := Y1.free; have lt0 := Y0.lt; have lt1 := Y1.lt)
              have Z := (((Y0.put 0 (.string ⟨#[]⟩)).put 1 (.int .u8 0)).put 2 (.slice none 0 0)).later (.cells #[.string NM, .int .i64 MX, .bool ST] 45)
              have hB1 := hB.trans (bb.mono hB.size)
              have hB2 := (((hB1.setCell (p := ⟨w.heap.size, 0, none⟩) (Nat.le_refl _) (.string ⟨#[]⟩)).setCell (p := ⟨w.heap.size, 1, none⟩) (Nat.le_refl _) (.int .u8 0)).setCell (p := ⟨w.heap.size, 2, none⟩) (Nat.le_refl _) (.slice none 0 0)).alloc (by simp; omega) (.cells #[.string NM, .int .i64 MX, .bool ST] 45)
              refine bodyPost_ret (v := .tuple #[.agg #[.string ⟨#[]⟩, .int .u8 0, .slice none 0 0], .bool false]) (ret_cell_tmp Tryz.results44 _ _ rfl Z Tryz.underlying43 rfl (by kernel_rfl)) rfl ⟨hB2, ?_⟩
              rw [Hr.out]
            · go_wp2_with (first | (go_at_call 63; refine (ris_is O NM MX ST true _ (by omega) HN.out HMX.out HST.out HIS.out).mono ?_; rintro e w2 ⟨rfl, bb⟩; have Y0 := HX0.out.next bb; have Y1 := HX1.out.next bb; have y0 := Y0.cell 0 (.string ⟨#[]⟩) rfl; have y1 := Y0.cell 1 (.int .u8 0) rfl; have y2 := Y0.cell 2 (.slice none 0 0) rfl; have z2 := Y1.cell 2 (.slice va done.length vc) rfl; have fy := Y0.free; have fz := Y1.free; have lt0 := Y0.lt; have lt1 := Y1.lt) | (at_builtin; refine wpList_append_own _ rfl _ _ 41 rfl (w.heap.size + 2) 45 i0 (.agg #[.string ⟨#[]⟩, .int .i64 0, .bool false]) 3 32 Tryz.underlying41 hi hz0 hz1 hz2 rfl (by decide) _ _ _ rfl (((own_later Hown.out bb).alloc _).alloc _) ⟨w2.heap.size + 1, 0, none⟩ 1 1 [.string NM, .int .i64 MX, .bool ST] rfl rfl ?c1 ?c2 ?c3 ?c4 ?c5 ?_))
              case c1 =>
                intro j u hj
                match j, hj with
                | 0, hj => simp at hj; subst hj; simp [Addr.add]
                | 1, hj => simp at hj; subst hj; simp [Addr.add]
                | 2, hj => simp at hj; subst hj; simp [Addr.add]
              case c2 => intro u hu; simp at hu; rcases hu with rfl | rfl | rfl <;> rfl
              case c3 => unfold maxLen; omega
              case c4 => omega
              case c5 => have h8 := hB.size; have h9 := bb.size; simp; omega
              · intro v' w4 hown' hgrow _
                have hB1 := hB.trans (bb.mono hB.size)
                have h9 := hB1.size
                have hB2 := (hB1.alloc hB1.size (.cells #[.string NM, .int .i64 MX, .bool ST] 45)).alloc (by simp; omega) (.cells #[.string NM, .int .i64 MX, .bool ST] 45)
                have hlo : ∀ j, (Value.slice va done.length vc).ownBlock = some j → w.heap.size + 2 ≤ j := fun j hj => ((own_later Hown.out bb).lt j hj).1
                have hB4 := hB2.grown hgrow (by simp; omega) (fun j hj => by have := hlo j hj; omega)
                have V0 : Bx w4 w.heap.size #[.string ⟨#[]⟩, .int .u8 0, .slice none 0 0] 43 := (hgrow.block w.heap.size (by simp; omega) (fun h => by have := hlo _ h.symm; omega)).trans ((Y0.later _).later _)
                have V1 : Bx w4 (w.heap.size + 1) #[.string ⟨#[]⟩, .int .u8 0, .slice va done.length vc] 43 := (hgrow.block (w.heap.size + 1) (by simp; omega) (fun h => by have := hlo _ h.symm; omega)).trans ((Y1.later _).later _)
                have hvs' : ∃ a c', v' = .slice (some ⟨a, 0, none⟩) (done.length + 1) c' := by
                  rcases hown'.2 with ⟨_, h⟩ | ⟨g, cap, cur, rfl, _⟩
                  · omega
                  · exact ⟨_, _, rfl⟩
                obtain ⟨va', vc', hv'⟩ := hvs'
                rw [hv'] at hown' ⊢
                have v12 := V1.cell 2 (.slice va done.length vc) rfl
                have fv := V1.free
                have hown5 := own_put (j := 2) (u := .slice (some ⟨va', 0, none⟩) (done.length + 1) vc') hown' (show w.heap.size + 1 < w.heap.size + 2 by omega)
                have V1' := V1.put 2 (.slice (some ⟨va', 0, none⟩) (done.length + 1) vc')
                have V0' := V0.other (k := w.heap.size + 1) (by omega) 2 (.slice (some ⟨va', 0, none⟩) (done.length + 1) vc')
                have hB5 := hB4.setCell (p := ⟨w.heap.size + 1, 2, none⟩) (by simp) (.slice (some ⟨va', 0, none⟩) (done.length + 1) vc')
                have Hown5 := hide hown5
                have HV1 := hide V1'
                have HV0 := hide V0'
                clear hown' hgrow hv' hown5 V1' V0' V0 V1 hB2 hB4 hlo Y0 Y1 y0 y1 y2 z2 fy fz
                go_wp2
                go_roundw
                case rel => exact ⟨k + 1, ⟨#[]⟩, done ++ [O.data.toList], some ⟨va', 0, none⟩, vc', by go_num, rfl, by simp [ByteArray.size], by simp; omega, Hnext.out.1, by simp [List.all_append, Hall.out, HIS.out], hB5, HV0.out, by rw [List.length_append]; exact HV1.out, by rw [List.length_append, List.map_append, List.map_cons, List.map_nil, specsV_snoc, Hsp.out]; exact Hown5.out⟩
                case measure => simp [intOf]; omega
      · have hke : k = s.size + 1 := by omega
        have hg : goC [] rl = done := by
          rcases hdis with h | h
          · omega
          · exact h.2
        have hr : res = some ⟨[], op, done.map specX⟩ := by
          rw [← Hres.out, hg, if_pos hall]
        have Hown := hide hown
        have HX0 := hide X0
        have Hr := hide hr
        have f0 := X0.free
        have x00 := X0.cell 0 (.string ⟨#[]⟩) rfl
        have x01 := X0.cell 1 (.int .u8 0) rfl
        have x02 := X0.cell 2 (.slice none 0 0) rfl
        clear hg hr hdis hall hown X0
        go_wp2
        have Z := ((HX0.out.put 0 (.string ⟨#[]⟩)).put 1 (.int .u8 0)).put 2 (.slice va done.length vc)
        have hB2 := ((hB.setCell (p := ⟨w.heap.size, 0, none⟩) (Nat.le_refl _) (.string ⟨#[]⟩)).setCell (p := ⟨w.heap.size, 1, none⟩) (Nat.le_refl _) (.int .u8 0)).setCell (p := ⟨w.heap.size, 2, none⟩) (Nat.le_refl _) (.slice va done.length vc)
        refine bodyPost_ret (v := .tuple #[.agg #[.string ⟨#[]⟩, .int .u8 0, .slice va done.length vc], .bool true]) (ret_cell_tmp Tryz.results44 _ _ rfl Z Tryz.underlying43 rfl (by kernel_rfl)) rfl ⟨hB2, ?_⟩
        rw [Hr.out]
        refine ⟨.slice va done.length vc, by rw [Hc.out], ?_⟩
        have h3 := own_put (b := w.heap.size) (j := 2) (u := .slice va done.length vc) (own_put (b := w.heap.size) (j := 1) (u := .int .u8 0) (own_put (b := w.heap.size) (j := 0) (u := .string ⟨#[]⟩) Hown.out (by omega)) (by omega)) (by omega)
        exact ⟨SpecsAt.of_owns (xs := done.map specX) (by rw [List.length_map]; exact h3), TySp.of_owns h3⟩
  · obtain ⟨h0, hR, hcc⟩ := hA
    subst hR
    subst hcc
    have hE := eq_none s h0
    go_enter Tryz.func44, Tryz.ntmps44
    go_wp2
    clear hE
    have BB : Below w.heap.size w ((w.alloc (.cells #[.string ⟨#[]⟩, .int .u8 0, .slice none 0 0] 43)).alloc (.cells #[.string ⟨#[]⟩, .int .u8 0, .slice none 0 0] 43)) := ((Below.refl _ _).alloc (Nat.le_refl _) _).alloc (by simp) _
    have X0 : Bx ((w.alloc (.cells #[.string ⟨#[]⟩, .int .u8 0, .slice none 0 0] 43)).alloc (.cells #[.string ⟨#[]⟩, .int .u8 0, .slice none 0 0] 43)) w.heap.size #[.string ⟨#[]⟩, .int .u8 0, .slice none 0 0] 43 := (Bx.made _ _ _).later _
    have X1 : Bx ((w.alloc (.cells #[.string ⟨#[]⟩, .int .u8 0, .slice none 0 0] 43)).alloc (.cells #[.string ⟨#[]⟩, .int .u8 0, .slice none 0 0] 43)) (w.heap.size + 1) #[.string ⟨#[]⟩, .int .u8 0, .slice none 0 0] 43 := by
      have := Bx.made (w.alloc (.cells #[.string ⟨#[]⟩, .int .u8 0, .slice none 0 0] 43)) #[.string ⟨#[]⟩, .int .u8 0, .slice none 0 0] 43
      rwa [show (w.alloc (.cells #[.string ⟨#[]⟩, .int .u8 0, .slice none 0 0] 43)).heap.size = w.heap.size + 1 by simp] at this
    go_loopw [5, 6] (fun one i wr => ∃ (k : Nat) (O : ByteArray) (done : List (List UInt8)) (va : Option Addr) (vc : Nat), i = .int .i64 k ∧ one = .string O ∧ O.size ≤ k ∧ done.length ≤ k ∧ (k ≤ s.size ∧ goC [] rl = done ++ goC O.data.toList (rl.drop k) ∨ k = s.size + 1 ∧ goC [] rl = done) ∧ done.all isX = true ∧ Below w.heap.size w wr ∧ Bx wr w.heap.size #[.string ⟨#[]⟩, .int .u8 0, .slice none 0 0] 43 ∧ Bx wr (w.heap.size + 1) #[.string ⟨#[]⟩, .int .u8 0, .slice va done.length vc] 43 ∧ wr.ownsRow (w.heap.size + 2) 45 3 (.slice va done.length vc) done.length (specsV (done.map specX))) (fun _ i _ => s.size + 1 - (intOf i).toNat)
    case atStart => exact ⟨0, ⟨#[]⟩, [], none, 0, rfl, rfl, Nat.le_refl _, Nat.le_refl _, .inl ⟨Nat.zero_le _, by simp⟩, rfl, BB, X0, X1, World.ownsRow_nil _ _ _ _⟩
    case round =>
      obtain ⟨k, O, done, va, vc, rfl, rfl, hO, hd, hdis, hall, hB, X0, X1, hown⟩ := hrel
      have x10 := X1.cell 0 (.string ⟨#[]⟩) rfl
      have x11 := X1.cell 1 (.int .u8 0) rfl
      have x12 := X1.cell 2 (.slice va done.length vc) rfl
      by_cases hkR : k ≤ s.size
      · have hg : goC [] rl = done ++ goC O.data.toList (rl.drop k) := by
          rcases hdis with h | h
          · exact h.2
          · omega
        by_cases hA : ∃ h : k < s.size, s[k] ≠ 44
        · obtain ⟨hlt, h44⟩ := hA
          have hne : ((s[k].toNat : Int) != 44) = true := by
            have : s[k].toNat ≠ 44 := fun e => h44 (UInt8.toNat_inj.1 e)
            simp; omega
          have hml := mid_list s k hlt
          have hms : (s.extract k (k + 1)).size = 1 := by rw [size_list, hml]; rfl
          have a1 := str_add O (s.extract k (k + 1)) (by rw [hms]; unfold maxLen; omega)
          obtain ⟨O1, hO1⟩ : ∃ O1, O ++ s.extract k (k + 1) = O1 := ⟨_, rfl⟩
          have hO1l : O1.data.toList = O.data.toList ++ [s[k]] := by rw [← hO1, app_list, hml]
          have hO1s : O1.size ≤ k + 1 := by rw [← hO1, ByteArray.size_append, hms]; omega
          have hg1 : goC [] rl = done ++ goC O1.data.toList (rl.drop (k + 1)) := by rw [hg, goC_at HRl.out k hlt, if_neg h44, hO1l]
          rw [hO1] at a1
          have HG := hide hg1
          have HX0 := hide X0
          have HX1 := hide X1
          have Hown := hide hown
          clear hg hg1 hdis h44 hml hms hO1 hO1l X0 X1 hown
          go_wp2
          go_roundw
          case rel => exact ⟨k + 1, O1, done, va, vc, by go_num, rfl, hO1s, by omega, .inl ⟨by omega, HG.out⟩, hall, hB, HX0.out, HX1.out, Hown.out⟩
          case measure => simp [intOf]; omega
        · have hnext : ((k + 1 ≤ s.size ∧ goC [] rl = (done ++ [O.data.toList]) ++ goC [] (rl.drop (k + 1))) ∨ (k + 1 = s.size + 1 ∧ goC [] rl = done ++ [O.data.toList])) ∧ O.data.toList ∈ goC [] rl := by
            by_cases hlt : k < s.size
            · have h44 : s[k] = 44 := by
                apply Classical.byContradiction
                intro h; exact hA ⟨hlt, h⟩
              have e := goC_at HRl.out k hlt O.data.toList
              rw [if_pos h44] at e
              rw [hg, e]
              exact ⟨.inl ⟨by omega, by simp⟩, by simp⟩
            · have hke : k = s.size := by omega
              rw [hke, goC_end HRl.out] at hg
              rw [hg]
              exact ⟨.inr ⟨by omega, rfl⟩, by simp⟩
          obtain ⟨NM, hNM⟩ : ∃ x, nmX O = x := ⟨_, rfl⟩
          obtain ⟨MX, hMX⟩ : ∃ x, (specX O.data.toList).max = x := ⟨_, rfl⟩
          obtain ⟨ST, hST⟩ : ∃ x, (specX O.data.toList).star = x := ⟨_, rfl⟩
          obtain ⟨b, hb⟩ : ∃ b, isX O.data.toList = b := ⟨_, rfl⟩
          have hsp : spV (specX O.data.toList) = [.string NM, .int .i64 MX, .bool ST] := by
            have e := spX O
            rw [← e, hNM, hMX, hST]; rfl
          have HN := hide hNM
          have HMX := hide hMX
          have HST := hide hST
          have HIS := hide hb
          have Hnext := hide hnext
          have HX0 := hide X0
          have HX1 := hide X1
          have Hown := hide hown
          have Hsp := hide hsp
          have Hall := hide hall
          by_cases hlt : k < s.size
          · exact absurd hlt (by omega)
          · clear hnext hNM hMX hST hb hsp X0 X1 hown hall hg hdis hA
            cases b
            · have hr : res = none := by
                rw [← Hres.out, if_neg]
                intro h
                have := List.all_eq_true.1 h _ Hnext.out.2
                rw [HIS.out] at this; cases this
              have Hr := hide hr
              clear hr
              go_wp2_with (go_at_call 63; refine (ris_is O NM MX ST false _ (by omega) HN.out HMX.out HST.out HIS.out).mono ?_; rintro e w2 ⟨rfl, bb⟩; have Y0 := HX0.out.next bb; have Y1 := HX1.out.next bb; have y0 := Y0.cell 0 (.string ⟨#[]⟩) rfl; have y1 := Y0.cell 1 (.int .u8 0) rfl; have y2 := Y0.cell 2 (.slice none 0 0) rfl; have z2 := Y1.cell 2 (.slice va done.length vc) rfl; have fy := Y0.free; have fz := Y1.free; have lt0 := Y0.lt; have lt1 := Y1.lt)
              have Z := (((Y0.put 0 (.string ⟨#[]⟩)).put 1 (.int .u8 0)).put 2 (.slice none 0 0)).later (.cells #[.string NM, .int .i64 MX, .bool ST] 45)
              have hB1 := hB.trans (bb.mono hB.size)
              have hB2 := (((hB1.setCell (p := ⟨w.heap.size, 0, none⟩) (Nat.le_refl _) (.string ⟨#[]⟩)).setCell (p := ⟨w.heap.size, 1, none⟩) (Nat.le_refl _) (.int .u8 0)).setCell (p := ⟨w.heap.size, 2, none⟩) (Nat.le_refl _) (.slice none 0 0)).alloc (by simp; omega) (.cells #[.string NM, .int .i64 MX, .bool ST] 45)
              refine bodyPost_ret (v := .tuple #[.agg #[.string ⟨#[]⟩, .int .u8 0, .slice none 0 0], .bool false]) (ret_cell_tmp Tryz.results44 _ _ rfl Z Tryz.underlying43 rfl (by kernel_rfl)) rfl ⟨hB2, ?_⟩
              rw [Hr.out]
            · go_wp2_with (first | (go_at_call 63; refine (ris_is O NM MX ST true _ (by omega) HN.out HMX.out HST.out HIS.out).mono ?_; rintro e w2 ⟨rfl, bb⟩; have Y0 := HX0.out.next bb; have Y1 := HX1.out.next bb; have y0 := Y0.cell 0 (.string ⟨#[]⟩) rfl; have y1 := Y0.cell 1 (.int .u8 0) rfl; have y2 := Y0.cell 2 (.slice none 0 0) rfl; have z2 := Y1.cell 2 (.slice va done.length vc) rfl; have fy := Y0.free; have fz := Y1.free; have lt0 := Y0.lt; have lt1 := Y1.lt) | (at_builtin; refine wpList_append_own _ rfl _ _ 41 rfl (w.heap.size + 2) 45 i0 (.agg #[.string ⟨#[]⟩, .int .i64 0, .bool false]) 3 32 Tryz.underlying41 hi hz0 hz1 hz2 rfl (by decide) _ _ _ rfl (((own_later Hown.out bb).alloc _).alloc _) ⟨w2.heap.size + 1, 0, none⟩ 1 1 [.string NM, .int .i64 MX, .bool ST] rfl rfl ?c1 ?c2 ?c3 ?c4 ?c5 ?_))
              case c1 =>
                intro j u hj
                match j, hj with
                | 0, hj => simp at hj; subst hj; simp [Addr.add]
                | 1, hj => simp at hj; subst hj; simp [Addr.add]
                | 2, hj => simp at hj; subst hj; simp [Addr.add]
              case c2 => intro u hu; simp at hu; rcases hu with rfl | rfl | rfl <;> rfl
              case c3 => unfold maxLen; omega
              case c4 => omega
              case c5 => have h8 := hB.size; have h9 := bb.size; simp; omega
              · intro v' w4 hown' hgrow _
                have hB1 := hB.trans (bb.mono hB.size)
                have h9 := hB1.size
                have hB2 := (hB1.alloc hB1.size (.cells #[.string NM, .int .i64 MX, .bool ST] 45)).alloc (by simp; omega) (.cells #[.string NM, .int .i64 MX, .bool ST] 45)
                have hlo : ∀ j, (Value.slice va done.length vc).ownBlock = some j → w.heap.size + 2 ≤ j := fun j hj => ((own_later Hown.out bb).lt j hj).1
                have hB4 := hB2.grown hgrow (by simp; omega) (fun j hj => by have := hlo j hj; omega)
                have V0 : Bx w4 w.heap.size #[.string ⟨#[]⟩, .int .u8 0, .slice none 0 0] 43 := (hgrow.block w.heap.size (by simp; omega) (fun h => by have := hlo _ h.symm; omega)).trans ((Y0.later _).later _)
                have V1 : Bx w4 (w.heap.size + 1) #[.string ⟨#[]⟩, .int .u8 0, .slice va done.length vc] 43 := (hgrow.block (w.heap.size + 1) (by simp; omega) (fun h => by have := hlo _ h.symm; omega)).trans ((Y1.later _).later _)
                have hvs' : ∃ a c', v' = .slice (some ⟨a, 0, none⟩) (done.length + 1) c' := by
                  rcases hown'.2 with ⟨_, h⟩ | ⟨g, cap, cur, rfl, _⟩
                  · omega
                  · exact ⟨_, _, rfl⟩
                obtain ⟨va', vc', hv'⟩ := hvs'
                rw [hv'] at hown' ⊢
                have v12 := V1.cell 2 (.slice va done.length vc) rfl
                have fv := V1.free
                have hown5 := own_put (j := 2) (u := .slice (some ⟨va', 0, none⟩) (done.length + 1) vc') hown' (show w.heap.size + 1 < w.heap.size + 2 by omega)
                have V1' := V1.put 2 (.slice (some ⟨va', 0, none⟩) (done.length + 1) vc')
                have V0' := V0.other (k := w.heap.size + 1) (by omega) 2 (.slice (some ⟨va', 0, none⟩) (done.length + 1) vc')
                have hB5 := hB4.setCell (p := ⟨w.heap.size + 1, 2, none⟩) (by simp) (.slice (some ⟨va', 0, none⟩) (done.length + 1) vc')
                have Hown5 := hide hown5
                have HV1 := hide V1'
                have HV0 := hide V0'
                clear hown' hgrow hv' hown5 V1' V0' V0 V1 hB2 hB4 hlo Y0 Y1 y0 y1 y2 z2 fy fz
                go_wp2
                go_roundw
                case rel => exact ⟨k + 1, ⟨#[]⟩, done ++ [O.data.toList], some ⟨va', 0, none⟩, vc', by go_num, rfl, by simp [ByteArray.size], by simp; omega, Hnext.out.1, by simp [List.all_append, Hall.out, HIS.out], hB5, HV0.out, by rw [List.length_append]; exact HV1.out, by rw [List.length_append, List.map_append, List.map_cons, List.map_nil, specsV_snoc, Hsp.out]; exact Hown5.out⟩
                case measure => simp [intOf]; omega
      · have hke : k = s.size + 1 := by omega
        have hg : goC [] rl = done := by
          rcases hdis with h | h
          · omega
          · exact h.2
        have hr : res = some ⟨[], op, done.map specX⟩ := by
          rw [← Hres.out, hg, if_pos hall]
        have Hown := hide hown
        have HX0 := hide X0
        have Hr := hide hr
        have f0 := X0.free
        have x00 := X0.cell 0 (.string ⟨#[]⟩) rfl
        have x01 := X0.cell 1 (.int .u8 0) rfl
        have x02 := X0.cell 2 (.slice none 0 0) rfl
        clear hg hr hdis hall hown X0
        go_wp2
        have Z := ((HX0.out.put 0 (.string ⟨#[]⟩)).put 1 (.int .u8 0)).put 2 (.slice va done.length vc)
        have hB2 := ((hB.setCell (p := ⟨w.heap.size, 0, none⟩) (Nat.le_refl _) (.string ⟨#[]⟩)).setCell (p := ⟨w.heap.size, 1, none⟩) (Nat.le_refl _) (.int .u8 0)).setCell (p := ⟨w.heap.size, 2, none⟩) (Nat.le_refl _) (.slice va done.length vc)
        refine bodyPost_ret (v := .tuple #[.agg #[.string ⟨#[]⟩, .int .u8 0, .slice va done.length vc], .bool true]) (ret_cell_tmp Tryz.results44 _ _ rfl Z Tryz.underlying43 rfl (by kernel_rfl)) rfl ⟨hB2, ?_⟩
        rw [Hr.out]
        refine ⟨.slice va done.length vc, by rw [Hc.out], ?_⟩
        have h3 := own_put (b := w.heap.size) (j := 2) (u := .slice va done.length vc) (own_put (b := w.heap.size) (j := 1) (u := .int .u8 0) (own_put (b := w.heap.size) (j := 0) (u := .string ⟨#[]⟩) Hown.out (by omega)) (by omega)) (by omega)
        exact ⟨SpecsAt.of_owns (xs := done.map specX) (by rw [List.length_map]; exact h3), TySp.of_owns h3⟩
theorem ins_is (s : ByteArray) (o : Option Pt) (w : World) (hs : s.size ≤ 100000) (h : insT s.data.toList = o) : Calls Tryz.prog 44 #[.string s] w fun e w' => InsPost w o e w' := by
  subst h; exact ins_any s w hs
end Go.Proofs.YtjbnofljoijnmaaGreatDoor
