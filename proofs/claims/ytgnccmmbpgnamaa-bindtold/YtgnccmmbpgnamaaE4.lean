/-
  WALKS: the reference's Names (layer 9).
-/
import Derived.Test.YtgnccmmbpgnamaaE3
namespace Go.Proofs.Ytgnccmmbpgnamaa
open Go.RowKit

/-- the names behind k variables -/
def nmK (bs : List Bd) (k : Nat) : List (List UInt8) := ((bs.take k).map (·.1)).foldl (stepB bs) []
theorem nmK_next (bs : List Bd) (k : Nat) (h : k < bs.length) : nmK bs (k + 1) = stepB bs (nmK bs k) bs[k].1 := by
  unfold nmK
  rw [List.take_succ_eq_append_getElem h, List.map_append, List.foldl_append]
  rfl
theorem nmK_end (bs : List Bd) (k : Nat) (h : bs.length ≤ k) : nmK bs k = namesV bs := by unfold nmK namesV; rw [List.take_of_length_le h]
theorem nmK_len (bs : List Bd) (k : Nat) : (nmK bs k).length ≤ bs.length := by
  have := (names_fold bs ((bs.take k).map (·.1)) [] trivial).2.2
  unfold nmK
  rw [List.length_map, List.length_take] at this
  simp only [List.length_nil] at this
  omega
/-- texts that are gathered in a row of their own -/
structure Sr (W0 W : World) (v : Value) (ms : List (List UInt8)) : Prop where
  bel : Below W0.heap.size W0 W
  row : W.ownsRow W0.heap.size 9 1 v ms.length (strsV ms)
section
variable {W0 W W' : World} {v : Value} {ms : List (List UInt8)}
theorem Sr.nil (W : World) : Sr W W (.slice none 0 0) [] := ⟨Below.refl _ _, World.ownsRow_nil _ _ _ _⟩
theorem Sr.next (h : Sr W0 W v ms) (bb : Below W.heap.size W W') : Sr W0 W' v ms := ⟨h.bel.trans (bb.mono h.bel.size), own_later h.row bb⟩
theorem Sr.alloc (h : Sr W0 W v ms) (o : Obj) : Sr W0 (W.alloc o) v ms := h.next (b_alloc W o)
theorem Sr.snoc {X : ByteArray} {x : List UInt8} {g cap : Nat} {o : Obj} (h : Sr W0 W v ms) (hX : X.data.toList = x) (hg : (W.alloc o).grownBy W' v.ownBlock) (ho : W'.ownsRow W0.heap.size 9 1 (.slice (some ⟨g, 0, none⟩) (ms.length + 1) cap) (ms.length + 1) (strsV ms ++ [.string X])) :
    Sr W0 W' (.slice (some ⟨g, 0, none⟩) (ms ++ [x]).length cap) (ms ++ [x]) := by
  have ha := h.alloc o
  have eX : (⟨x.toArray⟩ : ByteArray) = X := by rw [← hX]
  refine ⟨ha.bel.grown hg ha.bel.size (fun j hj => by have := (h.row.lt j hj).1; omega), ?_⟩
  have hl : (ms ++ [x]).length = ms.length + 1 := by simp
  rw [hl, strs_snoc, eX]
  exact ho
end
theorem news1 {w : World} {X : ByteArray} {t : TypeId} : ∀ j u, [Value.string X][j]? = some u → (w.alloc (.cells #[.string X] t)).cell? ((⟨w.heap.size, 0, none⟩ : Addr).add j) = some u := by
  intro j u hj
  match j, hj with
  | 0, hj => simp at hj; subst hj; simp [Addr.add]
theorem putB_at {n : List UInt8} {ns : List (List UInt8)} {q : Nat} (h : q < ns.length) : putB n (ns.drop q) = if ltB n ns[q] then n :: ns[q] :: ns.drop (q + 1) else ns[q] :: putB n (ns.drop (q + 1)) := by
  rw [List.drop_eq_getElem_cons h]; rfl
def Ins (n : List UInt8) (ns ms : List (List UInt8)) (q : Nat) (d : Bool) : Prop := putB n ns = if d then ms ++ ns.drop q else ms ++ putB n (ns.drop q)
theorem ins_done {n : List UInt8} {ns ms : List (List UInt8)} {q : Nat} (h : q < ns.length) (H : Ins n ns ms q true) : Ins n ns (ms ++ [ns[q]]) (q + 1) true := by
  unfold Ins at *
  rw [H]
  simp only [if_true]
  rw [List.drop_eq_getElem_cons h]
  simp
theorem ins_lt {n : List UInt8} {ns ms : List (List UInt8)} {q : Nat} (h : q < ns.length) (H : Ins n ns ms q false) (hl : ltB n ns[q] = true) : Ins n ns (ms ++ [n] ++ [ns[q]]) (q + 1) true := by
  unfold Ins at *
  rw [H, if_neg (by simp), putB_at h, if_pos hl]
  simp
theorem ins_ge {n : List UInt8} {ns ms : List (List UInt8)} {q : Nat} (h : q < ns.length) (H : Ins n ns ms q false) (hl : ltB n ns[q] = false) : Ins n ns (ms ++ [ns[q]]) (q + 1) false := by
  unfold Ins at *
  rw [H, if_neg (by simp), putB_at h, if_neg (by rw [hl]; simp)]
  simp
theorem ins_end {n : List UInt8} {ns ms : List (List UInt8)} {q : Nat} {d : Bool} (h : ns.length ≤ q) (H : Ins n ns ms q d) : putB n ns = if d then ms else ms ++ [n] := by
  unfold Ins at H
  rw [H, List.drop_eq_nil_of_le h]
  cases d <;> simp [putB]
set_option maxRecDepth 20000 in
set_option maxHeartbeats 8000000 in
theorem rnames_any (v : Value) (bs : List Bd) (w : World) (h : BindsAt w v bs) (F : Fd bs) : Calls Try.prog 16 #[v] w fun e w' => TextsPost w (namesV bs) e w' := by
  obtain ⟨i0, hi, hz0, hz1, hz2⟩ := info_parts info9
  obtain ⟨la, lc, rfl⟩ := h.form
  have hln := F.len
  have HF := hide F
  have H := hide h
  clear h F
  go_enter Try.func16, Try.ntmps16
  go_wp2
  go_loopw [3, 4] (fun o i wr => ∃ (k : Nat) (ns : List (List UInt8)) (a : Option Addr) (c : Nat), k ≤ bs.length ∧ i = .int .i64 k ∧ nmK bs k = ns ∧ o = .slice a ns.length c ∧ StrsAt wr (.slice a ns.length c) ns ∧ Below w.heap.size w wr) (fun _ i _ => bs.length - (intOf i).toNat)
  case atStart => exact ⟨0, [], none, 0, Nat.zero_le _, rfl, rfl, rfl, .inl ⟨rfl, _, _, rfl⟩, Below.refl _ _⟩
  case round =>
    obtain ⟨k, ns, a, c, hk, rfl, hns, rfl, T, B⟩ := hrel
    by_cases hlt : k < bs.length
    · obtain ⟨b, off, cap, kd, M, S, sl, sp, ea, hb, c0, _, _, _, _, _, hM⟩ := (H.out.later B).one k hlt
      cases ea
      have hnx := nmK_next bs k hlt
      have hnl := nmK_len bs k
      rw [hns, ← hM] at hnx
      rw [hns] at hnl
      have hnl2 : ns.length ≤ 100 := by omega
      obtain ⟨n, hn⟩ : ∃ n, M.data.toList = n := ⟨_, rfl⟩
      rw [hn] at hnx
      obtain ⟨cv, hcv⟩ : ∃ cv, getV bs M.data.toList = cv := ⟨_, rfl⟩
      have HG := fun W (BW : Below w.heap.size w W) r hr => rget_any (.slice (some ⟨b, off, none⟩) bs.length lc) bs M cv r W (H.out.later BW) HF.out hcv hr
      have hG := hide HG
      have Hnx := hide hnx
      have HT := hide T
      have Hn := hide hn
      obtain ⟨r, hr⟩ : ∃ r, isV bs M.data.toList = r := ⟨_, rfl⟩
      have Hr := hide hr
      clear hnx hns T hM hn HG hnl hcv hr
      cases r with
      | false =>
        have hst : nmK bs (k + 1) = ns := by rw [Hnx.out]; exact if_pos (.inl (by rw [← Hn.out]; exact Hr.out))
        have Hst := hide hst
        clear hst
        go_wp2_with (go_at_call 12; refine (hG.out _ B false Hr.out).mono ?_; rintro e w2 ⟨la2, lc2, pa2, pc2, rfl, _, _, bb, _, _⟩; have BB : Below wr.heap.size wr (w2.alloc (.cells #[.int .i64 cv.kind, .string ⟨cv.s.toArray⟩, .slice la2 cv.l.length lc2, .slice pa2 cv.p.length pc2] 28)) := bb.alloc bb.size _)
        go_roundw
        case rel => exact ⟨k + 1, ns, a, c, by omega, by go_num, Hst.out, rfl, HT.out.later BB, B.trans (BB.mono B.size)⟩
        case measure => simp [intOf]; omega
      | true =>
        obtain ⟨hc, hhc⟩ : ∃ hc, ns.contains M.data.toList = hc := ⟨_, rfl⟩
        have Hc := hide hhc
        clear hhc
        cases hc with
        | true =>
          have hst : nmK bs (k + 1) = ns := by rw [Hnx.out]; exact if_pos (.inr (by rw [← Hn.out]; exact List.contains_iff_mem.1 Hc.out))
          have Hst := hide hst
          clear hst
          go_wp2_with (first
            | (go_at_call 12; refine (hG.out _ B true Hr.out).mono ?_; rintro e w2 ⟨la2, lc2, pa2, pc2, rfl, _, _, bb, _, _⟩; have BB : Below wr.heap.size wr (w2.alloc (.cells #[.int .i64 cv.kind, .string ⟨cv.s.toArray⟩, .slice la2 cv.l.length lc2, .slice pa2 cv.p.length pc2] 28)) := bb.alloc bb.size _; have d0 := (BB.cell (p := ⟨b, off + k * 5, none⟩) hb).trans c0; have T2 := hide (HT.out.later BB))
            | (go_at_call 26; refine (has_is ns _ M true _ (by omega) T2.out Hc.out).mono ?_; rintro e w3 ⟨rfl, bb3⟩; replace BB := BB.trans (bb3.mono BB.size)))
          go_roundw
          case rel => exact ⟨k + 1, ns, a, c, by omega, by go_num, Hst.out, rfl, HT.out.later BB, B.trans (BB.mono B.size)⟩
          case measure => simp [intOf]; omega
        | false =>
          have hst : nmK bs (k + 1) = putB n ns := by
            rw [Hnx.out]
            refine if_neg ?_
            rintro (h | h)
            · rw [← Hn.out, Hr.out] at h; cases h
            · rw [← Hn.out] at h
              have := List.contains_iff_mem.2 h
              rw [Hc.out] at this; cases this
          have Hst := hide hst
          clear hst
          go_wp2_with (first
            | (go_at_call 12; refine (hG.out _ B true Hr.out).mono ?_; rintro e w2 ⟨la2, lc2, pa2, pc2, rfl, _, _, bb, _, _⟩; have BB : Below wr.heap.size wr (w2.alloc (.cells #[.int .i64 cv.kind, .string ⟨cv.s.toArray⟩, .slice la2 cv.l.length lc2, .slice pa2 cv.p.length pc2] 28)) := bb.alloc bb.size _; have d0 := (BB.cell (p := ⟨b, off + k * 5, none⟩) hb).trans c0; have T2 := hide (HT.out.later BB))
            | (go_at_call 26; refine (has_is ns _ M false _ (by omega) T2.out Hc.out).mono ?_; rintro e w3 ⟨rfl, bb3⟩; replace BB := BB.trans (bb3.mono BB.size)))
          have T3 := hide (HT.out.later BB)
          have hb3 : b < w3.heap.size := Nat.lt_of_lt_of_le hb BB.size
          have e0 := (BB.cell (p := ⟨b, off + k * 5, none⟩) hb).trans c0
          have Hbb := hide bb
          clear c0 d0 T2 HT hG H bb bb3 Hbb
          go_loopw [7, 8, 9] (fun nx dn j wq => ∃ (q : Nat) (ms : List (List UInt8)) (d : Bool) (a2 : Option Addr) (c2 : Nat), q ≤ ns.length ∧ j = .int .i64 q ∧ dn = .bool d ∧ nx = .slice a2 ms.length c2 ∧ Ins n ns ms q d ∧ ms.length ≤ 2 * q ∧ Sr w3 wq (.slice a2 ms.length c2) ms) (fun _ _ j _ => ns.length - (intOf j).toNat)
          case atStart => exact ⟨0, [], false, none, 0, Nat.zero_le _, rfl, rfl, rfl, by unfold Ins; simp, by simp, Sr.nil _⟩
          case round =>
            obtain ⟨q, ms, d, a2, c2, hq, rfl, rfl, rfl, hins, hml, R⟩ := hrel
            have f0 := (R.bel.cell (p := ⟨b, off + k * 5, none⟩) hb3).trans e0
            by_cases hlq : q < ns.length
            · obtain ⟨b2, o2, c3, e, hb2, g3⟩ := T3.out.at q hlq
              cases e
              have hld := ins_lt hlq (n := n) (ms := ms)
              have hge := ins_ge hlq (n := n) (ms := ms)
              have hdn := ins_done hlq (n := n) (ms := ms)
              have hbl := bytes_lt n ns[q]
              obtain ⟨x, hx⟩ : ∃ x, ns[q] = x := ⟨_, rfl⟩
              rw [hx] at g3 hld hge hdn hbl
              obtain ⟨X, hX⟩ : ∃ X : ByteArray, (⟨x.toArray⟩ : ByteArray) = X := ⟨_, rfl⟩
              have hXd : X.data.toList = x := by rw [← hX]
              rw [hX] at g3
              have g1 := (R.bel.cell (p := ⟨b2, o2 + q, none⟩) hb2).trans g3
              have h0 : (0 : Int) ≤ q := by omega
              have h1 : (q : Int) < ns.length := by omega
              have hbl2 : Op.bytesLess M.toList X.toList = ltB n x := by rw [Lib.toList_data, Lib.toList_data, Hn.out, hXd]; exact hbl
              have HXd := hide hXd
              clear hbl hX hx hXd
              cases d with
              | true =>
                have Hins := hide (hdn hins)
                clear hins hld hge hdn hbl2
                go_wp2
                go_quiet ((fail))
                have R' := R.next (b_drewN wr nq)
                have g1' := (R'.bel.cell (p := ⟨b2, o2 + q, none⟩) hb2).trans g3
                generalize wr.drewN nq = wz at R' g1' ⊢
                clear R f0 g1
                go_wp2_with (at_builtin; refine wpList_append_lies _ rfl _ _ 25 rfl w3.heap.size 9 i0 (.string ⟨#[]⟩) 1 16 Try.underlying25 hi hz0 hz1 hz2 rfl (by decide) _ ms.length (strsV ms) rfl (R'.alloc (.cells #[.string X] 9)).row ⟨wz.heap.size, 0, none⟩ 1 1 [.string X] rfl rfl news1 ?c2 (by decide) ?c3 ?c4 ?c5 _ rfl ?_)
                case c2 => intro u hu; simp at hu; subst hu; rfl
                case c3 => unfold maxLen; omega
                case c4 => omega
                case c5 => have := R'.bel.size; simp; omega
                intro g cap w4 hown hgrow hat hlt4
                have R4 := R'.snoc HXd.out hgrow hown
                have hl4 : (ms ++ [x]).length = ms.length + 1 := by simp
                have HR4 := hide R4
                clear hown hgrow hat hlt4 R4
                go_wp2
                go_roundw
                case rel => exact ⟨q + 1, ms ++ [x], true, some ⟨g, 0, none⟩, cap, by omega, by go_num, rfl, by rw [hl4], Hins.out, by omega, HR4.out⟩
                case measure => simp [intOf]; omega
              | false =>
                obtain ⟨t, ht⟩ : ∃ t, ltB n x = t := ⟨_, rfl⟩
                rw [ht] at hbl2
                cases t with
                | true =>
                  have Hins := hide (hld hins ht)
                  clear hins hld hge hdn ht
                  go_wp2
                  go_quiet ((fail))
                  have R' := R.next (b_drewN wr nq)
                  have g1' := (R'.bel.cell (p := ⟨b2, o2 + q, none⟩) hb2).trans g3
                  have f0' := (R'.bel.cell (p := ⟨b, off + k * 5, none⟩) hb3).trans e0
                  generalize wr.drewN nq = wz at R' g1' f0' ⊢
                  clear R f0 g1
                  go_wp2_with (at_builtin; refine wpList_append_lies _ rfl _ _ 25 rfl w3.heap.size 9 i0 (.string ⟨#[]⟩) 1 16 Try.underlying25 hi hz0 hz1 hz2 rfl (by decide) _ ms.length (strsV ms) rfl (R'.alloc (.cells #[.string M] 9)).row ⟨wz.heap.size, 0, none⟩ 1 1 [.string M] rfl rfl news1 ?c2 (by decide) ?c3 ?c4 ?c5 _ rfl ?_)
                  case c2 => intro u hu; simp at hu; subst hu; rfl
                  case c3 => unfold maxLen; omega
                  case c4 => omega
                  case c5 => have := R'.bel.size; simp; omega
                  intro g cap w4 hown hgrow hat hlt4
                  have R4 := R'.snoc Hn.out hgrow hown
                  have hl4 : (ms ++ [n]).length = ms.length + 1 := by simp
                  have HR4 := hide R4
                  have g4 := (R4.bel.cell (p := ⟨b2, o2 + q, none⟩) hb2).trans g3
                  clear hown hgrow hat hlt4 R4
                  go_wp2_with (at_builtin; refine wpList_append_lies _ rfl _ _ 25 rfl w3.heap.size 9 i0 (.string ⟨#[]⟩) 1 16 Try.underlying25 hi hz0 hz1 hz2 rfl (by decide) _ (ms.length + 1) (strsV (ms ++ [n])) rfl (by have := (HR4.out.alloc (.cells #[.string X] 9)).row; rw [hl4] at this; exact this) ⟨w4.heap.size, 0, none⟩ 1 1 [.string X] rfl rfl news1 ?c2 (by decide) ?c3 ?c4 ?c5 _ rfl ?_)
                  case c2 => intro u hu; simp at hu; subst hu; rfl
                  case c3 => unfold maxLen; omega
                  case c4 => omega
                  case c5 => have := HR4.out.bel.size; simp; omega
                  intro g' cap' w5 hown hgrow hat hlt5
                  have R5 := HR4.out.snoc HXd.out hgrow (by rw [hl4]; exact hown)
                  have hl5 : (ms ++ [n] ++ [x]).length = ms.length + 1 + 1 := by simp
                  have HR5 := hide R5
                  clear hown hgrow hat hlt5 R5
                  go_wp2
                  go_roundw
                  case rel => exact ⟨q + 1, ms ++ [n] ++ [x], true, some ⟨g', 0, none⟩, cap', by omega, by go_num, rfl, by rw [hl5], Hins.out, by omega, HR5.out⟩
                  case measure => simp [intOf]; omega
                | false =>
                  have Hins := hide (hge hins ht)
                  clear hins hld hge hdn ht
                  go_wp2
                  go_quiet ((fail))
                  have R' := R.next (b_drewN wr nq)
                  have g1' := (R'.bel.cell (p := ⟨b2, o2 + q, none⟩) hb2).trans g3
                  generalize wr.drewN nq = wz at R' g1' ⊢
                  clear R f0 g1
                  go_wp2_with (at_builtin; refine wpList_append_lies _ rfl _ _ 25 rfl w3.heap.size 9 i0 (.string ⟨#[]⟩) 1 16 Try.underlying25 hi hz0 hz1 hz2 rfl (by decide) _ ms.length (strsV ms) rfl (R'.alloc (.cells #[.string X] 9)).row ⟨wz.heap.size, 0, none⟩ 1 1 [.string X] rfl rfl news1 ?c2 (by decide) ?c3 ?c4 ?c5 _ rfl ?_)
                  case c2 => intro u hu; simp at hu; subst hu; rfl
                  case c3 => unfold maxLen; omega
                  case c4 => omega
                  case c5 => have := R'.bel.size; simp; omega
                  intro g cap w4 hown hgrow hat hlt4
                  have R4 := R'.snoc HXd.out hgrow hown
                  have hl4 : (ms ++ [x]).length = ms.length + 1 := by simp
                  have HR4 := hide R4
                  clear hown hgrow hat hlt4 R4
                  go_wp2
                  go_roundw
                  case rel => exact ⟨q + 1, ms ++ [x], false, some ⟨g, 0, none⟩, cap, by omega, by go_num, rfl, by rw [hl4], Hins.out, by omega, HR4.out⟩
                  case measure => simp [intOf]; omega
            · have hend := ins_end (by omega) hins
              rw [← Hst.out] at hend
              have hqe : q = ns.length := by omega
              cases d with
              | true =>
                have Hend := hide hend
                clear hend hins
                go_wp2
                go_roundw
                case rel => exact ⟨k + 1, ms, a2, c2, by omega, by go_num, Hend.out, rfl, StrsAt.of_owns R.row, B.trans ((BB.trans (R.bel.mono BB.size)).mono B.size)⟩
                case measure => simp [intOf]; omega
              | false =>
                have Hend : Hid (nmK bs (k + 1) = ms ++ [n]) := hide hend
                clear hend hins
                go_wp2_with (at_builtin; refine wpList_append_lies _ rfl _ _ 25 rfl w3.heap.size 9 i0 (.string ⟨#[]⟩) 1 16 Try.underlying25 hi hz0 hz1 hz2 rfl (by decide) _ ms.length (strsV ms) rfl (R.alloc (.cells #[.string M] 9)).row ⟨wr.heap.size, 0, none⟩ 1 1 [.string M] rfl rfl news1 ?c2 (by decide) ?c3 ?c4 ?c5 _ rfl ?_)
                case c2 => intro u hu; simp at hu; subst hu; rfl
                case c3 => unfold maxLen; omega
                case c4 => omega
                case c5 => have := R.bel.size; simp; omega
                intro g cap w4 hown hgrow hat hlt4
                have R4 := R.snoc Hn.out hgrow hown
                have hl4 : (ms ++ [n]).length = ms.length + 1 := by simp
                have HR4 := hide R4
                clear hown hgrow hat hlt4 R4
                go_wp2
                go_roundw
                case rel => exact ⟨k + 1, ms ++ [n], some ⟨g, 0, none⟩, cap, by omega, by go_num, Hend.out, by rw [hl4], StrsAt.of_owns HR4.out.row, B.trans ((BB.trans (HR4.out.bel.mono BB.size)).mono B.size)⟩
                case measure => simp [intOf]; omega
    · have he : nmK bs k = namesV bs := nmK_end bs k (by omega)
      rw [hns] at he
      have He := hide he
      clear he hns
      go_wp2
      go_ret
      rw [← He.out]
      exact ⟨_, _, rfl, T, B⟩
end Go.Proofs.Ytgnccmmbpgnamaa
