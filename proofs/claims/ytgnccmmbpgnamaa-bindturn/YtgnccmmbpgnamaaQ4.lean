/-
  WALKS: the law BindTurn (layer 9).
-/
import Derived.Test.YtgnccmmbpgnamaaQ3
namespace Go.Proofs.Ytgnccmmbpgnamaa
open Go.RowKit

theorem nodup_more {l : List (List UInt8)} {n : List UInt8} : (l ++ [n]).Nodup ↔ l.Nodup ∧ n ∉ l := by
  rw [List.nodup_append]
  simp
  intro _
  exact ⟨fun h hn => h n hn rfl, fun h a ha e => h (by rw [← e]; exact ha)⟩
theorem Rw.weak {base n : Nat} {W : World} {v : Value} {es : List Ev} (h : Rw base W v es) (hn : n ≤ base) : Rw n W v es := by
  refine ⟨⟨h.row.1, ?_⟩, h.val, h.off⟩
  rcases h.row.2 with h2 | ⟨g, cap, cur, h1, h2, h3⟩
  · exact .inl h2
  · exact .inr ⟨g, cap, cur, h1, Nat.le_trans hn h2, h3⟩
theorem keep_bx {W W' : World} {k : Nat} {cs : Array Value} {t : TypeId} {row : Option Nat} (X : Bx W k cs t) (hg : W.grownBy W' row) (hne : some k ≠ row) : Bx W' k cs t := (hg.block k X.lt hne).trans X
theorem ev_of {M S : ByteArray} {kd : Int} {l p : Value} {b : Bd} {w : World} (hM : M.data.toList = b.1) (hv : VlAt w (.agg #[.int .i64 kd, .string S, l, p]) b.2) : EAt w ⟨b, l, p⟩ ∧ cellsE ⟨b, l, p⟩ = [.string M, .int .i64 kd, .string S, l, p] := by
  have eM : M = ⟨b.1.toArray⟩ := by rw [← hM]
  obtain ⟨sl, sp, e, h1, h2⟩ := hv
  cases e
  rw [eM]
  exact ⟨⟨h1, h2⟩, rfl⟩
theorem one_binds {W : World} {k : Nat} {e : Ev} {M S : ByteArray} {kd : Int} {l p : Value} (X : Bx W k #[.string M, .int .i64 kd, .string S, l, p] 41) (he : EAt W e) (hc : cellsE e = [.string M, .int .i64 kd, .string S, l, p]) : BindsE W (.slice (some ⟨k, 0, none⟩) 1 1) [e] := by
  refine ⟨.inr ⟨by simp, k, 0, 1, rfl, fun q hq j u hj => ?_⟩, fun f hf => by rw [List.mem_singleton] at hf; subst hf; exact he⟩
  have hq0 : q = 0 := by simp at hq; omega
  subst hq0
  simp only [List.getElem_cons_zero] at hj
  rw [hc] at hj
  have := X.cell j u (by simpa using hj)
  simpa using this
theorem step_moreM {ops : Array Oper} {o : Oper} {a : Act} {w : World} {K : Act → World → Prop} {Q : Exit → Act → World → Prop} {E : Prop} (hgd : o.guard = none) (s x : Operand)
    (ho : o.op = .call { callee := .builtin .append, args := #[s, x], argTypes := #[22, 22] }) (base : Nat) (v u : Value) (es fs : List Ev) (m : Nat) (hm : es.length + fs.length = m) (hs : a.eval s = v) (hx : a.eval x = u)
    (hr : Rw base w v es) (hu : BindsE w u fs) (hof : ∀ b, v.ownBlock = some b → ∀ f ∈ fs, OffE b f) (hn : m ≤ 1000000) (hbase : base ≤ w.heap.size)
    (h : ∀ d c w', Rw base w' (.slice d m c) (es ++ fs) → w.grownBy w' v.ownBlock → K (a.put o.dst (.slice d m c)) w') :
    if Region.wanted o (yielded ops a.tmps) = true then Oper.wp Try.prog o a w K Q else E := by
  have hw : Region.wanted o (yielded ops a.tmps) = true := by simp [Region.wanted, hgd]
  rw [if_pos hw]
  subst hm
  obtain ⟨d, c, w', hrun, h2, h3⟩ := run_moreB w o.type base v u es fs hr hu hof hn hbase
  unfold Oper.wp execOp
  simp only [ho, resolve, invoke, builtin, Sem.run_bind, Sem.run_pure, Result.andThen_ok, List.map_toArray, List.map_cons, List.map_nil, hs, hx, hrun]
  exact h d c w' h2 h3
set_option maxRecDepth 20000 in
set_option maxHeartbeats 16000000 in
theorem turn_walk (va : Value) (xs : List Bd) (M S : ByteArray) (kd : Int) (a1 a2 : Option Addr) (n1 n2 c1 c2 : Nat) (b : Bd) (w : World) (HA : BindsAt w va xs) (hM : M.data.toList = b.1) (hv : VlAt w (.agg #[.int .i64 kd, .string S, .slice a1 n1 c1, .slice a2 n2 c2]) b.2) (WA : WideB xs) (WB : WideB [b]) :
    Calls Try.prog 7 #[va, .agg #[.string M, .int .i64 kd, .string S, .slice a1 n1 c1, .slice a2 n2 c2]] w fun e w' => e = .returned (.bool true) ∧ Below w.heap.size w w' := by
  obtain ⟨i0, hi, hz0, hz1, hz2⟩ := info_parts info9
  obtain ⟨heb, hC⟩ := ev_of hM hv
  obtain ⟨eb, hev⟩ : ∃ eb : Ev, (⟨b, .slice a1 n1 c1, .slice a2 n2 c2⟩ : Ev) = eb := ⟨_, rfl⟩
  have hebb : eb.b = b := by rw [← hev]
  rw [hev] at heb hC
  have Heb := hide heb
  have HC := hide hC
  have Hebb := hide hebb
  have HMd := hide hM
  have HA0 := hide HA
  obtain ⟨aa, ac, rfl⟩ := HA.form
  have X := Bx.made w #[.string M, .int .i64 kd, .string S, .slice a1 n1 c1, .slice a2 n2 c2] 41
  have B := b_alloc w (.cells #[.string M, .int .i64 kd, .string S, .slice a1 n1 c1, .slice a2 n2 c2] 41)
  have T1 : Hid True := trivial
  have T2 : Hid True := trivial
  clear HA heb hC hev hv hebb hM
  cases ha : fewB xs with
  | false =>
    have Ha := hide ha
    clear ha
    go_enter Try.func7, Try.ntmps7
    go_wp2_with (first
      | (go_at_call 9; refine (awake_any _).mono ?_; rintro e w1 ⟨rfl, bb⟩; replace B := b_then B bb; clear bb)
      | (go_at_call 10; refine (bfew_is _ xs false _ (HA0.out.later B) WA Ha.out).mono ?_; rintro e w2 ⟨rfl, bb⟩; replace B := b_then B bb; clear bb))
    go_ret
    exact ⟨rfl, B⟩
  | true =>
    have Ha := hide ha
    have FA := fd_of ha
    have hxl := (fewB_of ha).1
    clear ha
    cases hb : fewB [b] with
    | false =>
      have Hb := hide hb
      clear hb
      go_enter Try.func7, Try.ntmps7
      go_wp2_with (first
        | (go_at_call 9; refine (awake_any _).mono ?_; rintro e w1 ⟨rfl, bb⟩; replace B := b_then B bb; replace X := X.next bb; clear bb)
        | (have z := T1; go_at_call 10; refine (bfew_is _ xs true _ (HA0.out.later B) WA Ha.out).mono ?_; rintro e w2 ⟨rfl, bb⟩; replace B := b_then B bb; replace X := X.next bb; obtain ⟨x0, x1, x2, x3, x4⟩ := cells5 X; have HB : BindsAt (w2.alloc (.cells #[.string M, .int .i64 kd, .string S, .slice a1 n1 c1, .slice a2 n2 c2] 41)) (.slice (some ⟨w2.heap.size, 0, none⟩) 1 1) [b] := ⟨[eb], by (rw [← Hebb.out]; rfl), one_binds (Bx.made w2 _ 41) (Heb.out.later (B.alloc B.size _)) HC.out⟩; replace B := B.alloc B.size (.cells #[.string M, .int .i64 kd, .string S, .slice a1 n1 c1, .slice a2 n2 c2] 41); clear bb T1 z)
        | (have z := T2; go_at_call 10; refine (bfew_is _ [b] false _ HB WB Hb.out).mono ?_; rintro e w3 ⟨rfl, bb⟩; replace B := b_then B bb; clear bb T2 z))
      go_ret
      exact ⟨rfl, B⟩
    | true =>
      have Hb := hide hb
      have FB := (fewB_of hb).2 b (List.mem_cons_self ..)
      clear hb
      have T8 : Hid True := trivial
      have T9 : Hid True := trivial
      go_enter Try.func7, Try.ntmps7
      go_wp2_with (first
        | (go_at_call 9; refine (awake_any _).mono ?_; rintro e w1 ⟨rfl, bb⟩; replace B := b_then B bb; replace X := X.next bb; clear bb)
        | (have z := T1; go_at_call 10; refine (bfew_is _ xs true _ (HA0.out.later B) WA Ha.out).mono ?_; rintro e w2 ⟨rfl, bb⟩; replace B := b_then B bb; replace X := X.next bb; obtain ⟨x0, x1, x2, x3, x4⟩ := cells5 X; have HB : BindsAt (w2.alloc (.cells #[.string M, .int .i64 kd, .string S, .slice a1 n1 c1, .slice a2 n2 c2] 41)) (.slice (some ⟨w2.heap.size, 0, none⟩) 1 1) [b] := ⟨[eb], by (rw [← Hebb.out]; rfl), one_binds (Bx.made w2 _ 41) (Heb.out.later (B.alloc B.size _)) HC.out⟩; replace B := B.alloc B.size (.cells #[.string M, .int .i64 kd, .string S, .slice a1 n1 c1, .slice a2 n2 c2] 41); replace X := X.later (.cells #[.string M, .int .i64 kd, .string S, .slice a1 n1 c1, .slice a2 n2 c2] 41); clear bb T1 z)
        | (have z := T2; go_at_call 10; refine (bfew_is _ [b] true _ HB WB Hb.out).mono ?_; rintro e w3 ⟨rfl, bb⟩; replace B := b_then B bb; replace X := X.next bb; clear bb T2 z))
      have B3 := hide B
      have X3 := hide X
      obtain ⟨m, hm⟩ : ∃ m, xs.length = m := ⟨_, rfl⟩
      have Hm := hide hm
      rw [hm] at HA0 hxl ⊢
      clear B X HB x0 x1 x2 x3 x4 hm
      go_loopw [6, 7, 8] (fun u o i wr => ∃ (q : Nat) (ms : List (List UInt8)) (t : Bool) (na : Option Addr) (nc : Nat), q ≤ m ∧ i = .int .i64 q ∧ (xs.take q).map (·.1) = ms ∧ ms.length ≤ q ∧ Hid (t = true ↔ ms.Nodup) ∧ o = .bool t ∧ u = .slice na ms.length nc ∧ Sr w3 wr (.slice na ms.length nc) ms) (fun _ _ i _ => m - (intOf i).toNat)
      case atStart => exact ⟨0, [], true, none, 0, Nat.zero_le _, rfl, rfl, Nat.le_refl _, hide (iff_of_true rfl List.nodup_nil), rfl, rfl, Sr.nil _⟩
      case round =>
        obtain ⟨q, ms, t, na, nc, hq, rfl, hms, hml, Ho, rfl, rfl, R0⟩ := hrel
        by_cases hlm : q < m
        · have hqx : q < xs.length := by rw [Hm.out]; exact hlm
          obtain ⟨b1, off, cap0, kd0, N, S0, sl0, sp0, ea, hb1, d0, _, _, _, _, hv0, hN⟩ := (HA0.out.later (b_then B3.out R0.bel)).one q hqx
          rw [Hm.out] at ea
          cases ea
          have hnx : (xs.take (q + 1)).map (·.1) = ms ++ [xs[q].1] := by rw [List.take_succ_eq_append_getElem hqx, List.map_append, hms]; rfl
          obtain ⟨n, hn⟩ : ∃ n, xs[q].1 = n := ⟨_, rfl⟩
          rw [hn] at hnx hN
          have HNd := hide hN
          have Hnx := hide hnx
          have R := hide R0
          have h0 : (0 : Int) ≤ q := by omega
          have h1 : (q : Int) < m := by omega
          clear hv0
          clear hnx hN hn hms R0 hqx
          cases t with
          | false =>
            go_wp2_with (first
              | fail
              | (at_builtin; refine wpList_append_lies _ rfl _ _ 25 rfl w3.heap.size 9 i0 (.string ⟨#[]⟩) 1 16 Try.underlying25 hi hz0 hz1 hz2 rfl (by decide) _ ms.length (strsV ms) rfl (R.out.alloc (.cells #[.string N] 9)).row ⟨wr.heap.size, 0, none⟩ 1 1 [.string N] rfl rfl news1 ?c2 (by decide) ?c3 ?c4 ?c5 _ rfl ?_))
            case c2 => intro u hu; simp at hu; subst hu; rfl
            case c3 => unfold maxLen; omega
            case c4 => omega
            case c5 => have := R.out.bel.size; simp; omega
            intro g cap w8 hown hgrow hat hlt4
            have R8 := R.out.snoc HNd.out hgrow hown
            have hl8 : (ms ++ [n]).length = ms.length + 1 := by simp
            have HR8 := hide R8
            clear hown hgrow hat hlt4 R8
            go_wp2
            go_roundw
            case rel => exact ⟨q + 1, ms ++ [n], false, some ⟨g, 0, none⟩, cap, by omega, by go_num, Hnx.out, by omega, hide (iff_of_false (by simp) (fun h => by have := Ho.out.2 (nodup_more.1 h).1; cases this)), rfl, by rw [hl8], HR8.out⟩
            case measure => simp [intOf]; omega
          | true =>
            obtain ⟨hc, hhc⟩ : ∃ hc, ms.contains N.data.toList = hc := ⟨_, rfl⟩
            have Hhc := hide hhc
            rw [HNd.out] at hhc
            cases hc with
            | true =>
              have hnc : n ∈ ms := List.contains_iff_mem.1 hhc
              clear hhc
              go_wp2_with (first
                | (go_at_call 26; refine (has_is ms _ N true _ (by omega) (StrsAt.of_owns R.out.row) Hhc.out).mono ?_; rintro e w7 ⟨rfl, b7⟩; have g7 := ((b7.cell (p := ⟨b1, off + q * 5, none⟩) (lt_of_cell d0)).trans d0); have R7 := hide (R.out.next b7))
                | (at_builtin; refine wpList_append_lies _ rfl _ _ 25 rfl w3.heap.size 9 i0 (.string ⟨#[]⟩) 1 16 Try.underlying25 hi hz0 hz1 hz2 rfl (by decide) _ ms.length (strsV ms) rfl (R7.out.alloc (.cells #[.string N] 9)).row ⟨w7.heap.size, 0, none⟩ 1 1 [.string N] rfl rfl news1 ?c2 (by decide) ?c3 ?c4 ?c5 _ rfl ?_))
              case c2 => intro u hu; simp at hu; subst hu; rfl
              case c3 => unfold maxLen; omega
              case c4 => omega
              case c5 => have := R7.out.bel.size; simp; omega
              intro g cap w8 hown hgrow hat hlt4
              have R8 := R7.out.snoc HNd.out hgrow hown
              have hl8 : (ms ++ [n]).length = ms.length + 1 := by simp
              have HR8 := hide R8
              clear hown hgrow hat hlt4 R8
              go_wp2
              go_roundw
              case rel => exact ⟨q + 1, ms ++ [n], false, some ⟨g, 0, none⟩, cap, by omega, by go_num, Hnx.out, by omega, hide (iff_of_false (by simp) (fun h => (nodup_more.1 h).2 hnc)), rfl, by rw [hl8], HR8.out⟩
              case measure => simp [intOf]; omega
            | false =>
              have hnc : n ∉ ms := fun h => by rw [List.contains_iff_mem.2 h] at hhc; cases hhc
              clear hhc
              go_wp2_with (first
                | (go_at_call 26; refine (has_is ms _ N false _ (by omega) (StrsAt.of_owns R.out.row) Hhc.out).mono ?_; rintro e w7 ⟨rfl, b7⟩; have g7 := ((b7.cell (p := ⟨b1, off + q * 5, none⟩) (lt_of_cell d0)).trans d0); have R7 := hide (R.out.next b7))
                | (at_builtin; refine wpList_append_lies _ rfl _ _ 25 rfl w3.heap.size 9 i0 (.string ⟨#[]⟩) 1 16 Try.underlying25 hi hz0 hz1 hz2 rfl (by decide) _ ms.length (strsV ms) rfl (R7.out.alloc (.cells #[.string N] 9)).row ⟨w7.heap.size, 0, none⟩ 1 1 [.string N] rfl rfl news1 ?c2 (by decide) ?c3 ?c4 ?c5 _ rfl ?_))
              case c2 => intro u hu; simp at hu; subst hu; rfl
              case c3 => unfold maxLen; omega
              case c4 => omega
              case c5 => have := R7.out.bel.size; simp; omega
              intro g cap w8 hown hgrow hat hlt4
              have R8 := R7.out.snoc HNd.out hgrow hown
              have hl8 : (ms ++ [n]).length = ms.length + 1 := by simp
              have HR8 := hide R8
              clear hown hgrow hat hlt4 R8
              go_wp2
              go_roundw
              case rel => exact ⟨q + 1, ms ++ [n], true, some ⟨g, 0, none⟩, cap, by omega, by go_num, Hnx.out, by omega, hide (iff_of_true rfl (nodup_more.2 ⟨Ho.out.1 (by first | rfl | trivial), hnc⟩)), rfl, by rw [hl8], HR8.out⟩
              case measure => simp [intOf]; omega
        · obtain ⟨w4, hw4⟩ : ∃ w4, w4 = wr := ⟨_, rfl⟩
          subst hw4
          have hqm : q = m := by omega
          have hnms : xs.map (·.1) = ms := by rw [← hms, List.take_of_length_le (by rw [Hm.out]; omega)]
          obtain ⟨nl, hnl⟩ : ∃ nl, ms.length = nl := ⟨_, rfl⟩
          have HT := hide (StrsAt.of_owns R0.row)
          rw [hnl] at HT hml ⊢
          have B4 := hide (b_then B3.out R0.bel)
          have X4 := hide (X3.out.next R0.bel)
          obtain ⟨es, hpe, hE4⟩ := HA0.out.later B4.out
          have HE4 := hide hE4
          have Hpe := hide hpe
          have Hnms := hide hnms
          have Hnl := hide hnl
          have hel : es.length = m := by rw [← Hm.out, ← hpe]; simp [plainE]
          have Hel := hide hel
          clear hms hnms hpe hE4 R0 hnl hqm hel
          go_wp2
          go_loopw [9, 10] (fun o i wq => ∃ (k : Nat) (fs : List Ev) (va : Option Addr) (vc : Nat), k ≤ m ∧ i = .int .i64 (((m - k : Nat) : Int) - 1) ∧ es.reverse.take k = fs ∧ fs.length ≤ k ∧ o = .slice va fs.length vc ∧ Rw w4.heap.size wq (.slice va fs.length vc) fs ∧ Below w4.heap.size w4 wq) (fun _ i _ => (intOf i + 1).toNat)
          case atStart => exact ⟨0, [], none, 0, Nat.zero_le _, by go_num, rfl, Nat.le_refl _, rfl, Rw.nil _ _, Below.refl _ _⟩
          case round =>
            obtain ⟨k, fs, va, vc, hk, rfl, hfs, hfl, rfl, R, Bq⟩ := hrel
            by_cases hkm : k < m
            · obtain ⟨p, hp⟩ : ∃ p, m - k = p + 1 := ⟨m - k - 1, by omega⟩
              have e : ((m - k : Nat) : Int) - 1 = (p : Int) := by rw [hp]; omega
              rw [e]
              have hpl : p < es.length := by rw [Hel.out]; omega
              obtain ⟨bq, oq, cq, ea, hbq, g0, g1, g2, g3, g4⟩ := (HE4.out.1.later Bq).at p hpl
              rw [Hel.out] at ea
              cases ea
              have hep := HE4.out.2 _ (List.getElem_mem hpl)
              have hkr : k < es.reverse.length := by simp; rw [Hel.out]; exact hkm
              have hnx : es.reverse.take (k + 1) = fs ++ [es[p]] := by
                rw [List.take_succ_eq_append_getElem hkr, hfs, List.getElem_reverse]
                have : es.length - 1 - k = p := by rw [Hel.out]; omega
                simp only [this]
              obtain ⟨ep, hee⟩ : ∃ ep, es[p] = ep := ⟨_, rfl⟩
              rw [hee] at g0 g1 g2 g3 g4 hep hnx
              obtain ⟨l1, d1, hl1⟩ := hep.1.form
              obtain ⟨l2, d2, hl2⟩ := hep.2.form
              rw [hl1] at g3
              rw [hl2] at g4
              obtain ⟨N, hN⟩ : ∃ N : ByteArray, (⟨ep.b.1.toArray⟩ : ByteArray) = N := ⟨_, rfl⟩
              obtain ⟨S1, hS1⟩ : ∃ N : ByteArray, (⟨ep.b.2.s.toArray⟩ : ByteArray) = N := ⟨_, rfl⟩
              obtain ⟨k1, hk1⟩ : ∃ k, ep.b.2.kind = k := ⟨_, rfl⟩
              obtain ⟨y1, hy1⟩ : ∃ y, ep.b.2.l.length = y := ⟨_, rfl⟩
              obtain ⟨y2, hy2⟩ : ∃ y, ep.b.2.p.length = y := ⟨_, rfl⟩
              rw [hy1] at hl1 g3
              rw [hy2] at hl2 g4
              have hCp : cellsE ep = [.string N, .int .i64 k1, .string S1, .slice l1 y1 d1, .slice l2 y2 d2] := by unfold cellsE; rw [hN, hS1, hk1, hl1, hl2]
              rw [hN] at g0
              rw [hk1] at g1
              rw [hS1] at g2
              have HCp := hide hCp
              have Hep := hide hep
              have Hnx := hide hnx
              have HR := hide R
              have h0 : (0 : Int) ≤ p := by omega
              have h1 : (p : Int) < m := by omega
              have hfl2 : fs.length ≤ 20 := by omega
              clear hCp hep hnx hfs R hN hS1 hk1 hl1 hl2 hy1 hy2 hee e hkr hpl
              go_wp2_with (at_builtin; refine wpList_moreM rfl _ _ rfl w4.heap.size _ _ fs [ep] (fs.length + 1) rfl rfl rfl (HR.out.alloc _) (one_binds (Bx.made _ _ 41) (Hep.out.later (Bq.alloc Bq.size _)) HCp.out) (off_of_old HR.out (fun f hf => by rw [List.mem_singleton] at hf; subst hf; exact Hep.out) (Nat.le_refl _)) (by omega) (by have := Bq.size; simp; omega) ?_; intro p2 q2 w9 R9 hg9)
              have B9 := (HR.out.alloc (.cells #[.string N, .int .i64 k1, .string S1, .slice l1 y1 d1, .slice l2 y2 d2] 41)).below (n := w4.heap.size) (Nat.le_refl _) (Bq.alloc Bq.size _).size hg9 (Bq.alloc Bq.size _)
              have HR9 := hide R9
              have hl9 : (fs ++ [ep]).length = fs.length + 1 := by simp
              clear R9 hg9
              go_wp2
              go_roundw
              case rel => exact ⟨k + 1, fs ++ [ep], p2, q2, by omega, by go_num, Hnx.out, by omega, by rw [hl9], by rw [hl9]; exact HR9.out, B9⟩
              case measure => simp [intOf]
            · obtain ⟨w6, hw6⟩ : ∃ w6, w6 = wr := ⟨_, rfl⟩
              subst hw6
              have hkm2 : k = m := by omega
              have hbk : es.reverse = fs := by rw [← hfs, List.take_of_length_le (by simp; rw [Hel.out]; omega)]
              have hpb : plainE fs = xs.reverse := by rw [← hbk, ← Hpe.out]; simp [plainE]
              have hfl2 : fs.length = m := by rw [← hbk]; simp; exact Hel.out
              have B6 := hide (b_then B4.out Bq)
              have HX6 := hide (X4.out.next Bq)
              have HE6 := hide (HE4.out.later Bq)
              have HT6 := hide (HT.out.later Bq)
              have Hbk := hide R.binds
              have hxl3 : xs.length ≤ 20 := by rw [Hm.out]; exact hxl
              have Fbk : Fd (plainE fs) := ⟨by rw [hpb]; simp; omega, fun x hx => by rw [hpb, List.mem_reverse] at hx; exact FA.all x hx⟩
              have Fm : Fd (xs ++ [b]) := ⟨by simp; omega, fun x hx => by
                rcases List.mem_append.1 hx with hx | hx
                · exact FA.all x hx
                · rw [List.mem_singleton] at hx; subst hx; exact FB⟩
              have Hpm := hide (show plainE (es ++ [eb]) = xs ++ [b] by rw [← Hpe.out, ← Hebb.out]; simp [plainE])
              have Hrev := hide (show t = true → sameB xs (plainE fs) = true from fun ht => by rw [hpb]; exact sameB_of (canon_reverse (by rw [Hnms.out]; exact Ho.out.1 ht)))
              obtain ⟨hb, hhb⟩ : ∃ hb, ms.contains M.data.toList = hb := ⟨_, rfl⟩
              have Hhb := hide hhb
              have Hmore := hide (show hb = true → sameB xs (xs ++ [b]) = true from fun h => by
                rw [h, HMd.out] at hhb
                exact sameB_of (canon_more (by rw [Hnms.out]; exact List.contains_iff_mem.1 hhb)))
              rw [hfl2] at Hbk ⊢
              have BB0 : Hid (Below w6.heap.size w6 w6) := hide (Below.refl _ _)
              have hml2 : nl ≤ 20 := by omega
              have e2 : ((m - k : Nat) : Int) - 1 = -1 := by omega
              rw [e2]
              clear hfs hfl hbk hpb hhb R Bq hkm2 hkm hfl2 hml hk e2 hxl3
              cases t
              all_goals cases hb
              all_goals
                go_wp2
                refine wp_region_any (by kernel_rfl) ?_
                change wpAny _ _ _ _ _ _ _ (World.drew _)
                refine wpAny_take (i := 1) (v := ?_) rfl (by kernel_rfl) (by kernel_rfl) (by kernel_rfl) (fun _ _ _ h => h) (Or.inl ⟨by rfl, ?_⟩) ?_
                rotate_left
                · intro w; go_simp; try with_reducible rfl
                refine wpAny_ready (rs := [0, 3]) (by kernel_rfl) (by simp) ?_
                refine AllReady.cons rfl (fun K hK => ?_) ?_
                · have BB1 := hide ((BB0.out).alloc (BB0.out).size (.cells #[] 41))
                  have RR2 : Hid (Rw w6.heap.size (w6.alloc (.cells #[] 41)) (.slice (some ⟨w6.heap.size, 0, none⟩) 0 0) []) := hide (by have := (Rw.empty w6).weak (BB0.out).size; simpa using this)
                  go_simp
                  refine hK _ _ ?_; clear hK K
                  refine wpAny_ready (rs := [2, 3]) (by kernel_rfl) (by simp) ?_
                  refine AllReady.cons rfl (fun K hK => ?_) ?_
                  · refine step_moreM (by rfl) _ _ (by rfl) w6.heap.size (.slice (some ⟨w6.heap.size, 0, none⟩) 0 0) (.slice aa m ac) [] es m (by rw [Hel.out]; simp) (by rfl) (by rfl) RR2.out.drew (HE6.out.later BB1.out.drew) (off_of_old RR2.out HE6.out.2 (Nat.le_refl _)) (by omega) (BB1.out.drew).size ?_
                    intro d7 k7 w7 R7 hg7
                    have BB3 := hide ((RR2.out.drew).below (n := w6.heap.size) (Nat.le_refl _) (BB1.out.drew).size hg7 BB1.out.drew)
                    rw [List.nil_append] at R7
                    have RR4 := hide R7
                    clear R7 hg7
                    refine hK _ _ ?_; clear hK K
                    refine wpAny_ready (rs := [3]) (by kernel_rfl) (by simp) ?_
                    refine AllReady.cons rfl (fun K hK => ?_) AllReady.nil
                    obtain ⟨x0, x1, x2, x3, x4⟩ := cells5 (HX6.out.next BB3.out)
                    go_simp
                    refine hK _ _ ?_; clear hK K
                    clear x0 x1 x2 x3 x4
                    refine wpAny_ready (rs := [4]) (by kernel_rfl) (by simp) ?_
                    refine AllReady.cons rfl (fun K hK => ?_) AllReady.nil
                    have BB5 := hide ((BB3.out).alloc (BB3.out).size (.cells #[.string M, .int .i64 kd, .string S, .slice a1 n1 c1, .slice a2 n2 c2] 41))
                    have XX6 : Hid (Bx (w7.alloc (.cells #[.string M, .int .i64 kd, .string S, .slice a1 n1 c1, .slice a2 n2 c2] 41)) (w7.heap.size) #[.string M, .int .i64 kd, .string S, .slice a1 n1 c1, .slice a2 n2 c2] 41) := hide (by have := Bx.made w7 #[.string M, .int .i64 kd, .string S, .slice a1 n1 c1, .slice a2 n2 c2] 41; simpa using this)
                    have RR7 := hide ((RR4.out).alloc (.cells #[.string M, .int .i64 kd, .string S, .slice a1 n1 c1, .slice a2 n2 c2] 41))
                    go_simp
                    refine hK _ _ ?_; clear hK K
                    refine wpAny_ready (rs := [5]) (by kernel_rfl) (by simp) ?_
                    refine AllReady.cons rfl (fun K hK => ?_) AllReady.nil
                    refine step_moreM (by rfl) _ _ (by rfl) w6.heap.size (.slice d7 m k7) (.slice (some ⟨w7.heap.size, 0, none⟩) 1 1) es [eb] (m + 1) (by rw [Hel.out]; rfl) (by rfl) (by rfl) RR7.out (one_binds XX6.out (Heb.out.later (b_then B6.out BB5.out)) HC.out) (off_of_old RR7.out (fun f hf => by rw [List.mem_singleton] at hf; subst hf; exact Heb.out) B6.out.size) (by omega) BB5.out.size ?_
                    intro d9 k9 w9 R9 hg9
                    have bz9 := hide ((RR7.out).below (n := w6.heap.size) (Nat.le_refl _) BB5.out.size hg9 BB5.out)
                    have B9 := hide (b_then B6.out bz9.out)
                    have X9 := HX6.out.next bz9.out
                    obtain ⟨x0, x1, x2, x3, x4⟩ := cells5 X9
                    have hb9 := R9.binds
                    rw [Hpm.out] at hb9
                    have Hb9 := hide hb9
                    clear R9 hg9 hb9
                    refine hK _ _ ?_; clear hK K
                    refine wpAny_ready (rs := [6]) (by kernel_rfl) (by simp) ?_
                    refine AllReady.cons rfl (fun K hK => ?_) AllReady.nil
                    go_simp
                    refine hK _ _ ?_; clear hK K
                    refine wpAny_done (by kernel_rfl) ?_ _
                    go_wp2_with (first
                      | (have z := T8; go_at_call 20; refine (psame_any _ _ xs (plainE fs) true _ (HA0.out.later B9.out) (Hbk.out.later bz9.out) FA Fbk (Hrev.out (by first | rfl | trivial))).mono ?_; rintro e u1 ⟨rfl, bb⟩; replace X9 := X9.next bb; obtain ⟨y0, y1, y2, y3, y4⟩ := cells5 X9; replace B9 := hide (b_then B9.out bb); replace bz9 := hide (b_then bz9.out bb); replace Hb9 := hide (Hb9.out.later bb); clear bb T8 z)
                      | (go_at_call 26; refine (has_is ms _ M _ _ (by rw [Hnl.out]; omega) (HT6.out.later bz9.out) Hhb.out).mono ?_; rintro e u2 ⟨rfl, bb⟩; replace B9 := hide (b_then B9.out bb); replace bz9 := hide (b_then bz9.out bb); replace Hb9 := hide (Hb9.out.later bb); clear bb)
                      | (have z := T9; go_at_call 20; refine (psame_any _ _ xs (xs ++ [b]) true _ (HA0.out.later B9.out) Hb9.out FA Fm (Hmore.out (by first | rfl | trivial))).mono ?_; rintro e u3 ⟨rfl, bb⟩; replace B9 := hide (b_then B9.out bb); clear bb T9 z))
                    go_ret
                    exact ⟨rfl, B9.out⟩
                  refine AllReady.cons rfl (fun K hK => ?_) AllReady.nil
                  obtain ⟨x0, x1, x2, x3, x4⟩ := cells5 (HX6.out.next BB1.out.drew)
                  go_simp
                  refine hK _ _ ?_; clear hK K
                  clear x0 x1 x2 x3 x4
                  refine wpAny_ready (rs := [2, 4]) (by kernel_rfl) (by simp) ?_
                  refine AllReady.cons rfl (fun K hK => ?_) ?_
                  · refine step_moreM (by rfl) _ _ (by rfl) w6.heap.size (.slice (some ⟨w6.heap.size, 0, none⟩) 0 0) (.slice aa m ac) [] es m (by rw [Hel.out]; simp) (by rfl) (by rfl) RR2.out.drew (HE6.out.later BB1.out.drew) (off_of_old RR2.out HE6.out.2 (Nat.le_refl _)) (by omega) (BB1.out.drew).size ?_
                    intro d7 k7 w7 R7 hg7
                    have BB3 := hide ((RR2.out.drew).below (n := w6.heap.size) (Nat.le_refl _) (BB1.out.drew).size hg7 BB1.out.drew)
                    rw [List.nil_append] at R7
                    have RR4 := hide R7
                    clear R7 hg7
                    refine hK _ _ ?_; clear hK K
                    refine wpAny_ready (rs := [4]) (by kernel_rfl) (by simp) ?_
                    refine AllReady.cons rfl (fun K hK => ?_) AllReady.nil
                    have BB5 := hide ((BB3.out).alloc (BB3.out).size (.cells #[.string M, .int .i64 kd, .string S, .slice a1 n1 c1, .slice a2 n2 c2] 41))
                    have XX6 : Hid (Bx (w7.alloc (.cells #[.string M, .int .i64 kd, .string S, .slice a1 n1 c1, .slice a2 n2 c2] 41)) (w7.heap.size) #[.string M, .int .i64 kd, .string S, .slice a1 n1 c1, .slice a2 n2 c2] 41) := hide (by have := Bx.made w7 #[.string M, .int .i64 kd, .string S, .slice a1 n1 c1, .slice a2 n2 c2] 41; simpa using this)
                    have RR7 := hide ((RR4.out).alloc (.cells #[.string M, .int .i64 kd, .string S, .slice a1 n1 c1, .slice a2 n2 c2] 41))
                    go_simp
                    refine hK _ _ ?_; clear hK K
                    refine wpAny_ready (rs := [5]) (by kernel_rfl) (by simp) ?_
                    refine AllReady.cons rfl (fun K hK => ?_) AllReady.nil
                    refine step_moreM (by rfl) _ _ (by rfl) w6.heap.size (.slice d7 m k7) (.slice (some ⟨w7.heap.size, 0, none⟩) 1 1) es [eb] (m + 1) (by rw [Hel.out]; rfl) (by rfl) (by rfl) RR7.out (one_binds XX6.out (Heb.out.later (b_then B6.out BB5.out)) HC.out) (off_of_old RR7.out (fun f hf => by rw [List.mem_singleton] at hf; subst hf; exact Heb.out) B6.out.size) (by omega) BB5.out.size ?_
                    intro d9 k9 w9 R9 hg9
                    have bz9 := hide ((RR7.out).below (n := w6.heap.size) (Nat.le_refl _) BB5.out.size hg9 BB5.out)
                    have B9 := hide (b_then B6.out bz9.out)
                    have X9 := HX6.out.next bz9.out
                    obtain ⟨x0, x1, x2, x3, x4⟩ := cells5 X9
                    have hb9 := R9.binds
                    rw [Hpm.out] at hb9
                    have Hb9 := hide hb9
                    clear R9 hg9 hb9
                    refine hK _ _ ?_; clear hK K
                    refine wpAny_ready (rs := [6]) (by kernel_rfl) (by simp) ?_
                    refine AllReady.cons rfl (fun K hK => ?_) AllReady.nil
                    go_simp
                    refine hK _ _ ?_; clear hK K
                    refine wpAny_done (by kernel_rfl) ?_ _
                    go_wp2_with (first
                      | (have z := T8; go_at_call 20; refine (psame_any _ _ xs (plainE fs) true _ (HA0.out.later B9.out) (Hbk.out.later bz9.out) FA Fbk (Hrev.out (by first | rfl | trivial))).mono ?_; rintro e u1 ⟨rfl, bb⟩; replace X9 := X9.next bb; obtain ⟨y0, y1, y2, y3, y4⟩ := cells5 X9; replace B9 := hide (b_then B9.out bb); replace bz9 := hide (b_then bz9.out bb); replace Hb9 := hide (Hb9.out.later bb); clear bb T8 z)
                      | (go_at_call 26; refine (has_is ms _ M _ _ (by rw [Hnl.out]; omega) (HT6.out.later bz9.out) Hhb.out).mono ?_; rintro e u2 ⟨rfl, bb⟩; replace B9 := hide (b_then B9.out bb); replace bz9 := hide (b_then bz9.out bb); replace Hb9 := hide (Hb9.out.later bb); clear bb)
                      | (have z := T9; go_at_call 20; refine (psame_any _ _ xs (xs ++ [b]) true _ (HA0.out.later B9.out) Hb9.out FA Fm (Hmore.out (by first | rfl | trivial))).mono ?_; rintro e u3 ⟨rfl, bb⟩; replace B9 := hide (b_then B9.out bb); clear bb T9 z))
                    go_ret
                    exact ⟨rfl, B9.out⟩
                  refine AllReady.cons rfl (fun K hK => ?_) AllReady.nil
                  have BB3 := hide ((BB1.out).alloc (BB1.out).size (.cells #[.string M, .int .i64 kd, .string S, .slice a1 n1 c1, .slice a2 n2 c2] 41))
                  have XX4 : Hid (Bx ((w6.alloc (.cells #[] 41)).alloc (.cells #[.string M, .int .i64 kd, .string S, .slice a1 n1 c1, .slice a2 n2 c2] 41)) (w6.heap.size + 1) #[.string M, .int .i64 kd, .string S, .slice a1 n1 c1, .slice a2 n2 c2] 41) := hide (by have := Bx.made (w6.alloc (.cells #[] 41)) #[.string M, .int .i64 kd, .string S, .slice a1 n1 c1, .slice a2 n2 c2] 41; simpa using this)
                  have RR5 := hide ((RR2.out).alloc (.cells #[.string M, .int .i64 kd, .string S, .slice a1 n1 c1, .slice a2 n2 c2] 41))
                  go_simp
                  refine hK _ _ ?_; clear hK K
                  refine wpAny_ready (rs := [2]) (by kernel_rfl) (by simp) ?_
                  refine AllReady.cons rfl (fun K hK => ?_) AllReady.nil
                  refine step_moreM (by rfl) _ _ (by rfl) w6.heap.size (.slice (some ⟨w6.heap.size, 0, none⟩) 0 0) (.slice aa m ac) [] es m (by rw [Hel.out]; simp) (by rfl) (by rfl) RR5.out.drew (HE6.out.later BB3.out.drew) (off_of_old RR5.out HE6.out.2 (Nat.le_refl _)) (by omega) (BB3.out.drew).size ?_
                  intro d7 k7 w7 R7 hg7
                  have BB6 := hide ((RR5.out.drew).below (n := w6.heap.size) (Nat.le_refl _) (BB3.out.drew).size hg7 BB3.out.drew)
                  have XX8 := hide (keep_bx (XX4.out.drew) hg7 (fun e => by have e2 : (w6.heap.size + 1) = (w6.heap.size) := Option.some.inj e; omega))
                  rw [List.nil_append] at R7
                  have RR7 := hide R7
                  clear R7 hg7
                  refine hK _ _ ?_; clear hK K
                  refine wpAny_ready (rs := [5]) (by kernel_rfl) (by simp) ?_
                  refine AllReady.cons rfl (fun K hK => ?_) AllReady.nil
                  refine step_moreM (by rfl) _ _ (by rfl) w6.heap.size (.slice d7 m k7) (.slice (some ⟨w6.heap.size + 1, 0, none⟩) 1 1) es [eb] (m + 1) (by rw [Hel.out]; rfl) (by rfl) (by rfl) RR7.out (one_binds XX8.out (Heb.out.later (b_then B6.out BB6.out)) HC.out) (off_of_old RR7.out (fun f hf => by rw [List.mem_singleton] at hf; subst hf; exact Heb.out) B6.out.size) (by omega) BB6.out.size ?_
                  intro d9 k9 w9 R9 hg9
                  have bz9 := hide ((RR7.out).below (n := w6.heap.size) (Nat.le_refl _) BB6.out.size hg9 BB6.out)
                  have B9 := hide (b_then B6.out bz9.out)
                  have X9 := HX6.out.next bz9.out
                  obtain ⟨x0, x1, x2, x3, x4⟩ := cells5 X9
                  have hb9 := R9.binds
                  rw [Hpm.out] at hb9
                  have Hb9 := hide hb9
                  clear R9 hg9 hb9
                  refine hK _ _ ?_; clear hK K
                  refine wpAny_ready (rs := [6]) (by kernel_rfl) (by simp) ?_
                  refine AllReady.cons rfl (fun K hK => ?_) AllReady.nil
                  go_simp
                  refine hK _ _ ?_; clear hK K
                  refine wpAny_done (by kernel_rfl) ?_ _
                  go_wp2_with (first
                    | (have z := T8; go_at_call 20; refine (psame_any _ _ xs (plainE fs) true _ (HA0.out.later B9.out) (Hbk.out.later bz9.out) FA Fbk (Hrev.out (by first | rfl | trivial))).mono ?_; rintro e u1 ⟨rfl, bb⟩; replace X9 := X9.next bb; obtain ⟨y0, y1, y2, y3, y4⟩ := cells5 X9; replace B9 := hide (b_then B9.out bb); replace bz9 := hide (b_then bz9.out bb); replace Hb9 := hide (Hb9.out.later bb); clear bb T8 z)
                    | (go_at_call 26; refine (has_is ms _ M _ _ (by rw [Hnl.out]; omega) (HT6.out.later bz9.out) Hhb.out).mono ?_; rintro e u2 ⟨rfl, bb⟩; replace B9 := hide (b_then B9.out bb); replace bz9 := hide (b_then bz9.out bb); replace Hb9 := hide (Hb9.out.later bb); clear bb)
                    | (have z := T9; go_at_call 20; refine (psame_any _ _ xs (xs ++ [b]) true _ (HA0.out.later B9.out) Hb9.out FA Fm (Hmore.out (by first | rfl | trivial))).mono ?_; rintro e u3 ⟨rfl, bb⟩; replace B9 := hide (b_then B9.out bb); clear bb T9 z))
                  go_ret
                  exact ⟨rfl, B9.out⟩
                refine AllReady.cons rfl (fun K hK => ?_) AllReady.nil
                obtain ⟨x0, x1, x2, x3, x4⟩ := cells5 (HX6.out.next BB0.out.drew)
                go_simp
                refine hK _ _ ?_; clear hK K
                clear x0 x1 x2 x3 x4
                refine wpAny_ready (rs := [0, 4]) (by kernel_rfl) (by simp) ?_
                refine AllReady.cons rfl (fun K hK => ?_) ?_
                · have BB1 := hide ((BB0.out).alloc (BB0.out).size (.cells #[] 41))
                  have RR2 : Hid (Rw w6.heap.size (w6.alloc (.cells #[] 41)) (.slice (some ⟨w6.heap.size, 0, none⟩) 0 0) []) := hide (by have := (Rw.empty w6).weak (BB0.out).size; simpa using this)
                  go_simp
                  refine hK _ _ ?_; clear hK K
                  refine wpAny_ready (rs := [2, 4]) (by kernel_rfl) (by simp) ?_
                  refine AllReady.cons rfl (fun K hK => ?_) ?_
                  · refine step_moreM (by rfl) _ _ (by rfl) w6.heap.size (.slice (some ⟨w6.heap.size, 0, none⟩) 0 0) (.slice aa m ac) [] es m (by rw [Hel.out]; simp) (by rfl) (by rfl) RR2.out.drew (HE6.out.later BB1.out.drew) (off_of_old RR2.out HE6.out.2 (Nat.le_refl _)) (by omega) (BB1.out.drew).size ?_
                    intro d7 k7 w7 R7 hg7
                    have BB3 := hide ((RR2.out.drew).below (n := w6.heap.size) (Nat.le_refl _) (BB1.out.drew).size hg7 BB1.out.drew)
                    rw [List.nil_append] at R7
                    have RR4 := hide R7
                    clear R7 hg7
                    refine hK _ _ ?_; clear hK K
                    refine wpAny_ready (rs := [4]) (by kernel_rfl) (by simp) ?_
                    refine AllReady.cons rfl (fun K hK => ?_) AllReady.nil
                    have BB5 := hide ((BB3.out).alloc (BB3.out).size (.cells #[.string M, .int .i64 kd, .string S, .slice a1 n1 c1, .slice a2 n2 c2] 41))
                    have XX6 : Hid (Bx (w7.alloc (.cells #[.string M, .int .i64 kd, .string S, .slice a1 n1 c1, .slice a2 n2 c2] 41)) (w7.heap.size) #[.string M, .int .i64 kd, .string S, .slice a1 n1 c1, .slice a2 n2 c2] 41) := hide (by have := Bx.made w7 #[.string M, .int .i64 kd, .string S, .slice a1 n1 c1, .slice a2 n2 c2] 41; simpa using this)
                    have RR7 := hide ((RR4.out).alloc (.cells #[.string M, .int .i64 kd, .string S, .slice a1 n1 c1, .slice a2 n2 c2] 41))
                    go_simp
                    refine hK _ _ ?_; clear hK K
                    refine wpAny_ready (rs := [5]) (by kernel_rfl) (by simp) ?_
                    refine AllReady.cons rfl (fun K hK => ?_) AllReady.nil
                    refine step_moreM (by rfl) _ _ (by rfl) w6.heap.size (.slice d7 m k7) (.slice (some ⟨w7.heap.size, 0, none⟩) 1 1) es [eb] (m + 1) (by rw [Hel.out]; rfl) (by rfl) (by rfl) RR7.out (one_binds XX6.out (Heb.out.later (b_then B6.out BB5.out)) HC.out) (off_of_old RR7.out (fun f hf => by rw [List.mem_singleton] at hf; subst hf; exact Heb.out) B6.out.size) (by omega) BB5.out.size ?_
                    intro d9 k9 w9 R9 hg9
                    have bz9 := hide ((RR7.out).below (n := w6.heap.size) (Nat.le_refl _) BB5.out.size hg9 BB5.out)
                    have B9 := hide (b_then B6.out bz9.out)
                    have X9 := HX6.out.next bz9.out
                    obtain ⟨x0, x1, x2, x3, x4⟩ := cells5 X9
                    have hb9 := R9.binds
                    rw [Hpm.out] at hb9
                    have Hb9 := hide hb9
                    clear R9 hg9 hb9
                    refine hK _ _ ?_; clear hK K
                    refine wpAny_ready (rs := [6]) (by kernel_rfl) (by simp) ?_
                    refine AllReady.cons rfl (fun K hK => ?_) AllReady.nil
                    go_simp
                    refine hK _ _ ?_; clear hK K
                    refine wpAny_done (by kernel_rfl) ?_ _
                    go_wp2_with (first
                      | (have z := T8; go_at_call 20; refine (psame_any _ _ xs (plainE fs) true _ (HA0.out.later B9.out) (Hbk.out.later bz9.out) FA Fbk (Hrev.out (by first | rfl | trivial))).mono ?_; rintro e u1 ⟨rfl, bb⟩; replace X9 := X9.next bb; obtain ⟨y0, y1, y2, y3, y4⟩ := cells5 X9; replace B9 := hide (b_then B9.out bb); replace bz9 := hide (b_then bz9.out bb); replace Hb9 := hide (Hb9.out.later bb); clear bb T8 z)
                      | (go_at_call 26; refine (has_is ms _ M _ _ (by rw [Hnl.out]; omega) (HT6.out.later bz9.out) Hhb.out).mono ?_; rintro e u2 ⟨rfl, bb⟩; replace B9 := hide (b_then B9.out bb); replace bz9 := hide (b_then bz9.out bb); replace Hb9 := hide (Hb9.out.later bb); clear bb)
                      | (have z := T9; go_at_call 20; refine (psame_any _ _ xs (xs ++ [b]) true _ (HA0.out.later B9.out) Hb9.out FA Fm (Hmore.out (by first | rfl | trivial))).mono ?_; rintro e u3 ⟨rfl, bb⟩; replace B9 := hide (b_then B9.out bb); clear bb T9 z))
                    go_ret
                    exact ⟨rfl, B9.out⟩
                  refine AllReady.cons rfl (fun K hK => ?_) AllReady.nil
                  have BB3 := hide ((BB1.out).alloc (BB1.out).size (.cells #[.string M, .int .i64 kd, .string S, .slice a1 n1 c1, .slice a2 n2 c2] 41))
                  have XX4 : Hid (Bx ((w6.alloc (.cells #[] 41)).alloc (.cells #[.string M, .int .i64 kd, .string S, .slice a1 n1 c1, .slice a2 n2 c2] 41)) (w6.heap.size + 1) #[.string M, .int .i64 kd, .string S, .slice a1 n1 c1, .slice a2 n2 c2] 41) := hide (by have := Bx.made (w6.alloc (.cells #[] 41)) #[.string M, .int .i64 kd, .string S, .slice a1 n1 c1, .slice a2 n2 c2] 41; simpa using this)
                  have RR5 := hide ((RR2.out).alloc (.cells #[.string M, .int .i64 kd, .string S, .slice a1 n1 c1, .slice a2 n2 c2] 41))
                  go_simp
                  refine hK _ _ ?_; clear hK K
                  refine wpAny_ready (rs := [2]) (by kernel_rfl) (by simp) ?_
                  refine AllReady.cons rfl (fun K hK => ?_) AllReady.nil
                  refine step_moreM (by rfl) _ _ (by rfl) w6.heap.size (.slice (some ⟨w6.heap.size, 0, none⟩) 0 0) (.slice aa m ac) [] es m (by rw [Hel.out]; simp) (by rfl) (by rfl) RR5.out.drew (HE6.out.later BB3.out.drew) (off_of_old RR5.out HE6.out.2 (Nat.le_refl _)) (by omega) (BB3.out.drew).size ?_
                  intro d7 k7 w7 R7 hg7
                  have BB6 := hide ((RR5.out.drew).below (n := w6.heap.size) (Nat.le_refl _) (BB3.out.drew).size hg7 BB3.out.drew)
                  have XX8 := hide (keep_bx (XX4.out.drew) hg7 (fun e => by have e2 : (w6.heap.size + 1) = (w6.heap.size) := Option.some.inj e; omega))
                  rw [List.nil_append] at R7
                  have RR7 := hide R7
                  clear R7 hg7
                  refine hK _ _ ?_; clear hK K
                  refine wpAny_ready (rs := [5]) (by kernel_rfl) (by simp) ?_
                  refine AllReady.cons rfl (fun K hK => ?_) AllReady.nil
                  refine step_moreM (by rfl) _ _ (by rfl) w6.heap.size (.slice d7 m k7) (.slice (some ⟨w6.heap.size + 1, 0, none⟩) 1 1) es [eb] (m + 1) (by rw [Hel.out]; rfl) (by rfl) (by rfl) RR7.out (one_binds XX8.out (Heb.out.later (b_then B6.out BB6.out)) HC.out) (off_of_old RR7.out (fun f hf => by rw [List.mem_singleton] at hf; subst hf; exact Heb.out) B6.out.size) (by omega) BB6.out.size ?_
                  intro d9 k9 w9 R9 hg9
                  have bz9 := hide ((RR7.out).below (n := w6.heap.size) (Nat.le_refl _) BB6.out.size hg9 BB6.out)
                  have B9 := hide (b_then B6.out bz9.out)
                  have X9 := HX6.out.next bz9.out
                  obtain ⟨x0, x1, x2, x3, x4⟩ := cells5 X9
                  have hb9 := R9.binds
                  rw [Hpm.out] at hb9
                  have Hb9 := hide hb9
                  clear R9 hg9 hb9
                  refine hK _ _ ?_; clear hK K
                  refine wpAny_ready (rs := [6]) (by kernel_rfl) (by simp) ?_
                  refine AllReady.cons rfl (fun K hK => ?_) AllReady.nil
                  go_simp
                  refine hK _ _ ?_; clear hK K
                  refine wpAny_done (by kernel_rfl) ?_ _
                  go_wp2_with (first
                    | (have z := T8; go_at_call 20; refine (psame_any _ _ xs (plainE fs) true _ (HA0.out.later B9.out) (Hbk.out.later bz9.out) FA Fbk (Hrev.out (by first | rfl | trivial))).mono ?_; rintro e u1 ⟨rfl, bb⟩; replace X9 := X9.next bb; obtain ⟨y0, y1, y2, y3, y4⟩ := cells5 X9; replace B9 := hide (b_then B9.out bb); replace bz9 := hide (b_then bz9.out bb); replace Hb9 := hide (Hb9.out.later bb); clear bb T8 z)
                    | (go_at_call 26; refine (has_is ms _ M _ _ (by rw [Hnl.out]; omega) (HT6.out.later bz9.out) Hhb.out).mono ?_; rintro e u2 ⟨rfl, bb⟩; replace B9 := hide (b_then B9.out bb); replace bz9 := hide (b_then bz9.out bb); replace Hb9 := hide (Hb9.out.later bb); clear bb)
                    | (have z := T9; go_at_call 20; refine (psame_any _ _ xs (xs ++ [b]) true _ (HA0.out.later B9.out) Hb9.out FA Fm (Hmore.out (by first | rfl | trivial))).mono ?_; rintro e u3 ⟨rfl, bb⟩; replace B9 := hide (b_then B9.out bb); clear bb T9 z))
                  go_ret
                  exact ⟨rfl, B9.out⟩
                refine AllReady.cons rfl (fun K hK => ?_) AllReady.nil
                have BB1 := hide ((BB0.out).alloc (BB0.out).size (.cells #[.string M, .int .i64 kd, .string S, .slice a1 n1 c1, .slice a2 n2 c2] 41))
                have XX2 : Hid (Bx (w6.alloc (.cells #[.string M, .int .i64 kd, .string S, .slice a1 n1 c1, .slice a2 n2 c2] 41)) (w6.heap.size) #[.string M, .int .i64 kd, .string S, .slice a1 n1 c1, .slice a2 n2 c2] 41) := hide (by have := Bx.made w6 #[.string M, .int .i64 kd, .string S, .slice a1 n1 c1, .slice a2 n2 c2] 41; simpa using this)
                go_simp
                refine hK _ _ ?_; clear hK K
                refine wpAny_ready (rs := [0]) (by kernel_rfl) (by simp) ?_
                refine AllReady.cons rfl (fun K hK => ?_) AllReady.nil
                have BB3 := hide ((BB1.out).alloc (BB1.out).size (.cells #[] 41))
                have RR4 : Hid (Rw w6.heap.size ((w6.alloc (.cells #[.string M, .int .i64 kd, .string S, .slice a1 n1 c1, .slice a2 n2 c2] 41)).alloc (.cells #[] 41)) (.slice (some ⟨w6.heap.size + 1, 0, none⟩) 0 0) []) := hide (by have := (Rw.empty (w6.alloc (.cells #[.string M, .int .i64 kd, .string S, .slice a1 n1 c1, .slice a2 n2 c2] 41))).weak (BB1.out).size; simpa using this)
                have XX5 := hide ((XX2.out).later (.cells #[] 41))
                go_simp
                refine hK _ _ ?_; clear hK K
                refine wpAny_ready (rs := [2]) (by kernel_rfl) (by simp) ?_
                refine AllReady.cons rfl (fun K hK => ?_) AllReady.nil
                refine step_moreM (by rfl) _ _ (by rfl) w6.heap.size (.slice (some ⟨w6.heap.size + 1, 0, none⟩) 0 0) (.slice aa m ac) [] es m (by rw [Hel.out]; simp) (by rfl) (by rfl) RR4.out.drew (HE6.out.later BB3.out.drew) (off_of_old RR4.out HE6.out.2 (Nat.le_refl _)) (by omega) (BB3.out.drew).size ?_
                intro d7 k7 w7 R7 hg7
                have BB6 := hide ((RR4.out.drew).below (n := w6.heap.size) (Nat.le_refl _) (BB3.out.drew).size hg7 BB3.out.drew)
                have XX8 := hide (keep_bx (XX5.out.drew) hg7 (fun e => by have e2 : (w6.heap.size) = (w6.heap.size + 1) := Option.some.inj e; omega))
                rw [List.nil_append] at R7
                have RR7 := hide R7
                clear R7 hg7
                refine hK _ _ ?_; clear hK K
                refine wpAny_ready (rs := [5]) (by kernel_rfl) (by simp) ?_
                refine AllReady.cons rfl (fun K hK => ?_) AllReady.nil
                refine step_moreM (by rfl) _ _ (by rfl) w6.heap.size (.slice d7 m k7) (.slice (some ⟨w6.heap.size, 0, none⟩) 1 1) es [eb] (m + 1) (by rw [Hel.out]; rfl) (by rfl) (by rfl) RR7.out (one_binds XX8.out (Heb.out.later (b_then B6.out BB6.out)) HC.out) (off_of_old RR7.out (fun f hf => by rw [List.mem_singleton] at hf; subst hf; exact Heb.out) B6.out.size) (by omega) BB6.out.size ?_
                intro d9 k9 w9 R9 hg9
                have bz9 := hide ((RR7.out).below (n := w6.heap.size) (Nat.le_refl _) BB6.out.size hg9 BB6.out)
                have B9 := hide (b_then B6.out bz9.out)
                have X9 := HX6.out.next bz9.out
                obtain ⟨x0, x1, x2, x3, x4⟩ := cells5 X9
                have hb9 := R9.binds
                rw [Hpm.out] at hb9
                have Hb9 := hide hb9
                clear R9 hg9 hb9
                refine hK _ _ ?_; clear hK K
                refine wpAny_ready (rs := [6]) (by kernel_rfl) (by simp) ?_
                refine AllReady.cons rfl (fun K hK => ?_) AllReady.nil
                go_simp
                refine hK _ _ ?_; clear hK K
                refine wpAny_done (by kernel_rfl) ?_ _
                go_wp2_with (first
                  | (have z := T8; go_at_call 20; refine (psame_any _ _ xs (plainE fs) true _ (HA0.out.later B9.out) (Hbk.out.later bz9.out) FA Fbk (Hrev.out (by first | rfl | trivial))).mono ?_; rintro e u1 ⟨rfl, bb⟩; replace X9 := X9.next bb; obtain ⟨y0, y1, y2, y3, y4⟩ := cells5 X9; replace B9 := hide (b_then B9.out bb); replace bz9 := hide (b_then bz9.out bb); replace Hb9 := hide (Hb9.out.later bb); clear bb T8 z)
                  | (go_at_call 26; refine (has_is ms _ M _ _ (by rw [Hnl.out]; omega) (HT6.out.later bz9.out) Hhb.out).mono ?_; rintro e u2 ⟨rfl, bb⟩; replace B9 := hide (b_then B9.out bb); replace bz9 := hide (b_then bz9.out bb); replace Hb9 := hide (Hb9.out.later bb); clear bb)
                  | (have z := T9; go_at_call 20; refine (psame_any _ _ xs (xs ++ [b]) true _ (HA0.out.later B9.out) Hb9.out FA Fm (Hmore.out (by first | rfl | trivial))).mono ?_; rintro e u3 ⟨rfl, bb⟩; replace B9 := hide (b_then B9.out bb); clear bb T9 z))
                go_ret
                exact ⟨rfl, B9.out⟩
end Go.Proofs.Ytgnccmmbpgnamaa
