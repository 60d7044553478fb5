/-
  WALKS: the program's Names, Canon (layer 9).
-/
import Derived.Test.YtgnccmmbpgnamaaG4
import Derived.Maps.OwnOps
namespace Go.Proofs.Ytgnccmmbpgnamaa
open Go.RowKit

theorem names_short {bs : List Bd} (F : Fd bs) : ∀ x ∈ namesV bs, x.length ≤ 200 := fun x hx => by
  obtain ⟨y, hy, rfl⟩ := List.mem_map.1 (is_mem ((mem_names bs x).1 hx))
  exact (F.all y hy).nm
theorem ok_names {bs : List Bd} {D : DataW Unit} (h : MapOk bs 0 D) : ∀ x, x ∈ namesV bs ↔ Maps.has D (.string x) = true := fun x => by
  rw [mem_names, (h.2 x).1, List.drop_zero]
theorem pnames_any (v : Value) (bs : List Bd) (w : World) (H : BindsAt w v bs) (F : Fd bs) : Calls Try.prog 15 #[v] w fun e w' => TextsPost w (namesV bs) e w' := by
  have hl := names_len bs
  have hl2 := F.len
  have hs := hide (names_short F)
  have HF := hide (firsts_any v bs w H F)
  obtain ⟨la, lc, rfl⟩ := H.form
  clear F H
  go_enter Try.func15, Try.ntmps15
  go_wp2_with (first
    | (go_at_call 31; refine HF.out.mono ?_; rintro e w1 ⟨m, n, D, rfl, _, hn, hmap, hok, bb⟩; have Hok := hide hok; have HM := hide hmap; clear hok hmap)
    | (go_at_call 30; refine (rising_any m n D _ (namesV bs) _ HM.out (by omega) (names_rise bs) (ok_names Hok.out) (by omega) (fun x hx => by have := hs.out x hx; omega)).mono ?_; rintro e w2 ⟨a, c, rfl, T, b2⟩))
  go_ret
  exact ⟨a, c, rfl, T, bb.trans (b2.mono bb.size)⟩
theorem ok_at {bs : List Bd} {D : DataW Unit} (h : MapOk bs 0 D) {n : List UInt8} (hi : isV bs n = true) : ∃ i, ∃ h : i < bs.length, canonV bs[i].2 = getV bs n ∧ ∀ z, D.atKey (.string n) z = .lit (.int .i64 i) := by
  have hi' : isV (bs.drop 0) n = true := by rw [List.drop_zero]; exact hi
  obtain ⟨i, h1, h2, h3⟩ := (h.2 n).2 hi'
  rw [List.drop_zero] at h2
  exact ⟨i, h1, by unfold getV; rw [h2], h3⟩
set_option maxRecDepth 20000 in
set_option maxHeartbeats 8000000 in
theorem pbcanon_any (v : Value) (bs : List Bd) (w : World) (h : BindsAt w v bs) (F : Fd bs) : Calls Try.prog 18 #[v] w fun e w' => BindsPost w (canonB bs) e w' := by
  obtain ⟨j0, hj, hy0, hy1, hy2⟩ := info_parts info41
  obtain ⟨la, lc, rfl⟩ := h.form
  have hln := F.len
  have hnl := names_len bs
  have HFd := hide F.all
  have hs := hide (names_short F)
  have HF := hide (firsts_any _ bs w h F)
  have H := hide h
  clear h F
  go_enter Try.func18, Try.ntmps18
  go_wp2_with (first
    | (go_at_call 31; refine HF.out.mono ?_; rintro e w0 ⟨mp, mn, D, rfl, _, hn, hmap, hok, b0⟩; have Hok := hide hok; have HM := hide hmap; clear hok hmap HF)
    | (go_at_call 30; refine (rising_any mp mn D _ (namesV bs) _ HM.out (by omega) (names_rise bs) (ok_names Hok.out) (by omega) (fun x hx => by have := hs.out x hx; omega)).mono ?_; rintro e w1 ⟨na, nc, rfl, T, b1⟩; have HM1 := hide (map_later HM.out b1)))
  obtain ⟨m, hm⟩ : ∃ m, (namesV bs).length = m := ⟨_, rfl⟩
  have Hm := hide hm
  rw [hm] at T hnl ⊢
  have HT := hide T
  have Bw := b0.trans (b1.mono b0.size)
  clear hm T b0 b1 HM
  go_loopw [3, 12] (fun o i wr => ∃ (q : Nat) (es : List Ev) (va : Option Addr) (vc : Nat), q ≤ m ∧ i = .int .i64 q ∧ plainE es = (canonB bs).take q ∧ o = .slice va es.length vc ∧ Rw w1.heap.size wr (.slice va es.length vc) es ∧ Below w1.heap.size w1 wr) (fun _ i _ => m - (intOf i).toNat)
  case atStart => exact ⟨0, [], none, 0, Nat.zero_le _, rfl, rfl, rfl, Rw.nil _ _, Below.refl _ _⟩
  case round =>
    obtain ⟨q, es, va, vc, hq, rfl, hpl, rfl, R, B⟩ := hrel
    by_cases hlt : q < m
    · have hlq : q < (namesV bs).length := by rw [Hm.out]; exact hlt
      obtain ⟨b2, o2, c2, e, hb2, g0⟩ := HT.out.at q hlq
      rw [Hm.out] at e
      cases e
      have hnx := canon_next bs q hlq
      rw [← hpl] at hnx
      have hel : es.length ≤ 100 := by
        have := congrArg List.length hpl
        rw [List.length_take, canonB_len] at this
        simp [plainE] at this
        omega
      have his : isV bs (namesV bs)[q] = true := (mem_names bs _).1 (List.getElem_mem hlq)
      have hnml := hs.out _ (List.getElem_mem hlq)
      obtain ⟨n, hn⟩ : ∃ n, (namesV bs)[q] = n := ⟨_, rfl⟩
      rw [hn] at g0 hnx his hnml
      obtain ⟨i, hi, hcan, hat⟩ := ok_at Hok.out his
      obtain ⟨cv, hcv⟩ : ∃ cv, getV bs n = cv := ⟨_, rfl⟩
      rw [hcv] at hnx hcan
      obtain ⟨X, hX⟩ : ∃ X : ByteArray, (⟨n.toArray⟩ : ByteArray) = X := ⟨_, rfl⟩
      rw [hX] at g0
      have hXd : X.data.toList = n := by rw [← hX]
      have hkey : keyOf Try.prog 9 (.string X) = some (.string n) := by rw [← hXd]; exact WideMaps.keyOf_string_mk Try.underlying9 (by unfold maxLen; rw [size_list, hXd]; omega)
      have g1 := (B.cell (p := ⟨b2, o2 + q, none⟩) hb2).trans g0
      obtain ⟨b, off, cap, kd, M, S0, sl0, sp0, ea, hb, c0, c1, c2', c3, c4, hv, hMn⟩ := (H.out.later (Bw.trans (B.mono Bw.size))).one i hi
      cases ea
      have fi := (HFd.out _ (List.getElem_mem hi)).vl
      have HMw := hide (map_later HM1.out B)
      have Hat := hide (hat (.lit (.int .i64 0)))
      have Hcan := hide hcan
      have Hv := hide hv
      have Fi := hide fi
      have Hnx : Hid (∀ sl sp, plainE (es ++ [⟨(n, cv), sl, sp⟩]) = (canonB bs).take (q + 1)) := hide (fun sl sp => by rw [hnx]; simp [plainE])
      have HR := hide R
      have h0 : (0 : Int) ≤ i := by omega
      have h1 : (i : Int) < bs.length := by omega
      obtain ⟨y, hy⟩ : ∃ y, bs[i] = y := ⟨_, rfl⟩
      rw [hy] at Hcan Hv Fi
      clear hMn
      clear hnx hpl his hn hcv hXd R hlq hcan hv fi hat hi hy hnml
      go_wp2_with (first
        | (at_lookup; refine wpList_lookup_own_int _ rfl _ _ 50 rfl 9 3 .i64 law9 Try.underlying50 Try.underlying3 (Try.zeroValue3 _) mp mn D rfl HMw.out _ _ rfl hkey ?_; intro c hc hwc; obtain rfl : (i : Int) = c := by (rw [Hat.out] at hc; cases hc; rfl))
        | (go_at_call 28; refine (canon_any _ y.2 cv _ Hv.out (by have := Fi.out.l; omega) (by have := Fi.out.p; omega) Fi.out.t4 Hcan.out).mono ?_; rintro e w2 ⟨la2, lc2, pa2, pc2, rfl, R1, R2, bb, N1, N2⟩; have R3 := hide (HR.out.next bb))
        | (at_builtin; refine wpList_append_lies _ rfl _ _ 22 rfl w1.heap.size 41 j0 (.agg #[.string ⟨#[]⟩, .int .i64 0, .string ⟨#[]⟩, .slice none 0 0, .slice none 0 0]) 5 88 Try.underlying22 hj hy0 hy1 hy2 rfl (by decide) _ es.length (rowE es) rfl (R3.out.alloc (.cells #[.string X, .int .i64 cv.kind, .string ⟨cv.s.toArray⟩, .slice la2 cv.l.length lc2, .slice pa2 cv.p.length pc2] 41)).row ⟨w2.heap.size, 0, none⟩ 1 1 [.string X, .int .i64 cv.kind, .string ⟨cv.s.toArray⟩, .slice la2 cv.l.length lc2, .slice pa2 cv.p.length pc2] rfl rfl news5 ?c2 (by decide) ?c3 ?c4 ?c5 _ rfl ?_))
      case c2 => exact one5 ⟨rfl, rfl⟩
      case c3 => unfold maxLen; omega
      case c4 => omega
      case c5 => have := B.size; have := bb.size; simp; omega
      intro g gc w4 hown hgrow hat hlt4
      have bA := bb.alloc bb.size (.cells #[.string X, .int .i64 cv.kind, .string ⟨cv.s.toArray⟩, .slice la2 cv.l.length lc2, .slice pa2 cv.p.length pc2] 41)
      have hC : rowE [⟨(n, cv), .slice la2 cv.l.length lc2, .slice pa2 cv.p.length pc2⟩] = [.string X, .int .i64 cv.kind, .string ⟨cv.s.toArray⟩, .slice la2 cv.l.length lc2, .slice pa2 cv.p.length pc2] := by rw [← hX]; rfl
      have R4 := (R3.out.alloc (.cells #[.string X, .int .i64 cv.kind, .string ⟨cv.s.toArray⟩, .slice la2 cv.l.length lc2, .slice pa2 cv.p.length pc2] 41)).grown (fs := [⟨(n, cv), .slice la2 cv.l.length lc2, .slice pa2 cv.p.length pc2⟩]) (g := g) (cap := gc) (n := es.length + 1) (fun f hf => by rw [List.mem_singleton] at hf; subst hf; exact ⟨R1.later (b_alloc _ _), R2.later (b_alloc _ _)⟩) (fun j hj f hf => by rw [List.mem_singleton] at hf; subst hf; have := (HR.out.row.lt j hj).2; exact ⟨Off.newly N1 this, Off.newly N2 this⟩) hgrow (by rw [hC]; exact hown) (by simpa using hat) rfl
      have B4 := (B.trans (bA.mono B.size)).grown hgrow (B.trans (bA.mono B.size)).size (fun j hj => by have := (R3.out.row.lt j hj).1; omega)
      have HR4 := hide R4
      have hl4 : ∀ x : Ev, (es ++ [x]).length = es.length + 1 := fun x => by simp
      clear hown hgrow hat hlt4 R4 hC
      go_wp2
      go_roundw
      case rel => exact ⟨q + 1, es ++ [⟨(n, cv), .slice la2 cv.l.length lc2, .slice pa2 cv.p.length pc2⟩], some ⟨g, 0, none⟩, gc, by omega, by go_num, Hnx.out _ _, by rw [hl4], by rw [hl4]; exact HR4.out, B4⟩
      case measure => simp [intOf]; omega
    · have he : plainE es = canonB bs := by rw [hpl, List.take_of_length_le]; rw [canonB_len, Hm.out]; omega
      have hel : es.length = (canonB bs).length := by rw [← he]; simp [plainE]
      have He := hide he
      have Hel := hide hel
      have HR := hide R
      clear he hel hpl R
      go_wp2
      go_ret
      have h2 := HR.out.binds
      rw [He.out] at h2
      exact bpost_of Hel.out h2 (Bw.trans (B.mono Bw.size))
end Go.Proofs.Ytgnccmmbpgnamaa
