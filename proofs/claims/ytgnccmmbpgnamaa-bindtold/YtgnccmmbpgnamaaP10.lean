/-
  WALKS: abreast: two values' texts, one of each, as an iterator (layer 8).
-/
import Derived.Test.YtgnccmmbpgnamaaP9
namespace Go.Proofs.Ytgnccmmbpgnamaa
open Go.RowKit Go.Shelf
attribute [local go_sem] Oper.semAt_some

/-- what lay below n, and two blocks, stay -/
def Kp2 (n Ba Bb : Nat) (A B : World) : Prop := Below n A B ∧ (∀ o, A.heap[Ba]? = some o → B.heap[Ba]? = some o) ∧ ∀ o, A.heap[Bb]? = some o → B.heap[Bb]? = some o
theorem kp2_t {n Ba Bb : Nat} {A B C : World} (h : Kp2 n Ba Bb A B) (k : Kp2 n Ba Bb B C) : Kp2 n Ba Bb A C := ⟨h.1.trans k.1, fun o ho => k.2.1 o (h.2.1 o ho), fun o ho => k.2.2 o (h.2.2 o ho)⟩
theorem kp2_b {n Ba Bb : Nat} {w : World} (hn : n ≤ w.heap.size) (ha : Ba < w.heap.size) (hb : Bb < w.heap.size) (W : World) (l : Nat) (o o' : Obj) (hl : w.heap.size ≤ l) (ho : W.heap[l]? = some o) (hc : o.isCells = false) (hw : o.isWalk = false) : Kp2 n Ba Bb W (W.putObj l o') :=
  ⟨belowK_b hn W l o o' hl ho hc hw, fun u hu => (World.putObj_heap_other (by omega)).trans hu, fun u hu => (World.putObj_heap_other (by omega)).trans hu⟩
structure Ax (w0 W : World) (Ba Bb : Nat) (ca cb : Array Value) : Prop where
  bel : Below w0.heap.size w0 W
  fst : Bx W Ba ca 28
  snd : Bx W Bb cb 28
section
variable {w0 W W' : World} {Ba Bb : Nat} {ca cb : Array Value}
theorem Ax.next (h : Ax w0 W Ba Bb ca cb) (bb : Below W.heap.size W W') : Ax w0 W' Ba Bb ca cb := ⟨h.bel.trans (bb.mono h.bel.size), h.fst.next bb, h.snd.next bb⟩
theorem Ax.drew (h : Ax w0 W Ba Bb ca cb) : Ax w0 W.drew Ba Bb ca cb := ⟨h.bel.drew, h.fst, h.snd⟩
theorem Ax.kept (h : Ax w0 W Ba Bb ca cb) (hk : Kp2 w0.heap.size Ba Bb W W') : Ax w0 W' Ba Bb ca cb := ⟨h.bel.trans hk.1, hk.2.1 _ h.fst, hk.2.2 _ h.snd⟩
theorem Ax.all {x0 x1 x2 x3 y0 y1 y2 y3 : Value} (h : Ax w0 W Ba Bb #[x0, x1, x2, x3] #[y0, y1, y2, y3]) : W.cell? ⟨Ba, 0, none⟩ = some x0 ∧ W.cell? ⟨Ba, 1, none⟩ = some x1 ∧ W.cell? ⟨Ba, 2, none⟩ = some x2 ∧ W.cell? ⟨Ba, 3, none⟩ = some x3 ∧ W.cell? ⟨Bb, 0, none⟩ = some y0 ∧ W.cell? ⟨Bb, 1, none⟩ = some y1 ∧ W.cell? ⟨Bb, 2, none⟩ = some y2 ∧ W.cell? ⟨Bb, 3, none⟩ = some y3 := by
  obtain ⟨a0, a1, a2, a3⟩ := cells4 h.fst
  obtain ⟨b0, b1, b2, b3⟩ := cells4 h.snd
  exact ⟨a0, a1, a2, a3, b0, b1, b2, b3⟩
end
theorem abreast_any (ca cb : Array Value) (w : World) : Calls Try.prog 62 #[.agg ca, .agg cb] w fun e w' => e = .returned (.func (.func 77) #[] #[.pointer (some ⟨w.heap.size, 0, none⟩), .pointer (some ⟨w.heap.size + 1, 0, none⟩)]) ∧ w' = (w.alloc (.cells ca 28)).alloc (.cells cb 28) := by
  go_enter Try.func62, Try.ntmps62
  go_wp2
  go_ret
  exact ⟨rfl, rfl⟩
theorem zip_at (ta tb : List (List UInt8)) (k : Nat) (ha : k < ta.length) (hb : k < tb.length) : (ta.zip tb)[k]? = some (ta.getD k [], tb.getD k []) := by
  rw [List.getElem?_eq_getElem (by rw [List.length_zip]; omega), List.getElem_zip]
  simp [ha, hb]
set_option maxRecDepth 100000 in
set_option maxHeartbeats 8000000 in
theorem abreast1_stops (Ba Bb : Nat) (a b : Vl) (x0 x1 x2 x3 y0 y1 y2 y3 : Value) (xs : List Px) (w0 w : World) (HVa : VlAt w0 (.agg #[x0, x1, x2, x3]) a) (HVb : VlAt w0 (.agg #[y0, y1, y2, y3]) b) (hla : a.l.length ≤ 1000000) (hpa : a.p.length ≤ 1000000) (hlb : b.l.length ≤ 1000000) (hpb : b.p.length ≤ 1000000)
    (hA : Ax w0 w Ba Bb #[x0, x1, x2, x3] #[y0, y1, y2, y3]) (hxs : listP xs = (textsV a).zip (textsV b)) :
    SeqStopsK Fence.wide 4 Try.prog 77 #[.pointer (some ⟨Ba, 0, none⟩), .pointer (some ⟨Bb, 0, none⟩)] encP (Kp2 w0.heap.size Ba Bb) (fun ys => ys = xs) (fun pre => pre <+: xs) xs.length w := fun l J Jx W hW hJ hJx hY hj => by
  have HA := hide HVa
  have HB := hide HVb
  have Hxs := hide hxs
  have A := hA.next hW
  obtain ⟨na, hna⟩ : ∃ n, countV a = n := ⟨_, rfl⟩
  obtain ⟨nb, hnb⟩ : ∃ n, countV b = n := ⟨_, rfl⟩
  have Hna := hide hna
  have Hnb := hide hnb
  have hlen : xs.length = min na nb := by rw [← listP_len, hxs, List.length_zip, ← hna, ← hnb]; rfl
  have hnm : na ≤ 2000000 := by rw [← hna, count_is]; split <;> (try split) <;> (try split) <;> omega
  have hnm' : nb ≤ 2000000 := by rw [← hnb, count_is]; split <;> (try split) <;> (try split) <;> omega
  have hmx : Try.prog.follows .mixedOrders = true := by kernel_rfl
  obtain ⟨c0, c1, c2, c3, d0, d1, d2, d3⟩ := A.all
  clear hW hA hxs HVa HVb hna hnb
  obtain ⟨n, hn⟩ : ∃ n, min na nb = n := ⟨_, rfl⟩
  rw [hn] at hlen
  have hn1 : n ≤ na := by omega
  have hn2 : n ≤ nb := by omega
  refine callsIn_of_wp Try.func77 rfl trivial ?_ rfl
  simp only [Try.ntmps77, List.size_toArray, List.length_cons, List.length_nil, Nat.reduceAdd, Nat.reduceSub, Array.replicate_succ, Array.replicate_zero, List.push_toArray, List.append_toArray, List.nil_append, List.cons_append]
  have hcut : (if (nb : Int) < (na : Int) then (nb : Int) else (na : Int)) = (n : Int) := by split <;> omega
  have hcut2 : min (na : Int) (nb : Int) = (n : Int) := by omega
  gi_wp2
  refine wpIn_region_any (by assumption) ?_
  change wpAnyIn _ _ _ _ _ _ _ _ _ (World.drew _)
  refine wpAnyIn_take (i := 5) (v := ?_) rfl rfl (by kernel_rfl) (by kernel_rfl) (by kernel_rfl) (fun _ _ _ h => h) ⟨Or.inl ⟨by rfl, ?_⟩, fun _ => rfl⟩ ?_
  rotate_left
  · intro w; go_simp; try with_reducible rfl
  refine wpAnyIn_ready (rs := [0, 2]) (by kernel_rfl) (by simp) ?_
  refine AllReadyIn.cons rfl (fun K hK => ?_) ?_
  · go_simp
    refine hK _ _ ?_; clear hK K
    refine wpAnyIn_ready (rs := [1, 2]) (by kernel_rfl) (by simp) ?_
    refine AllReadyIn.cons rfl (fun K hK => ?_) ?_
    · go_simp
      gi_wp2_with (refine ⟨trivial, ?_⟩; gi_at_call 39; refine (callsIn_wide.2 (count_any _ a _ (by first | with_reducible exact HA.out.later A.bel | with_reducible exact HA.out.later A.drew.bel) hpa)).mono ?_; rintro e w1 ⟨rfl, bb⟩; rw [Hna.out])
      replace hj := abides hJ hj ⟨bb.os, bb.tape, bb.output, bb.size, bb.block⟩
      (first | with_reducible (replace A := A.next bb) | with_reducible (replace A := A.drew.next bb))
      clear bb
      replace c0 := A.all
      obtain ⟨c0, c1, c2, c3, d0, d1, d2, d3⟩ := c0
      refine wpAnyIn_ready (rs := [2]) (by kernel_rfl) (by simp) ?_
      refine AllReadyIn.cons rfl (fun K hK => ?_) AllReadyIn.nil
      go_simp
      refine hK _ _ ?_; clear hK K
      refine wpAnyIn_ready (rs := [3]) (by kernel_rfl) (by simp) ?_
      refine AllReadyIn.cons rfl (fun K hK => ?_) AllReadyIn.nil
      go_simp
      gi_wp2_with (refine ⟨trivial, ?_⟩; gi_at_call 39; refine (callsIn_wide.2 (count_any _ b _ (by first | with_reducible exact HB.out.later A.bel | with_reducible exact HB.out.later A.drew.bel) hpb)).mono ?_; rintro e w1 ⟨rfl, bb⟩; rw [Hnb.out])
      replace hj := abides hJ hj ⟨bb.os, bb.tape, bb.output, bb.size, bb.block⟩
      (first | with_reducible (replace A := A.next bb) | with_reducible (replace A := A.drew.next bb))
      clear bb
      replace c0 := A.all
      obtain ⟨c0, c1, c2, c3, d0, d1, d2, d3⟩ := c0
      refine wpAnyIn_ready (rs := [4]) (by kernel_rfl) (by simp) ?_
      refine AllReadyIn.cons rfl (fun K hK => ?_) AllReadyIn.nil
      go_simp
      refine hK _ _ ?_; clear hK K
      refine wpAnyIn_done (by kernel_rfl) ?_ _
      gi_wp2
      gi_loopw [10] (fun p wr => ∃ k : Nat, k ≤ n ∧ p = .int .i64 k ∧ J (xs.take k) wr ∧ Ax w0 wr Ba Bb #[x0, x1, x2, x3] #[y0, y1, y2, y3]) (fun p _ => n - (intOf p).toNat)
      case atStart => exact ⟨0, Nat.zero_le _, rfl, hj, A⟩
      case round =>
        clear hj A c0 c1 c2 c3 d0 d1 d2 d3
        obtain ⟨k, hk, rfl, hj, A⟩ := hrel
        obtain ⟨c0, c1, c2, c3, d0, d1, d2, d3⟩ := A.all
        by_cases hlt : k < n
        · have hkx : k < xs.length := by omega
          have hka : k < (textsV a).length := by have := Hna.out; unfold countV at this; omega
          have hkb : k < (textsV b).length := by have := Hnb.out; unfold countV at this; omega
          have hat := listP_at xs k hkx
          rw [Hxs.out, zip_at _ _ k hka hkb] at hat
          have hsn : xs.take (k + 1) = xs.take k ++ [xs[k]] := List.take_succ_eq_append_getElem hkx
          obtain ⟨x, hx⟩ : ∃ x, xs[k] = x := ⟨_, rfl⟩
          rw [hx] at hat hsn
          simp only [Option.some.injEq, Prod.mk.injEq] at hat
          have Hat : Hid (⟨((textsV a).getD k []).toArray⟩ = x.1.1) := by rw [hat.1]; exact hide rfl
          have Hbt : Hid (⟨((textsV b).getD k []).toArray⟩ = x.2.1) := by rw [hat.2]; exact hide rfl
          have Hsn := hide hsn
          clear hat hsn hx hka hkb
          gi_wp2
          refine wpIn_region_any (by assumption) ?_
          change wpAnyIn _ _ _ _ _ _ _ _ _ (World.drew _)
          refine wpAnyIn_take (i := 0) (v := ?_) rfl rfl (by kernel_rfl) (by kernel_rfl) (by kernel_rfl) (fun _ _ _ h => h) ⟨Or.inl ⟨by rfl, ?_⟩, fun _ => rfl⟩ ?_
          rotate_left
          · intro w; go_simp; try with_reducible rfl
          refine wpAnyIn_take (i := 2) (v := ?_) rfl rfl (by kernel_rfl) (by kernel_rfl) (by kernel_rfl) (fun _ _ _ h => h) ⟨Or.inl ⟨by rfl, ?_⟩, fun _ => rfl⟩ ?_
          rotate_left
          · intro w; go_simp; try with_reducible rfl
          refine wpAnyIn_take (i := 5) (v := ?_) rfl rfl (by kernel_rfl) (by kernel_rfl) (by kernel_rfl) (fun _ _ _ h => h) ⟨Or.inl ⟨by rfl, ?_⟩, fun _ => rfl⟩ ?_
          rotate_left
          · intro w; go_simp; try with_reducible rfl
          refine wpAnyIn_ready (rs := [1, 4]) (by kernel_rfl) (by simp) ?_
          refine AllReadyIn.cons rfl (fun K hK => ?_) ?_
          · go_simp
            refine hK _ _ ?_; clear hK K
            refine wpAnyIn_ready (rs := [3, 4]) (by kernel_rfl) (by simp) ?_
            refine AllReadyIn.cons rfl (fun K hK => ?_) ?_
            · go_simp
              gi_wp2_with (refine ⟨trivial, ?_⟩; gi_at_call 56; refine (callsIn_wide.2 (at_any _ a k x.1.1 _ (by first | with_reducible exact HA.out.later A.bel | with_reducible exact HA.out.later A.drew.bel) hla hpa (by rw [Hna.out]; omega) Hat.out)).mono ?_; rintro e w1 ⟨rfl, bb⟩)
              replace hj := abides hJ hj ⟨bb.os, bb.tape, bb.output, bb.size, bb.block⟩
              (first | with_reducible (replace A := A.next bb) | with_reducible (replace A := A.drew.next bb))
              clear bb
              replace c0 := A.all
              obtain ⟨c0, c1, c2, c3, d0, d1, d2, d3⟩ := c0
              refine wpAnyIn_ready (rs := [4]) (by kernel_rfl) (by simp) ?_
              refine AllReadyIn.cons rfl (fun K hK => ?_) AllReadyIn.nil
              go_simp
              refine hK _ _ ?_; clear hK K
              refine wpAnyIn_ready (rs := [6]) (by kernel_rfl) (by simp) ?_
              refine AllReadyIn.cons rfl (fun K hK => ?_) AllReadyIn.nil
              go_simp
              gi_wp2_with (refine ⟨trivial, ?_⟩; gi_at_call 56; refine (callsIn_wide.2 (at_any _ b k x.2.1 _ (by first | with_reducible exact HB.out.later A.bel | with_reducible exact HB.out.later A.drew.bel) hlb hpb (by rw [Hnb.out]; omega) Hbt.out)).mono ?_; rintro e w1 ⟨rfl, bb⟩)
              replace hj := abides hJ hj ⟨bb.os, bb.tape, bb.output, bb.size, bb.block⟩
              (first | with_reducible (replace A := A.next bb) | with_reducible (replace A := A.drew.next bb))
              clear bb
              replace c0 := A.all
              obtain ⟨c0, c1, c2, c3, d0, d1, d2, d3⟩ := c0
              refine wpAnyIn_ready (rs := [7]) (by kernel_rfl) (by simp) ?_
              refine AllReadyIn.cons rfl (fun K hK => ?_) AllReadyIn.nil
              obtain ⟨fn, tmps, assign, body, hy, hR⟩ := hY _ x _ hj (by simp; omega)
              dsimp only [encP] at hy
              go_simp
              refine hR.mono ?_
              rintro e W3 (⟨rfl, hJ3, hk3⟩ | ⟨rfl, hJx3⟩)
              · refine hK _ _ ?_; clear hK K
                refine wpAnyIn_ready (rs := [8]) (by kernel_rfl) (by simp) ?_
                refine AllReadyIn.cons rfl (fun K hK => ?_) AllReadyIn.nil
                go_simp
                refine hK _ _ ?_; clear hK K
                refine wpAnyIn_done (by kernel_rfl) ?_ _
                gi_wp2
                go_roundw
                case rel => exact ⟨k + 1, by omega, by go_num, by rw [Hsn.out]; exact hJ3, A.kept hk3⟩
                case measure => simp [intOf]; omega
              · refine hK _ _ ?_; clear hK K
                refine wpAnyIn_ready (rs := [8]) (by kernel_rfl) (by simp) ?_
                refine AllReadyIn.cons rfl (fun K hK => ?_) AllReadyIn.nil
                go_simp
                refine hK _ _ ?_; clear hK K
                refine wpAnyIn_done (by kernel_rfl) ?_ _
                gi_wp2
                refine bodyPost_ret (results_none rfl _ _ _) rfl ?_
                exact ⟨⟨_, rfl⟩, .inr ⟨_, ⟨xs.drop (k + 1), by rw [← Hsn.out, List.take_append_drop]⟩, hJx3⟩⟩
            refine AllReadyIn.cons rfl (fun K hK => ?_) AllReadyIn.nil
            go_simp
            refine hK _ _ ?_; clear hK K
            refine wpAnyIn_ready (rs := [3]) (by kernel_rfl) (by simp) ?_
            refine AllReadyIn.cons rfl (fun K hK => ?_) AllReadyIn.nil
            go_simp
            gi_wp2_with (refine ⟨trivial, ?_⟩; gi_at_call 56; refine (callsIn_wide.2 (at_any _ a k x.1.1 _ (by first | with_reducible exact HA.out.later A.bel | with_reducible exact HA.out.later A.drew.bel) hla hpa (by rw [Hna.out]; omega) Hat.out)).mono ?_; rintro e w1 ⟨rfl, bb⟩)
            replace hj := abides hJ hj ⟨bb.os, bb.tape, bb.output, bb.size, bb.block⟩
            (first | with_reducible (replace A := A.next bb) | with_reducible (replace A := A.drew.next bb))
            clear bb
            replace c0 := A.all
            obtain ⟨c0, c1, c2, c3, d0, d1, d2, d3⟩ := c0
            refine wpAnyIn_ready (rs := [6]) (by kernel_rfl) (by simp) ?_
            refine AllReadyIn.cons rfl (fun K hK => ?_) AllReadyIn.nil
            go_simp
            gi_wp2_with (refine ⟨trivial, ?_⟩; gi_at_call 56; refine (callsIn_wide.2 (at_any _ b k x.2.1 _ (by first | with_reducible exact HB.out.later A.bel | with_reducible exact HB.out.later A.drew.bel) hlb hpb (by rw [Hnb.out]; omega) Hbt.out)).mono ?_; rintro e w1 ⟨rfl, bb⟩)
            replace hj := abides hJ hj ⟨bb.os, bb.tape, bb.output, bb.size, bb.block⟩
            (first | with_reducible (replace A := A.next bb) | with_reducible (replace A := A.drew.next bb))
            clear bb
            replace c0 := A.all
            obtain ⟨c0, c1, c2, c3, d0, d1, d2, d3⟩ := c0
            refine wpAnyIn_ready (rs := [7]) (by kernel_rfl) (by simp) ?_
            refine AllReadyIn.cons rfl (fun K hK => ?_) AllReadyIn.nil
            obtain ⟨fn, tmps, assign, body, hy, hR⟩ := hY _ x _ hj (by simp; omega)
            dsimp only [encP] at hy
            go_simp
            refine hR.mono ?_
            rintro e W3 (⟨rfl, hJ3, hk3⟩ | ⟨rfl, hJx3⟩)
            · refine hK _ _ ?_; clear hK K
              refine wpAnyIn_ready (rs := [8]) (by kernel_rfl) (by simp) ?_
              refine AllReadyIn.cons rfl (fun K hK => ?_) AllReadyIn.nil
              go_simp
              refine hK _ _ ?_; clear hK K
              refine wpAnyIn_done (by kernel_rfl) ?_ _
              gi_wp2
              go_roundw
              case rel => exact ⟨k + 1, by omega, by go_num, by rw [Hsn.out]; exact hJ3, A.kept hk3⟩
              case measure => simp [intOf]; omega
            · refine hK _ _ ?_; clear hK K
              refine wpAnyIn_ready (rs := [8]) (by kernel_rfl) (by simp) ?_
              refine AllReadyIn.cons rfl (fun K hK => ?_) AllReadyIn.nil
              go_simp
              refine hK _ _ ?_; clear hK K
              refine wpAnyIn_done (by kernel_rfl) ?_ _
              gi_wp2
              refine bodyPost_ret (results_none rfl _ _ _) rfl ?_
              exact ⟨⟨_, rfl⟩, .inr ⟨_, ⟨xs.drop (k + 1), by rw [← Hsn.out, List.take_append_drop]⟩, hJx3⟩⟩
          refine AllReadyIn.cons rfl (fun K hK => ?_) AllReadyIn.nil
          go_simp
          refine hK _ _ ?_; clear hK K
          refine wpAnyIn_ready (rs := [1]) (by kernel_rfl) (by simp) ?_
          refine AllReadyIn.cons rfl (fun K hK => ?_) AllReadyIn.nil
          go_simp
          refine hK _ _ ?_; clear hK K
          refine wpAnyIn_ready (rs := [3]) (by kernel_rfl) (by simp) ?_
          refine AllReadyIn.cons rfl (fun K hK => ?_) AllReadyIn.nil
          go_simp
          gi_wp2_with (refine ⟨trivial, ?_⟩; gi_at_call 56; refine (callsIn_wide.2 (at_any _ a k x.1.1 _ (by first | with_reducible exact HA.out.later A.bel | with_reducible exact HA.out.later A.drew.bel) hla hpa (by rw [Hna.out]; omega) Hat.out)).mono ?_; rintro e w1 ⟨rfl, bb⟩)
          replace hj := abides hJ hj ⟨bb.os, bb.tape, bb.output, bb.size, bb.block⟩
          (first | with_reducible (replace A := A.next bb) | with_reducible (replace A := A.drew.next bb))
          clear bb
          replace c0 := A.all
          obtain ⟨c0, c1, c2, c3, d0, d1, d2, d3⟩ := c0
          refine wpAnyIn_ready (rs := [6]) (by kernel_rfl) (by simp) ?_
          refine AllReadyIn.cons rfl (fun K hK => ?_) AllReadyIn.nil
          go_simp
          gi_wp2_with (refine ⟨trivial, ?_⟩; gi_at_call 56; refine (callsIn_wide.2 (at_any _ b k x.2.1 _ (by first | with_reducible exact HB.out.later A.bel | with_reducible exact HB.out.later A.drew.bel) hlb hpb (by rw [Hnb.out]; omega) Hbt.out)).mono ?_; rintro e w1 ⟨rfl, bb⟩)
          replace hj := abides hJ hj ⟨bb.os, bb.tape, bb.output, bb.size, bb.block⟩
          (first | with_reducible (replace A := A.next bb) | with_reducible (replace A := A.drew.next bb))
          clear bb
          replace c0 := A.all
          obtain ⟨c0, c1, c2, c3, d0, d1, d2, d3⟩ := c0
          refine wpAnyIn_ready (rs := [7]) (by kernel_rfl) (by simp) ?_
          refine AllReadyIn.cons rfl (fun K hK => ?_) AllReadyIn.nil
          obtain ⟨fn, tmps, assign, body, hy, hR⟩ := hY _ x _ hj (by simp; omega)
          dsimp only [encP] at hy
          go_simp
          refine hR.mono ?_
          rintro e W3 (⟨rfl, hJ3, hk3⟩ | ⟨rfl, hJx3⟩)
          · refine hK _ _ ?_; clear hK K
            refine wpAnyIn_ready (rs := [8]) (by kernel_rfl) (by simp) ?_
            refine AllReadyIn.cons rfl (fun K hK => ?_) AllReadyIn.nil
            go_simp
            refine hK _ _ ?_; clear hK K
            refine wpAnyIn_done (by kernel_rfl) ?_ _
            gi_wp2
            go_roundw
            case rel => exact ⟨k + 1, by omega, by go_num, by rw [Hsn.out]; exact hJ3, A.kept hk3⟩
            case measure => simp [intOf]; omega
          · refine hK _ _ ?_; clear hK K
            refine wpAnyIn_ready (rs := [8]) (by kernel_rfl) (by simp) ?_
            refine AllReadyIn.cons rfl (fun K hK => ?_) AllReadyIn.nil
            go_simp
            refine hK _ _ ?_; clear hK K
            refine wpAnyIn_done (by kernel_rfl) ?_ _
            gi_wp2
            refine bodyPost_ret (results_none rfl _ _ _) rfl ?_
            exact ⟨⟨_, rfl⟩, .inr ⟨_, ⟨xs.drop (k + 1), by rw [← Hsn.out, List.take_append_drop]⟩, hJx3⟩⟩
        · have hend : xs.take k = xs := List.take_of_length_le (by omega)
          rw [hend] at hj
          gi_wp2
          go_end0
          exact ⟨⟨_, rfl⟩, .inl ⟨xs, rfl, hj⟩⟩
    refine AllReadyIn.cons rfl (fun K hK => ?_) AllReadyIn.nil
    go_simp
    refine hK _ _ ?_; clear hK K
    refine wpAnyIn_ready (rs := [1]) (by kernel_rfl) (by simp) ?_
    refine AllReadyIn.cons rfl (fun K hK => ?_) AllReadyIn.nil
    go_simp
    gi_wp2_with (refine ⟨trivial, ?_⟩; gi_at_call 39; refine (callsIn_wide.2 (count_any _ a _ (by first | with_reducible exact HA.out.later A.bel | with_reducible exact HA.out.later A.drew.bel) hpa)).mono ?_; rintro e w1 ⟨rfl, bb⟩; rw [Hna.out])
    replace hj := abides hJ hj ⟨bb.os, bb.tape, bb.output, bb.size, bb.block⟩
    (first | with_reducible (replace A := A.next bb) | with_reducible (replace A := A.drew.next bb))
    clear bb
    replace c0 := A.all
    obtain ⟨c0, c1, c2, c3, d0, d1, d2, d3⟩ := c0
    refine wpAnyIn_ready (rs := [3]) (by kernel_rfl) (by simp) ?_
    refine AllReadyIn.cons rfl (fun K hK => ?_) AllReadyIn.nil
    go_simp
    gi_wp2_with (refine ⟨trivial, ?_⟩; gi_at_call 39; refine (callsIn_wide.2 (count_any _ b _ (by first | with_reducible exact HB.out.later A.bel | with_reducible exact HB.out.later A.drew.bel) hpb)).mono ?_; rintro e w1 ⟨rfl, bb⟩; rw [Hnb.out])
    replace hj := abides hJ hj ⟨bb.os, bb.tape, bb.output, bb.size, bb.block⟩
    (first | with_reducible (replace A := A.next bb) | with_reducible (replace A := A.drew.next bb))
    clear bb
    replace c0 := A.all
    obtain ⟨c0, c1, c2, c3, d0, d1, d2, d3⟩ := c0
    refine wpAnyIn_ready (rs := [4]) (by kernel_rfl) (by simp) ?_
    refine AllReadyIn.cons rfl (fun K hK => ?_) AllReadyIn.nil
    go_simp
    refine hK _ _ ?_; clear hK K
    refine wpAnyIn_done (by kernel_rfl) ?_ _
    gi_wp2
    gi_loopw [10] (fun p wr => ∃ k : Nat, k ≤ n ∧ p = .int .i64 k ∧ J (xs.take k) wr ∧ Ax w0 wr Ba Bb #[x0, x1, x2, x3] #[y0, y1, y2, y3]) (fun p _ => n - (intOf p).toNat)
    case atStart => exact ⟨0, Nat.zero_le _, rfl, hj, A⟩
    case round =>
      clear hj A c0 c1 c2 c3 d0 d1 d2 d3
      obtain ⟨k, hk, rfl, hj, A⟩ := hrel
      obtain ⟨c0, c1, c2, c3, d0, d1, d2, d3⟩ := A.all
      by_cases hlt : k < n
      · have hkx : k < xs.length := by omega
        have hka : k < (textsV a).length := by have := Hna.out; unfold countV at this; omega
        have hkb : k < (textsV b).length := by have := Hnb.out; unfold countV at this; omega
        have hat := listP_at xs k hkx
        rw [Hxs.out, zip_at _ _ k hka hkb] at hat
        have hsn : xs.take (k + 1) = xs.take k ++ [xs[k]] := List.take_succ_eq_append_getElem hkx
        obtain ⟨x, hx⟩ : ∃ x, xs[k] = x := ⟨_, rfl⟩
        rw [hx] at hat hsn
        simp only [Option.some.injEq, Prod.mk.injEq] at hat
        have Hat : Hid (⟨((textsV a).getD k []).toArray⟩ = x.1.1) := by rw [hat.1]; exact hide rfl
        have Hbt : Hid (⟨((textsV b).getD k []).toArray⟩ = x.2.1) := by rw [hat.2]; exact hide rfl
        have Hsn := hide hsn
        clear hat hsn hx hka hkb
        gi_wp2
        refine wpIn_region_any (by assumption) ?_
        change wpAnyIn _ _ _ _ _ _ _ _ _ (World.drew _)
        refine wpAnyIn_take (i := 0) (v := ?_) rfl rfl (by kernel_rfl) (by kernel_rfl) (by kernel_rfl) (fun _ _ _ h => h) ⟨Or.inl ⟨by rfl, ?_⟩, fun _ => rfl⟩ ?_
        rotate_left
        · intro w; go_simp; try with_reducible rfl
        refine wpAnyIn_take (i := 2) (v := ?_) rfl rfl (by kernel_rfl) (by kernel_rfl) (by kernel_rfl) (fun _ _ _ h => h) ⟨Or.inl ⟨by rfl, ?_⟩, fun _ => rfl⟩ ?_
        rotate_left
        · intro w; go_simp; try with_reducible rfl
        refine wpAnyIn_take (i := 5) (v := ?_) rfl rfl (by kernel_rfl) (by kernel_rfl) (by kernel_rfl) (fun _ _ _ h => h) ⟨Or.inl ⟨by rfl, ?_⟩, fun _ => rfl⟩ ?_
        rotate_left
        · intro w; go_simp; try with_reducible rfl
        refine wpAnyIn_ready (rs := [1, 4]) (by kernel_rfl) (by simp) ?_
        refine AllReadyIn.cons rfl (fun K hK => ?_) ?_
        · go_simp
          refine hK _ _ ?_; clear hK K
          refine wpAnyIn_ready (rs := [3, 4]) (by kernel_rfl) (by simp) ?_
          refine AllReadyIn.cons rfl (fun K hK => ?_) ?_
          · go_simp
            gi_wp2_with (refine ⟨trivial, ?_⟩; gi_at_call 56; refine (callsIn_wide.2 (at_any _ a k x.1.1 _ (by first | with_reducible exact HA.out.later A.bel | with_reducible exact HA.out.later A.drew.bel) hla hpa (by rw [Hna.out]; omega) Hat.out)).mono ?_; rintro e w1 ⟨rfl, bb⟩)
            replace hj := abides hJ hj ⟨bb.os, bb.tape, bb.output, bb.size, bb.block⟩
            (first | with_reducible (replace A := A.next bb) | with_reducible (replace A := A.drew.next bb))
            clear bb
            replace c0 := A.all
            obtain ⟨c0, c1, c2, c3, d0, d1, d2, d3⟩ := c0
            refine wpAnyIn_ready (rs := [4]) (by kernel_rfl) (by simp) ?_
            refine AllReadyIn.cons rfl (fun K hK => ?_) AllReadyIn.nil
            go_simp
            refine hK _ _ ?_; clear hK K
            refine wpAnyIn_ready (rs := [6]) (by kernel_rfl) (by simp) ?_
            refine AllReadyIn.cons rfl (fun K hK => ?_) AllReadyIn.nil
            go_simp
            gi_wp2_with (refine ⟨trivial, ?_⟩; gi_at_call 56; refine (callsIn_wide.2 (at_any _ b k x.2.1 _ (by first | with_reducible exact HB.out.later A.bel | with_reducible exact HB.out.later A.drew.bel) hlb hpb (by rw [Hnb.out]; omega) Hbt.out)).mono ?_; rintro e w1 ⟨rfl, bb⟩)
            replace hj := abides hJ hj ⟨bb.os, bb.tape, bb.output, bb.size, bb.block⟩
            (first | with_reducible (replace A := A.next bb) | with_reducible (replace A := A.drew.next bb))
            clear bb
            replace c0 := A.all
            obtain ⟨c0, c1, c2, c3, d0, d1, d2, d3⟩ := c0
            refine wpAnyIn_ready (rs := [7]) (by kernel_rfl) (by simp) ?_
            refine AllReadyIn.cons rfl (fun K hK => ?_) AllReadyIn.nil
            obtain ⟨fn, tmps, assign, body, hy, hR⟩ := hY _ x _ hj (by simp; omega)
            dsimp only [encP] at hy
            go_simp
            refine hR.mono ?_
            rintro e W3 (⟨rfl, hJ3, hk3⟩ | ⟨rfl, hJx3⟩)
            · refine hK _ _ ?_; clear hK K
              refine wpAnyIn_ready (rs := [8]) (by kernel_rfl) (by simp) ?_
              refine AllReadyIn.cons rfl (fun K hK => ?_) AllReadyIn.nil
              go_simp
              refine hK _ _ ?_; clear hK K
              refine wpAnyIn_done (by kernel_rfl) ?_ _
              gi_wp2
              go_roundw
              case rel => exact ⟨k + 1, by omega, by go_num, by rw [Hsn.out]; exact hJ3, A.kept hk3⟩
              case measure => simp [intOf]; omega
            · refine hK _ _ ?_; clear hK K
              refine wpAnyIn_ready (rs := [8]) (by kernel_rfl) (by simp) ?_
              refine AllReadyIn.cons rfl (fun K hK => ?_) AllReadyIn.nil
              go_simp
              refine hK _ _ ?_; clear hK K
              refine wpAnyIn_done (by kernel_rfl) ?_ _
              gi_wp2
              refine bodyPost_ret (results_none rfl _ _ _) rfl ?_
              exact ⟨⟨_, rfl⟩, .inr ⟨_, ⟨xs.drop (k + 1), by rw [← Hsn.out, List.take_append_drop]⟩, hJx3⟩⟩
          refine AllReadyIn.cons rfl (fun K hK => ?_) AllReadyIn.nil
          go_simp
          refine hK _ _ ?_; clear hK K
          refine wpAnyIn_ready (rs := [3]) (by kernel_rfl) (by simp) ?_
          refine AllReadyIn.cons rfl (fun K hK => ?_) AllReadyIn.nil
          go_simp
          gi_wp2_with (refine ⟨trivial, ?_⟩; gi_at_call 56; refine (callsIn_wide.2 (at_any _ a k x.1.1 _ (by first | with_reducible exact HA.out.later A.bel | with_reducible exact HA.out.later A.drew.bel) hla hpa (by rw [Hna.out]; omega) Hat.out)).mono ?_; rintro e w1 ⟨rfl, bb⟩)
          replace hj := abides hJ hj ⟨bb.os, bb.tape, bb.output, bb.size, bb.block⟩
          (first | with_reducible (replace A := A.next bb) | with_reducible (replace A := A.drew.next bb))
          clear bb
          replace c0 := A.all
          obtain ⟨c0, c1, c2, c3, d0, d1, d2, d3⟩ := c0
          refine wpAnyIn_ready (rs := [6]) (by kernel_rfl) (by simp) ?_
          refine AllReadyIn.cons rfl (fun K hK => ?_) AllReadyIn.nil
          go_simp
          gi_wp2_with (refine ⟨trivial, ?_⟩; gi_at_call 56; refine (callsIn_wide.2 (at_any _ b k x.2.1 _ (by first | with_reducible exact HB.out.later A.bel | with_reducible exact HB.out.later A.drew.bel) hlb hpb (by rw [Hnb.out]; omega) Hbt.out)).mono ?_; rintro e w1 ⟨rfl, bb⟩)
          replace hj := abides hJ hj ⟨bb.os, bb.tape, bb.output, bb.size, bb.block⟩
          (first | with_reducible (replace A := A.next bb) | with_reducible (replace A := A.drew.next bb))
          clear bb
          replace c0 := A.all
          obtain ⟨c0, c1, c2, c3, d0, d1, d2, d3⟩ := c0
          refine wpAnyIn_ready (rs := [7]) (by kernel_rfl) (by simp) ?_
          refine AllReadyIn.cons rfl (fun K hK => ?_) AllReadyIn.nil
          obtain ⟨fn, tmps, assign, body, hy, hR⟩ := hY _ x _ hj (by simp; omega)
          dsimp only [encP] at hy
          go_simp
          refine hR.mono ?_
          rintro e W3 (⟨rfl, hJ3, hk3⟩ | ⟨rfl, hJx3⟩)
          · refine hK _ _ ?_; clear hK K
            refine wpAnyIn_ready (rs := [8]) (by kernel_rfl) (by simp) ?_
            refine AllReadyIn.cons rfl (fun K hK => ?_) AllReadyIn.nil
            go_simp
            refine hK _ _ ?_; clear hK K
            refine wpAnyIn_done (by kernel_rfl) ?_ _
            gi_wp2
            go_roundw
            case rel => exact ⟨k + 1, by omega, by go_num, by rw [Hsn.out]; exact hJ3, A.kept hk3⟩
            case measure => simp [intOf]; omega
          · refine hK _ _ ?_; clear hK K
            refine wpAnyIn_ready (rs := [8]) (by kernel_rfl) (by simp) ?_
            refine AllReadyIn.cons rfl (fun K hK => ?_) AllReadyIn.nil
            go_simp
            refine hK _ _ ?_; clear hK K
            refine wpAnyIn_done (by kernel_rfl) ?_ _
            gi_wp2
            refine bodyPost_ret (results_none rfl _ _ _) rfl ?_
            exact ⟨⟨_, rfl⟩, .inr ⟨_, ⟨xs.drop (k + 1), by rw [← Hsn.out, List.take_append_drop]⟩, hJx3⟩⟩
        refine AllReadyIn.cons rfl (fun K hK => ?_) AllReadyIn.nil
        go_simp
        refine hK _ _ ?_; clear hK K
        refine wpAnyIn_ready (rs := [1]) (by kernel_rfl) (by simp) ?_
        refine AllReadyIn.cons rfl (fun K hK => ?_) AllReadyIn.nil
        go_simp
        refine hK _ _ ?_; clear hK K
        refine wpAnyIn_ready (rs := [3]) (by kernel_rfl) (by simp) ?_
        refine AllReadyIn.cons rfl (fun K hK => ?_) AllReadyIn.nil
        go_simp
        gi_wp2_with (refine ⟨trivial, ?_⟩; gi_at_call 56; refine (callsIn_wide.2 (at_any _ a k x.1.1 _ (by first | with_reducible exact HA.out.later A.bel | with_reducible exact HA.out.later A.drew.bel) hla hpa (by rw [Hna.out]; omega) Hat.out)).mono ?_; rintro e w1 ⟨rfl, bb⟩)
        replace hj := abides hJ hj ⟨bb.os, bb.tape, bb.output, bb.size, bb.block⟩
        (first | with_reducible (replace A := A.next bb) | with_reducible (replace A := A.drew.next bb))
        clear bb
        replace c0 := A.all
        obtain ⟨c0, c1, c2, c3, d0, d1, d2, d3⟩ := c0
        refine wpAnyIn_ready (rs := [6]) (by kernel_rfl) (by simp) ?_
        refine AllReadyIn.cons rfl (fun K hK => ?_) AllReadyIn.nil
        go_simp
        gi_wp2_with (refine ⟨trivial, ?_⟩; gi_at_call 56; refine (callsIn_wide.2 (at_any _ b k x.2.1 _ (by first | with_reducible exact HB.out.later A.bel | with_reducible exact HB.out.later A.drew.bel) hlb hpb (by rw [Hnb.out]; omega) Hbt.out)).mono ?_; rintro e w1 ⟨rfl, bb⟩)
        replace hj := abides hJ hj ⟨bb.os, bb.tape, bb.output, bb.size, bb.block⟩
        (first | with_reducible (replace A := A.next bb) | with_reducible (replace A := A.drew.next bb))
        clear bb
        replace c0 := A.all
        obtain ⟨c0, c1, c2, c3, d0, d1, d2, d3⟩ := c0
        refine wpAnyIn_ready (rs := [7]) (by kernel_rfl) (by simp) ?_
        refine AllReadyIn.cons rfl (fun K hK => ?_) AllReadyIn.nil
        obtain ⟨fn, tmps, assign, body, hy, hR⟩ := hY _ x _ hj (by simp; omega)
        dsimp only [encP] at hy
        go_simp
        refine hR.mono ?_
        rintro e W3 (⟨rfl, hJ3, hk3⟩ | ⟨rfl, hJx3⟩)
        · refine hK _ _ ?_; clear hK K
          refine wpAnyIn_ready (rs := [8]) (by kernel_rfl) (by simp) ?_
          refine AllReadyIn.cons rfl (fun K hK => ?_) AllReadyIn.nil
          go_simp
          refine hK _ _ ?_; clear hK K
          refine wpAnyIn_done (by kernel_rfl) ?_ _
          gi_wp2
          go_roundw
          case rel => exact ⟨k + 1, by omega, by go_num, by rw [Hsn.out]; exact hJ3, A.kept hk3⟩
          case measure => simp [intOf]; omega
        · refine hK _ _ ?_; clear hK K
          refine wpAnyIn_ready (rs := [8]) (by kernel_rfl) (by simp) ?_
          refine AllReadyIn.cons rfl (fun K hK => ?_) AllReadyIn.nil
          go_simp
          refine hK _ _ ?_; clear hK K
          refine wpAnyIn_done (by kernel_rfl) ?_ _
          gi_wp2
          refine bodyPost_ret (results_none rfl _ _ _) rfl ?_
          exact ⟨⟨_, rfl⟩, .inr ⟨_, ⟨xs.drop (k + 1), by rw [← Hsn.out, List.take_append_drop]⟩, hJx3⟩⟩
      · have hend : xs.take k = xs := List.take_of_length_le (by omega)
        rw [hend] at hj
        gi_wp2
        go_end0
        exact ⟨⟨_, rfl⟩, .inl ⟨xs, rfl, hj⟩⟩
  refine AllReadyIn.cons rfl (fun K hK => ?_) AllReadyIn.nil
  go_simp
  refine hK _ _ ?_; clear hK K
  refine wpAnyIn_ready (rs := [0]) (by kernel_rfl) (by simp) ?_
  refine AllReadyIn.cons rfl (fun K hK => ?_) AllReadyIn.nil
  go_simp
  refine hK _ _ ?_; clear hK K
  refine wpAnyIn_ready (rs := [1]) (by kernel_rfl) (by simp) ?_
  refine AllReadyIn.cons rfl (fun K hK => ?_) AllReadyIn.nil
  go_simp
  gi_wp2_with (refine ⟨trivial, ?_⟩; gi_at_call 39; refine (callsIn_wide.2 (count_any _ a _ (by first | with_reducible exact HA.out.later A.bel | with_reducible exact HA.out.later A.drew.bel) hpa)).mono ?_; rintro e w1 ⟨rfl, bb⟩; rw [Hna.out])
  replace hj := abides hJ hj ⟨bb.os, bb.tape, bb.output, bb.size, bb.block⟩
  (first | with_reducible (replace A := A.next bb) | with_reducible (replace A := A.drew.next bb))
  clear bb
  replace c0 := A.all
  obtain ⟨c0, c1, c2, c3, d0, d1, d2, d3⟩ := c0
  refine wpAnyIn_ready (rs := [3]) (by kernel_rfl) (by simp) ?_
  refine AllReadyIn.cons rfl (fun K hK => ?_) AllReadyIn.nil
  go_simp
  gi_wp2_with (refine ⟨trivial, ?_⟩; gi_at_call 39; refine (callsIn_wide.2 (count_any _ b _ (by first | with_reducible exact HB.out.later A.bel | with_reducible exact HB.out.later A.drew.bel) hpb)).mono ?_; rintro e w1 ⟨rfl, bb⟩; rw [Hnb.out])
  replace hj := abides hJ hj ⟨bb.os, bb.tape, bb.output, bb.size, bb.block⟩
  (first | with_reducible (replace A := A.next bb) | with_reducible (replace A := A.drew.next bb))
  clear bb
  replace c0 := A.all
  obtain ⟨c0, c1, c2, c3, d0, d1, d2, d3⟩ := c0
  refine wpAnyIn_ready (rs := [4]) (by kernel_rfl) (by simp) ?_
  refine AllReadyIn.cons rfl (fun K hK => ?_) AllReadyIn.nil
  go_simp
  refine hK _ _ ?_; clear hK K
  refine wpAnyIn_done (by kernel_rfl) ?_ _
  gi_wp2
  gi_loopw [10] (fun p wr => ∃ k : Nat, k ≤ n ∧ p = .int .i64 k ∧ J (xs.take k) wr ∧ Ax w0 wr Ba Bb #[x0, x1, x2, x3] #[y0, y1, y2, y3]) (fun p _ => n - (intOf p).toNat)
  case atStart => exact ⟨0, Nat.zero_le _, rfl, hj, A⟩
  case round =>
    clear hj A c0 c1 c2 c3 d0 d1 d2 d3
    obtain ⟨k, hk, rfl, hj, A⟩ := hrel
    obtain ⟨c0, c1, c2, c3, d0, d1, d2, d3⟩ := A.all
    by_cases hlt : k < n
    · have hkx : k < xs.length := by omega
      have hka : k < (textsV a).length := by have := Hna.out; unfold countV at this; omega
      have hkb : k < (textsV b).length := by have := Hnb.out; unfold countV at this; omega
      have hat := listP_at xs k hkx
      rw [Hxs.out, zip_at _ _ k hka hkb] at hat
      have hsn : xs.take (k + 1) = xs.take k ++ [xs[k]] := List.take_succ_eq_append_getElem hkx
      obtain ⟨x, hx⟩ : ∃ x, xs[k] = x := ⟨_, rfl⟩
      rw [hx] at hat hsn
      simp only [Option.some.injEq, Prod.mk.injEq] at hat
      have Hat : Hid (⟨((textsV a).getD k []).toArray⟩ = x.1.1) := by rw [hat.1]; exact hide rfl
      have Hbt : Hid (⟨((textsV b).getD k []).toArray⟩ = x.2.1) := by rw [hat.2]; exact hide rfl
      have Hsn := hide hsn
      clear hat hsn hx hka hkb
      gi_wp2
      refine wpIn_region_any (by assumption) ?_
      change wpAnyIn _ _ _ _ _ _ _ _ _ (World.drew _)
      refine wpAnyIn_take (i := 0) (v := ?_) rfl rfl (by kernel_rfl) (by kernel_rfl) (by kernel_rfl) (fun _ _ _ h => h) ⟨Or.inl ⟨by rfl, ?_⟩, fun _ => rfl⟩ ?_
      rotate_left
      · intro w; go_simp; try with_reducible rfl
      refine wpAnyIn_take (i := 2) (v := ?_) rfl rfl (by kernel_rfl) (by kernel_rfl) (by kernel_rfl) (fun _ _ _ h => h) ⟨Or.inl ⟨by rfl, ?_⟩, fun _ => rfl⟩ ?_
      rotate_left
      · intro w; go_simp; try with_reducible rfl
      refine wpAnyIn_take (i := 5) (v := ?_) rfl rfl (by kernel_rfl) (by kernel_rfl) (by kernel_rfl) (fun _ _ _ h => h) ⟨Or.inl ⟨by rfl, ?_⟩, fun _ => rfl⟩ ?_
      rotate_left
      · intro w; go_simp; try with_reducible rfl
      refine wpAnyIn_ready (rs := [1, 4]) (by kernel_rfl) (by simp) ?_
      refine AllReadyIn.cons rfl (fun K hK => ?_) ?_
      · go_simp
        refine hK _ _ ?_; clear hK K
        refine wpAnyIn_ready (rs := [3, 4]) (by kernel_rfl) (by simp) ?_
        refine AllReadyIn.cons rfl (fun K hK => ?_) ?_
        · go_simp
          gi_wp2_with (refine ⟨trivial, ?_⟩; gi_at_call 56; refine (callsIn_wide.2 (at_any _ a k x.1.1 _ (by first | with_reducible exact HA.out.later A.bel | with_reducible exact HA.out.later A.drew.bel) hla hpa (by rw [Hna.out]; omega) Hat.out)).mono ?_; rintro e w1 ⟨rfl, bb⟩)
          replace hj := abides hJ hj ⟨bb.os, bb.tape, bb.output, bb.size, bb.block⟩
          (first | with_reducible (replace A := A.next bb) | with_reducible (replace A := A.drew.next bb))
          clear bb
          replace c0 := A.all
          obtain ⟨c0, c1, c2, c3, d0, d1, d2, d3⟩ := c0
          refine wpAnyIn_ready (rs := [4]) (by kernel_rfl) (by simp) ?_
          refine AllReadyIn.cons rfl (fun K hK => ?_) AllReadyIn.nil
          go_simp
          refine hK _ _ ?_; clear hK K
          refine wpAnyIn_ready (rs := [6]) (by kernel_rfl) (by simp) ?_
          refine AllReadyIn.cons rfl (fun K hK => ?_) AllReadyIn.nil
          go_simp
          gi_wp2_with (refine ⟨trivial, ?_⟩; gi_at_call 56; refine (callsIn_wide.2 (at_any _ b k x.2.1 _ (by first | with_reducible exact HB.out.later A.bel | with_reducible exact HB.out.later A.drew.bel) hlb hpb (by rw [Hnb.out]; omega) Hbt.out)).mono ?_; rintro e w1 ⟨rfl, bb⟩)
          replace hj := abides hJ hj ⟨bb.os, bb.tape, bb.output, bb.size, bb.block⟩
          (first | with_reducible (replace A := A.next bb) | with_reducible (replace A := A.drew.next bb))
          clear bb
          replace c0 := A.all
          obtain ⟨c0, c1, c2, c3, d0, d1, d2, d3⟩ := c0
          refine wpAnyIn_ready (rs := [7]) (by kernel_rfl) (by simp) ?_
          refine AllReadyIn.cons rfl (fun K hK => ?_) AllReadyIn.nil
          obtain ⟨fn, tmps, assign, body, hy, hR⟩ := hY _ x _ hj (by simp; omega)
          dsimp only [encP] at hy
          go_simp
          refine hR.mono ?_
          rintro e W3 (⟨rfl, hJ3, hk3⟩ | ⟨rfl, hJx3⟩)
          · refine hK _ _ ?_; clear hK K
            refine wpAnyIn_ready (rs := [8]) (by kernel_rfl) (by simp) ?_
            refine AllReadyIn.cons rfl (fun K hK => ?_) AllReadyIn.nil
            go_simp
            refine hK _ _ ?_; clear hK K
            refine wpAnyIn_done (by kernel_rfl) ?_ _
            gi_wp2
            go_roundw
            case rel => exact ⟨k + 1, by omega, by go_num, by rw [Hsn.out]; exact hJ3, A.kept hk3⟩
            case measure => simp [intOf]; omega
          · refine hK _ _ ?_; clear hK K
            refine wpAnyIn_ready (rs := [8]) (by kernel_rfl) (by simp) ?_
            refine AllReadyIn.cons rfl (fun K hK => ?_) AllReadyIn.nil
            go_simp
            refine hK _ _ ?_; clear hK K
            refine wpAnyIn_done (by kernel_rfl) ?_ _
            gi_wp2
            refine bodyPost_ret (results_none rfl _ _ _) rfl ?_
            exact ⟨⟨_, rfl⟩, .inr ⟨_, ⟨xs.drop (k + 1), by rw [← Hsn.out, List.take_append_drop]⟩, hJx3⟩⟩
        refine AllReadyIn.cons rfl (fun K hK => ?_) AllReadyIn.nil
        go_simp
        refine hK _ _ ?_; clear hK K
        refine wpAnyIn_ready (rs := [3]) (by kernel_rfl) (by simp) ?_
        refine AllReadyIn.cons rfl (fun K hK => ?_) AllReadyIn.nil
        go_simp
        gi_wp2_with (refine ⟨trivial, ?_⟩; gi_at_call 56; refine (callsIn_wide.2 (at_any _ a k x.1.1 _ (by first | with_reducible exact HA.out.later A.bel | with_reducible exact HA.out.later A.drew.bel) hla hpa (by rw [Hna.out]; omega) Hat.out)).mono ?_; rintro e w1 ⟨rfl, bb⟩)
        replace hj := abides hJ hj ⟨bb.os, bb.tape, bb.output, bb.size, bb.block⟩
        (first | with_reducible (replace A := A.next bb) | with_reducible (replace A := A.drew.next bb))
        clear bb
        replace c0 := A.all
        obtain ⟨c0, c1, c2, c3, d0, d1, d2, d3⟩ := c0
        refine wpAnyIn_ready (rs := [6]) (by kernel_rfl) (by simp) ?_
        refine AllReadyIn.cons rfl (fun K hK => ?_) AllReadyIn.nil
        go_simp
        gi_wp2_with (refine ⟨trivial, ?_⟩; gi_at_call 56; refine (callsIn_wide.2 (at_any _ b k x.2.1 _ (by first | with_reducible exact HB.out.later A.bel | with_reducible exact HB.out.later A.drew.bel) hlb hpb (by rw [Hnb.out]; omega) Hbt.out)).mono ?_; rintro e w1 ⟨rfl, bb⟩)
        replace hj := abides hJ hj ⟨bb.os, bb.tape, bb.output, bb.size, bb.block⟩
        (first | with_reducible (replace A := A.next bb) | with_reducible (replace A := A.drew.next bb))
        clear bb
        replace c0 := A.all
        obtain ⟨c0, c1, c2, c3, d0, d1, d2, d3⟩ := c0
        refine wpAnyIn_ready (rs := [7]) (by kernel_rfl) (by simp) ?_
        refine AllReadyIn.cons rfl (fun K hK => ?_) AllReadyIn.nil
        obtain ⟨fn, tmps, assign, body, hy, hR⟩ := hY _ x _ hj (by simp; omega)
        dsimp only [encP] at hy
        go_simp
        refine hR.mono ?_
        rintro e W3 (⟨rfl, hJ3, hk3⟩ | ⟨rfl, hJx3⟩)
        · refine hK _ _ ?_; clear hK K
          refine wpAnyIn_ready (rs := [8]) (by kernel_rfl) (by simp) ?_
          refine AllReadyIn.cons rfl (fun K hK => ?_) AllReadyIn.nil
          go_simp
          refine hK _ _ ?_; clear hK K
          refine wpAnyIn_done (by kernel_rfl) ?_ _
          gi_wp2
          go_roundw
          case rel => exact ⟨k + 1, by omega, by go_num, by rw [Hsn.out]; exact hJ3, A.kept hk3⟩
          case measure => simp [intOf]; omega
        · refine hK _ _ ?_; clear hK K
          refine wpAnyIn_ready (rs := [8]) (by kernel_rfl) (by simp) ?_
          refine AllReadyIn.cons rfl (fun K hK => ?_) AllReadyIn.nil
          go_simp
          refine hK _ _ ?_; clear hK K
          refine wpAnyIn_done (by kernel_rfl) ?_ _
          gi_wp2
          refine bodyPost_ret (results_none rfl _ _ _) rfl ?_
          exact ⟨⟨_, rfl⟩, .inr ⟨_, ⟨xs.drop (k + 1), by rw [← Hsn.out, List.take_append_drop]⟩, hJx3⟩⟩
      refine AllReadyIn.cons rfl (fun K hK => ?_) AllReadyIn.nil
      go_simp
      refine hK _ _ ?_; clear hK K
      refine wpAnyIn_ready (rs := [1]) (by kernel_rfl) (by simp) ?_
      refine AllReadyIn.cons rfl (fun K hK => ?_) AllReadyIn.nil
      go_simp
      refine hK _ _ ?_; clear hK K
      refine wpAnyIn_ready (rs := [3]) (by kernel_rfl) (by simp) ?_
      refine AllReadyIn.cons rfl (fun K hK => ?_) AllReadyIn.nil
      go_simp
      gi_wp2_with (refine ⟨trivial, ?_⟩; gi_at_call 56; refine (callsIn_wide.2 (at_any _ a k x.1.1 _ (by first | with_reducible exact HA.out.later A.bel | with_reducible exact HA.out.later A.drew.bel) hla hpa (by rw [Hna.out]; omega) Hat.out)).mono ?_; rintro e w1 ⟨rfl, bb⟩)
      replace hj := abides hJ hj ⟨bb.os, bb.tape, bb.output, bb.size, bb.block⟩
      (first | with_reducible (replace A := A.next bb) | with_reducible (replace A := A.drew.next bb))
      clear bb
      replace c0 := A.all
      obtain ⟨c0, c1, c2, c3, d0, d1, d2, d3⟩ := c0
      refine wpAnyIn_ready (rs := [6]) (by kernel_rfl) (by simp) ?_
      refine AllReadyIn.cons rfl (fun K hK => ?_) AllReadyIn.nil
      go_simp
      gi_wp2_with (refine ⟨trivial, ?_⟩; gi_at_call 56; refine (callsIn_wide.2 (at_any _ b k x.2.1 _ (by first | with_reducible exact HB.out.later A.bel | with_reducible exact HB.out.later A.drew.bel) hlb hpb (by rw [Hnb.out]; omega) Hbt.out)).mono ?_; rintro e w1 ⟨rfl, bb⟩)
      replace hj := abides hJ hj ⟨bb.os, bb.tape, bb.output, bb.size, bb.block⟩
      (first | with_reducible (replace A := A.next bb) | with_reducible (replace A := A.drew.next bb))
      clear bb
      replace c0 := A.all
      obtain ⟨c0, c1, c2, c3, d0, d1, d2, d3⟩ := c0
      refine wpAnyIn_ready (rs := [7]) (by kernel_rfl) (by simp) ?_
      refine AllReadyIn.cons rfl (fun K hK => ?_) AllReadyIn.nil
      obtain ⟨fn, tmps, assign, body, hy, hR⟩ := hY _ x _ hj (by simp; omega)
      dsimp only [encP] at hy
      go_simp
      refine hR.mono ?_
      rintro e W3 (⟨rfl, hJ3, hk3⟩ | ⟨rfl, hJx3⟩)
      · refine hK _ _ ?_; clear hK K
        refine wpAnyIn_ready (rs := [8]) (by kernel_rfl) (by simp) ?_
        refine AllReadyIn.cons rfl (fun K hK => ?_) AllReadyIn.nil
        go_simp
        refine hK _ _ ?_; clear hK K
        refine wpAnyIn_done (by kernel_rfl) ?_ _
        gi_wp2
        go_roundw
        case rel => exact ⟨k + 1, by omega, by go_num, by rw [Hsn.out]; exact hJ3, A.kept hk3⟩
        case measure => simp [intOf]; omega
      · refine hK _ _ ?_; clear hK K
        refine wpAnyIn_ready (rs := [8]) (by kernel_rfl) (by simp) ?_
        refine AllReadyIn.cons rfl (fun K hK => ?_) AllReadyIn.nil
        go_simp
        refine hK _ _ ?_; clear hK K
        refine wpAnyIn_done (by kernel_rfl) ?_ _
        gi_wp2
        refine bodyPost_ret (results_none rfl _ _ _) rfl ?_
        exact ⟨⟨_, rfl⟩, .inr ⟨_, ⟨xs.drop (k + 1), by rw [← Hsn.out, List.take_append_drop]⟩, hJx3⟩⟩
    · have hend : xs.take k = xs := List.take_of_length_le (by omega)
      rw [hend] at hj
      gi_wp2
      go_end0
      exact ⟨⟨_, rfl⟩, .inl ⟨xs, rfl, hj⟩⟩
end Go.Proofs.Ytgnccmmbpgnamaa
