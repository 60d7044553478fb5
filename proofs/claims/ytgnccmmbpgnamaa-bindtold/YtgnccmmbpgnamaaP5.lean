/-
  WALKS: twos: texts two by two as an iterator (layer 8).
-/
import Derived.Test.YtgnccmmbpgnamaaP4
namespace Go.Proofs.Ytgnccmmbpgnamaa
open Go.RowKit Go.Shelf
attribute [local go_sem] Oper.semAt_some

abbrev Px := Sx × Sx
def encP (x : Px) : Array Value := #[.string x.1.1, .string x.2.1]
def listP (xs : List Px) : List (List UInt8 × List UInt8) := xs.map fun x => (x.1.1.data.toList, x.2.1.data.toList)
theorem listP_len (xs : List Px) : (listP xs).length = xs.length := by simp [listP]
theorem pair_lift : ∀ ps : List (List UInt8 × List UInt8), (∀ q ∈ ps, q.1.length ≤ 140737488355328 ∧ q.2.length ≤ 140737488355328) → ∃ xs : List Px, listP xs = ps
  | [], _ => ⟨[], rfl⟩
  | y :: r, h => by
    obtain ⟨xs, hx⟩ := pair_lift r (fun z hz => h z (List.mem_cons_of_mem _ hz))
    obtain ⟨h1, h2⟩ := h y (List.mem_cons_self ..)
    refine ⟨(⟨⟨y.1.toArray⟩, ?_⟩, ⟨⟨y.2.toArray⟩, ?_⟩) :: xs, ?_⟩
    · show y.1.toArray.size ≤ _; simpa using h1
    · show y.2.toArray.size ≤ _; simpa using h2
    · show _ :: listP xs = _
      rw [hx]
theorem listP_at (xs : List Px) (k : Nat) (h : k < xs.length) : (listP xs)[k]? = some (xs[k].1.1.data.toList, xs[k].2.1.data.toList) := by
  simp [listP, h]
theorem pairs_at : ∀ (ts : List (List UInt8)) (k : Nat), 2 * k + 1 < ts.length → (pairsL ts)[k]? = some (ts.getD (2 * k) [], ts.getD (2 * k + 1) [])
  | [], k, h => by simp at h
  | [_], k, h => by simp at h
  | a :: b :: r, 0, _ => by simp [pairsL]
  | a :: b :: r, k + 1, h => by
    have ih := pairs_at r k (by simp at h; omega)
    show ((a, b) :: pairsL r)[k + 1]? = _
    rw [List.getElem?_cons_succ, ih]
    rw [show 2 * (k + 1) = 2 * k + 1 + 1 by omega]
    simp
theorem pairs_len : ∀ ts : List (List UInt8), (pairsL ts).length = ts.length / 2
  | [] => rfl
  | [_] => by simp [pairsL]
  | a :: b :: r => by
    show (pairsL r).length + 1 = _
    rw [pairs_len r]
    simp
    omega
theorem pairs_mem : ∀ (ts : List (List UInt8)), (∀ y ∈ ts, y.length ≤ 140737488355328) → ∀ q ∈ pairsL ts, q.1.length ≤ 140737488355328 ∧ q.2.length ≤ 140737488355328
  | [], _, q, hq => by simp [pairsL] at hq
  | [_], _, q, hq => by simp [pairsL] at hq
  | a :: b :: r, h, q, hq => by
    rcases List.mem_cons.1 hq with rfl | hq
    · exact ⟨h a (by simp), h b (by simp)⟩
    · exact pairs_mem r (fun y hy => h y (by simp [hy])) q hq
theorem twos_any (a : Option Addr) (n c : Nat) (w : World) : Calls Try.prog 54 #[.slice a n c] w fun e w' => e = .returned (.func (.func 64) #[] #[.pointer (some ⟨w.heap.size, 0, none⟩)]) ∧ w' = w.alloc (.cells #[.slice a n c] 25) := by
  go_enter Try.func54, Try.ntmps54
  go_wp2
  go_ret
  exact ⟨rfl, rfl⟩
set_option maxRecDepth 100000 in
set_option maxHeartbeats 4000000 in
theorem twos1_stops (Bn : Nat) (ta : Option Addr) (tc : Nat) (ts : List (List UInt8)) (xs : List Px) (w0 w : World) (HT : StrsAt w0 (.slice ta ts.length tc) ts) (hts : ts.length ≤ 1000000) (hb0 : Below w0.heap.size w0 w) (hBx : Boxed w Bn 25 (.slice ta ts.length tc)) (hxs : listP xs = pairsL ts) :
    SeqStopsK Fence.wide 4 Try.prog 64 #[.pointer (some ⟨Bn, 0, none⟩)] encP (Kp w0.heap.size Bn) (fun ys => ys = xs) (fun pre => pre <+: xs) xs.length w := fun l J Jx W hW hJ hJx hY h0 => by
  have hlen : xs.length = ts.length / 2 := by rw [← listP_len, hxs, pairs_len]
  have X0 := boxed_next hBx hW
  have B0 := hb0.trans (hW.mono hb0.size)
  have HT0 := hide HT
  have Hxs := hide hxs
  have hmx : Try.prog.follows .mixedOrders = true := by kernel_rfl
  clear hBx hW hb0 HT hxs
  refine callsIn_of_wp Try.func64 rfl trivial ?_ rfl
  simp only [Try.ntmps64, List.size_toArray, List.length_cons, List.length_nil, Nat.reduceAdd, Nat.reduceSub, Array.replicate_succ, Array.replicate_zero, List.push_toArray, List.append_toArray, List.nil_append, List.cons_append]
  gi_wp2
  gi_loopw [3] (fun p wr => ∃ k m : Nat, k ≤ xs.length ∧ m = 2 * k + 1 ∧ p = .int .i64 m ∧ J (xs.take k) wr ∧ Below w0.heap.size w0 wr ∧ Boxed wr Bn 25 (.slice ta ts.length tc)) (fun p _ => 2 * xs.length + 3 - (intOf p).toNat)
  case atStart => exact ⟨0, 1, Nat.zero_le _, rfl, rfl, h0, B0, X0⟩
  case round =>
    clear h0 B0 X0
    obtain ⟨k, m, hk, hm, rfl, hj, B, X⟩ := hrel
    have c0 := X.cell
    by_cases hlt : m < ts.length
    · have hkx : k < xs.length := by omega
      have hat := listP_at xs k hkx
      rw [Hxs.out, pairs_at ts k (by omega)] at hat
      have hsn : xs.take (k + 1) = xs.take k ++ [xs[k]] := List.take_succ_eq_append_getElem hkx
      obtain ⟨x, hx⟩ : ∃ x, xs[k] = x := ⟨_, rfl⟩
      rw [hx] at hat hsn
      simp only [Option.some.injEq, Prod.mk.injEq] at hat
      obtain ⟨b, off, cap, ea, hb, g1⟩ := HT0.out.at (2 * k) (by omega)
      obtain ⟨b', off', cap', ea', hb', g2⟩ := HT0.out.at (2 * k + 1) (by omega)
      cases ea
      cases ea'
      have e1 : ts[2 * k] = x.1.1.data.toList := by rw [← hat.1, List.getD_eq_getElem?_getD, List.getElem?_eq_getElem (by omega)]; rfl
      have e2 : ts[2 * k + 1] = x.2.1.data.toList := by rw [← hat.2, List.getD_eq_getElem?_getD, List.getElem?_eq_getElem (by omega)]; rfl
      rw [e1] at g1
      rw [e2] at g2
      have f1 : wr.cell? ⟨b, off + 2 * k, none⟩ = some (.string x.1.1) := (B.cell (p := ⟨b, _, none⟩) hb).trans g1
      have f2 : wr.cell? ⟨b, off + (2 * k + 1), none⟩ = some (.string x.2.1) := (B.cell (p := ⟨b, _, none⟩) hb).trans g2
      have hj2 : J (xs.take k) wr.drew := abides hJ hj (b_drew wr)
      obtain ⟨fn, tmps, assign, body, hy, hR⟩ := hY _ x wr.drew hj2 (by simp; omega)
      dsimp only [encP] at hy
      obtain ⟨n, hn⟩ : ∃ n, 2 * k = n := ⟨_, rfl⟩
      rw [hn] at f1 f2 hm
      have hwr : IntKind.i64.wrap ((m : Int) - 1) = (n : Int) := by rw [IntKind.wrap_i64] <;> omega
      have i1 : (0 : Int) ≤ (n : Int) := by omega
      have i2 : (n : Int) < (ts.length : Int) := by omega
      have i3 : (0 : Int) ≤ (m : Int) := by omega
      have i4 : (m : Int) < (ts.length : Int) := by omega
      rw [← hm] at f2
      have Hsn := hide hsn
      have Hm := hide hm
      have Hn := hide hn
      clear hat hsn hx g1 g2 e1 e2 hm hn hj hj2
      gi_wp2
      refine wpIn_region_any (by assumption) ?_
      change wpAnyIn _ _ _ _ _ _ _ _ _ (World.drew _)
      refine wpAnyIn_take (i := 0) (v := ?_) rfl rfl (by kernel_rfl) (by kernel_rfl) (by kernel_rfl) (fun _ _ _ h => h) ⟨Or.inl ⟨by rfl, ?_⟩, fun _ => rfl⟩ ?_
      rotate_left
      · intro w; go_simp; try with_reducible rfl
      refine wpAnyIn_take (i := 2) (v := ?_) rfl rfl (by kernel_rfl) (by kernel_rfl) (by kernel_rfl) (fun _ _ _ h => h) ⟨Or.inl ⟨by rfl, ?_⟩, fun _ => rfl⟩ ?_
      rotate_left
      · intro w; go_simp; try with_reducible rfl
      refine wpAnyIn_take (i := 3) (v := ?_) rfl rfl (by kernel_rfl) (by kernel_rfl) (by kernel_rfl) (fun _ _ _ h => h) ⟨Or.inl ⟨by rfl, ?_⟩, fun _ => rfl⟩ ?_
      rotate_left
      · intro w; go_simp; try with_reducible rfl
      refine wpAnyIn_take (i := 7) (v := ?_) rfl rfl (by kernel_rfl) (by kernel_rfl) (by kernel_rfl) (fun _ _ _ h => h) ⟨Or.inl ⟨by rfl, ?_⟩, fun _ => rfl⟩ ?_
      rotate_left
      · intro w; go_simp; try with_reducible rfl
      refine wpAnyIn_ready (rs := [1, 6]) (by kernel_rfl) (by simp) ?_
      refine AllReadyIn.cons rfl (fun K hK => ?_) ?_
      · go_simp
        refine hK _ _ ?_; clear hK K
        refine wpAnyIn_take (i := 4) (v := ?_) rfl rfl (by kernel_rfl) (by kernel_rfl) (by kernel_rfl) (fun _ _ _ h => h) ⟨Or.inl ⟨by rfl, ?_⟩, fun _ => rfl⟩ ?_
        rotate_left
        · intro w; go_simp; try with_reducible rfl
        refine wpAnyIn_ready (rs := [5, 6]) (by kernel_rfl) (by simp) ?_
        refine AllReadyIn.cons rfl (fun K hK => ?_) ?_
        · go_simp
          refine hK _ _ ?_; clear hK K
          refine wpAnyIn_ready (rs := [6]) (by kernel_rfl) (by simp) ?_
          refine AllReadyIn.cons rfl (fun K hK => ?_) AllReadyIn.nil
          go_simp
          refine hK _ _ ?_; clear hK K
          refine wpAnyIn_take (i := 8) (v := ?_) rfl rfl (by kernel_rfl) (by kernel_rfl) (by kernel_rfl) (fun _ _ _ h => h) ⟨Or.inl ⟨by rfl, ?_⟩, fun _ => rfl⟩ ?_
          rotate_left
          · intro w; go_simp; try with_reducible rfl
          refine wpAnyIn_ready (rs := [9]) (by kernel_rfl) (by simp) ?_
          refine AllReadyIn.cons rfl (fun K hK => ?_) AllReadyIn.nil
          go_simp
          refine hK _ _ ?_; clear hK K
          refine wpAnyIn_ready (rs := [10]) (by kernel_rfl) (by simp) ?_
          refine AllReadyIn.cons rfl (fun K hK => ?_) AllReadyIn.nil
          go_simp
          refine hR.mono ?_
          rintro e W3 (⟨rfl, hJ3, hk3⟩ | ⟨rfl, hJx3⟩)
          · refine hK _ _ ?_; clear hK K
            refine wpAnyIn_ready (rs := [11]) (by kernel_rfl) (by simp) ?_
            refine AllReadyIn.cons rfl (fun K hK => ?_) AllReadyIn.nil
            go_simp
            refine hK _ _ ?_; clear hK K
            refine wpAnyIn_done (by kernel_rfl) ?_ _
            gi_wp2
            go_roundw
            case rel => exact ⟨k + 1, m + 2, by omega, by have := Hm.out; have := Hn.out; omega, by go_num, by rw [Hsn.out]; exact hJ3, (B.drew).trans hk3.1, hk3.2 _ X⟩
            case measure => simp [intOf]; omega
          · refine hK _ _ ?_; clear hK K
            refine wpAnyIn_ready (rs := [11]) (by kernel_rfl) (by simp) ?_
            refine AllReadyIn.cons rfl (fun K hK => ?_) AllReadyIn.nil
            go_simp
            refine hK _ _ ?_; clear hK K
            refine wpAnyIn_done (by kernel_rfl) ?_ _
            gi_wp2
            refine bodyPost_ret (results_none rfl _ _ _) rfl ?_
            exact ⟨⟨_, rfl⟩, .inr ⟨_, ⟨xs.drop (k + 1), by rw [← Hsn.out, List.take_append_drop]⟩, hJx3⟩⟩
        refine AllReadyIn.cons rfl (fun K hK => ?_) AllReadyIn.nil
        go_simp
        refine hK _ _ ?_; clear hK K
        refine wpAnyIn_take (i := 8) (v := ?_) rfl rfl (by kernel_rfl) (by kernel_rfl) (by kernel_rfl) (fun _ _ _ h => h) ⟨Or.inl ⟨by rfl, ?_⟩, fun _ => rfl⟩ ?_
        rotate_left
        · intro w; go_simp; try with_reducible rfl
        refine wpAnyIn_ready (rs := [5, 9]) (by kernel_rfl) (by simp) ?_
        refine AllReadyIn.cons rfl (fun K hK => ?_) ?_
        · go_simp
          refine hK _ _ ?_; clear hK K
          refine wpAnyIn_ready (rs := [9]) (by kernel_rfl) (by simp) ?_
          refine AllReadyIn.cons rfl (fun K hK => ?_) AllReadyIn.nil
          go_simp
          refine hK _ _ ?_; clear hK K
          refine wpAnyIn_ready (rs := [10]) (by kernel_rfl) (by simp) ?_
          refine AllReadyIn.cons rfl (fun K hK => ?_) AllReadyIn.nil
          go_simp
          refine hR.mono ?_
          rintro e W3 (⟨rfl, hJ3, hk3⟩ | ⟨rfl, hJx3⟩)
          · refine hK _ _ ?_; clear hK K
            refine wpAnyIn_ready (rs := [11]) (by kernel_rfl) (by simp) ?_
            refine AllReadyIn.cons rfl (fun K hK => ?_) AllReadyIn.nil
            go_simp
            refine hK _ _ ?_; clear hK K
            refine wpAnyIn_done (by kernel_rfl) ?_ _
            gi_wp2
            go_roundw
            case rel => exact ⟨k + 1, m + 2, by omega, by have := Hm.out; have := Hn.out; omega, by go_num, by rw [Hsn.out]; exact hJ3, (B.drew).trans hk3.1, hk3.2 _ X⟩
            case measure => simp [intOf]; omega
          · refine hK _ _ ?_; clear hK K
            refine wpAnyIn_ready (rs := [11]) (by kernel_rfl) (by simp) ?_
            refine AllReadyIn.cons rfl (fun K hK => ?_) AllReadyIn.nil
            go_simp
            refine hK _ _ ?_; clear hK K
            refine wpAnyIn_done (by kernel_rfl) ?_ _
            gi_wp2
            refine bodyPost_ret (results_none rfl _ _ _) rfl ?_
            exact ⟨⟨_, rfl⟩, .inr ⟨_, ⟨xs.drop (k + 1), by rw [← Hsn.out, List.take_append_drop]⟩, hJx3⟩⟩
        refine AllReadyIn.cons rfl (fun K hK => ?_) AllReadyIn.nil
        go_simp
        refine hK _ _ ?_; clear hK K
        refine wpAnyIn_ready (rs := [5]) (by kernel_rfl) (by simp) ?_
        refine AllReadyIn.cons rfl (fun K hK => ?_) AllReadyIn.nil
        go_simp
        refine hK _ _ ?_; clear hK K
        refine wpAnyIn_ready (rs := [10]) (by kernel_rfl) (by simp) ?_
        refine AllReadyIn.cons rfl (fun K hK => ?_) AllReadyIn.nil
        go_simp
        refine hR.mono ?_
        rintro e W3 (⟨rfl, hJ3, hk3⟩ | ⟨rfl, hJx3⟩)
        · refine hK _ _ ?_; clear hK K
          refine wpAnyIn_ready (rs := [11]) (by kernel_rfl) (by simp) ?_
          refine AllReadyIn.cons rfl (fun K hK => ?_) AllReadyIn.nil
          go_simp
          refine hK _ _ ?_; clear hK K
          refine wpAnyIn_done (by kernel_rfl) ?_ _
          gi_wp2
          go_roundw
          case rel => exact ⟨k + 1, m + 2, by omega, by have := Hm.out; have := Hn.out; omega, by go_num, by rw [Hsn.out]; exact hJ3, (B.drew).trans hk3.1, hk3.2 _ X⟩
          case measure => simp [intOf]; omega
        · refine hK _ _ ?_; clear hK K
          refine wpAnyIn_ready (rs := [11]) (by kernel_rfl) (by simp) ?_
          refine AllReadyIn.cons rfl (fun K hK => ?_) AllReadyIn.nil
          go_simp
          refine hK _ _ ?_; clear hK K
          refine wpAnyIn_done (by kernel_rfl) ?_ _
          gi_wp2
          refine bodyPost_ret (results_none rfl _ _ _) rfl ?_
          exact ⟨⟨_, rfl⟩, .inr ⟨_, ⟨xs.drop (k + 1), by rw [← Hsn.out, List.take_append_drop]⟩, hJx3⟩⟩
      refine AllReadyIn.cons rfl (fun K hK => ?_) AllReadyIn.nil
      go_simp
      refine hK _ _ ?_; clear hK K
      refine wpAnyIn_take (i := 8) (v := ?_) rfl rfl (by kernel_rfl) (by kernel_rfl) (by kernel_rfl) (fun _ _ _ h => h) ⟨Or.inl ⟨by rfl, ?_⟩, fun _ => rfl⟩ ?_
      rotate_left
      · intro w; go_simp; try with_reducible rfl
      refine wpAnyIn_ready (rs := [1, 9]) (by kernel_rfl) (by simp) ?_
      refine AllReadyIn.cons rfl (fun K hK => ?_) ?_
      · go_simp
        refine hK _ _ ?_; clear hK K
        refine wpAnyIn_take (i := 4) (v := ?_) rfl rfl (by kernel_rfl) (by kernel_rfl) (by kernel_rfl) (fun _ _ _ h => h) ⟨Or.inl ⟨by rfl, ?_⟩, fun _ => rfl⟩ ?_
        rotate_left
        · intro w; go_simp; try with_reducible rfl
        refine wpAnyIn_ready (rs := [5, 9]) (by kernel_rfl) (by simp) ?_
        refine AllReadyIn.cons rfl (fun K hK => ?_) ?_
        · go_simp
          refine hK _ _ ?_; clear hK K
          refine wpAnyIn_ready (rs := [9]) (by kernel_rfl) (by simp) ?_
          refine AllReadyIn.cons rfl (fun K hK => ?_) AllReadyIn.nil
          go_simp
          refine hK _ _ ?_; clear hK K
          refine wpAnyIn_ready (rs := [10]) (by kernel_rfl) (by simp) ?_
          refine AllReadyIn.cons rfl (fun K hK => ?_) AllReadyIn.nil
          go_simp
          refine hR.mono ?_
          rintro e W3 (⟨rfl, hJ3, hk3⟩ | ⟨rfl, hJx3⟩)
          · refine hK _ _ ?_; clear hK K
            refine wpAnyIn_ready (rs := [11]) (by kernel_rfl) (by simp) ?_
            refine AllReadyIn.cons rfl (fun K hK => ?_) AllReadyIn.nil
            go_simp
            refine hK _ _ ?_; clear hK K
            refine wpAnyIn_done (by kernel_rfl) ?_ _
            gi_wp2
            go_roundw
            case rel => exact ⟨k + 1, m + 2, by omega, by have := Hm.out; have := Hn.out; omega, by go_num, by rw [Hsn.out]; exact hJ3, (B.drew).trans hk3.1, hk3.2 _ X⟩
            case measure => simp [intOf]; omega
          · refine hK _ _ ?_; clear hK K
            refine wpAnyIn_ready (rs := [11]) (by kernel_rfl) (by simp) ?_
            refine AllReadyIn.cons rfl (fun K hK => ?_) AllReadyIn.nil
            go_simp
            refine hK _ _ ?_; clear hK K
            refine wpAnyIn_done (by kernel_rfl) ?_ _
            gi_wp2
            refine bodyPost_ret (results_none rfl _ _ _) rfl ?_
            exact ⟨⟨_, rfl⟩, .inr ⟨_, ⟨xs.drop (k + 1), by rw [← Hsn.out, List.take_append_drop]⟩, hJx3⟩⟩
        refine AllReadyIn.cons rfl (fun K hK => ?_) AllReadyIn.nil
        go_simp
        refine hK _ _ ?_; clear hK K
        refine wpAnyIn_ready (rs := [5]) (by kernel_rfl) (by simp) ?_
        refine AllReadyIn.cons rfl (fun K hK => ?_) AllReadyIn.nil
        go_simp
        refine hK _ _ ?_; clear hK K
        refine wpAnyIn_ready (rs := [10]) (by kernel_rfl) (by simp) ?_
        refine AllReadyIn.cons rfl (fun K hK => ?_) AllReadyIn.nil
        go_simp
        refine hR.mono ?_
        rintro e W3 (⟨rfl, hJ3, hk3⟩ | ⟨rfl, hJx3⟩)
        · refine hK _ _ ?_; clear hK K
          refine wpAnyIn_ready (rs := [11]) (by kernel_rfl) (by simp) ?_
          refine AllReadyIn.cons rfl (fun K hK => ?_) AllReadyIn.nil
          go_simp
          refine hK _ _ ?_; clear hK K
          refine wpAnyIn_done (by kernel_rfl) ?_ _
          gi_wp2
          go_roundw
          case rel => exact ⟨k + 1, m + 2, by omega, by have := Hm.out; have := Hn.out; omega, by go_num, by rw [Hsn.out]; exact hJ3, (B.drew).trans hk3.1, hk3.2 _ X⟩
          case measure => simp [intOf]; omega
        · refine hK _ _ ?_; clear hK K
          refine wpAnyIn_ready (rs := [11]) (by kernel_rfl) (by simp) ?_
          refine AllReadyIn.cons rfl (fun K hK => ?_) AllReadyIn.nil
          go_simp
          refine hK _ _ ?_; clear hK K
          refine wpAnyIn_done (by kernel_rfl) ?_ _
          gi_wp2
          refine bodyPost_ret (results_none rfl _ _ _) rfl ?_
          exact ⟨⟨_, rfl⟩, .inr ⟨_, ⟨xs.drop (k + 1), by rw [← Hsn.out, List.take_append_drop]⟩, hJx3⟩⟩
      refine AllReadyIn.cons rfl (fun K hK => ?_) AllReadyIn.nil
      go_simp
      refine hK _ _ ?_; clear hK K
      refine wpAnyIn_ready (rs := [1]) (by kernel_rfl) (by simp) ?_
      refine AllReadyIn.cons rfl (fun K hK => ?_) AllReadyIn.nil
      go_simp
      refine hK _ _ ?_; clear hK K
      refine wpAnyIn_take (i := 4) (v := ?_) rfl rfl (by kernel_rfl) (by kernel_rfl) (by kernel_rfl) (fun _ _ _ h => h) ⟨Or.inl ⟨by rfl, ?_⟩, fun _ => rfl⟩ ?_
      rotate_left
      · intro w; go_simp; try with_reducible rfl
      refine wpAnyIn_ready (rs := [5]) (by kernel_rfl) (by simp) ?_
      refine AllReadyIn.cons rfl (fun K hK => ?_) AllReadyIn.nil
      go_simp
      refine hK _ _ ?_; clear hK K
      refine wpAnyIn_ready (rs := [10]) (by kernel_rfl) (by simp) ?_
      refine AllReadyIn.cons rfl (fun K hK => ?_) AllReadyIn.nil
      go_simp
      refine hR.mono ?_
      rintro e W3 (⟨rfl, hJ3, hk3⟩ | ⟨rfl, hJx3⟩)
      · refine hK _ _ ?_; clear hK K
        refine wpAnyIn_ready (rs := [11]) (by kernel_rfl) (by simp) ?_
        refine AllReadyIn.cons rfl (fun K hK => ?_) AllReadyIn.nil
        go_simp
        refine hK _ _ ?_; clear hK K
        refine wpAnyIn_done (by kernel_rfl) ?_ _
        gi_wp2
        go_roundw
        case rel => exact ⟨k + 1, m + 2, by omega, by have := Hm.out; have := Hn.out; omega, by go_num, by rw [Hsn.out]; exact hJ3, (B.drew).trans hk3.1, hk3.2 _ X⟩
        case measure => simp [intOf]; omega
      · refine hK _ _ ?_; clear hK K
        refine wpAnyIn_ready (rs := [11]) (by kernel_rfl) (by simp) ?_
        refine AllReadyIn.cons rfl (fun K hK => ?_) AllReadyIn.nil
        go_simp
        refine hK _ _ ?_; clear hK K
        refine wpAnyIn_done (by kernel_rfl) ?_ _
        gi_wp2
        refine bodyPost_ret (results_none rfl _ _ _) rfl ?_
        exact ⟨⟨_, rfl⟩, .inr ⟨_, ⟨xs.drop (k + 1), by rw [← Hsn.out, List.take_append_drop]⟩, hJx3⟩⟩
    · have hend : xs.take k = xs := List.take_of_length_le (by omega)
      rw [hend] at hj
      gi_wp2
      go_end0
      exact ⟨⟨_, rfl⟩, .inl ⟨xs, rfl, hj⟩⟩
end Go.Proofs.Ytgnccmmbpgnamaa
