/-
  TEXTS JOINED: Q2, Q3, Q4, L0.
-/
import Derived.Deep.AppendLies
import Derived.LoopIn
import Derived.LoopNIn
import Derived.Maps.AppendAt
import Derived.OwnWalkIn
import Derived.RangeFuncBound
import Derived.RangeFuncBox
import Derived.RangeFuncCalls
import Derived.RangeFuncLeaves
import Derived.RangeFuncNested
import Derived.Shelf.Abstract
import Derived.Shelf.RegionOpen
import Derived.TacticsInMore
import Derived.WalkKit
import Derived.Test.YtpfcfadbilaleaaQ08
import Derived.Test.YtpfcfadbilaleaaQ14
import Derived.Test.YtpfcfadbilaleaaQ15
/-
  WALKS: each: a value's texts as an iterator (layer 8).
-/
namespace Go.Proofs.Ytpfcfadbilaleaa
open Go.RowKit Go.Shelf
attribute [local go_sem] Oper.semAt_some

/-- a text that is no longer than a value's may be -/
abbrev Sx := { s : ByteArray // s.size ≤ 140737488355328 }
def encX (x : Sx) : Array Value := #[.string x.1]
def listS (xs : List Sx) : List (List UInt8) := xs.map fun x => x.1.data.toList
set_option maxRecDepth 20000 in
theorem listS_len (xs : List Sx) : (listS xs).length = xs.length := by simp [listS]
set_option maxRecDepth 20000 in
theorem list_lift : ∀ ts : List (List UInt8), (∀ y ∈ ts, y.length ≤ 140737488355328) → ∃ xs : List Sx, listS xs = ts
  | [], _ => ⟨[], rfl⟩
  | y :: r, h => by
    obtain ⟨xs, hx⟩ := list_lift r (fun z hz => h z (List.mem_cons_of_mem _ hz))
    have hy := h y (List.mem_cons_self ..)
    refine ⟨⟨⟨y.toArray⟩, ?_⟩ :: xs, ?_⟩
    · show y.toArray.size ≤ _; simpa using hy
    · show _ :: listS xs = _
      rw [hx]
set_option maxRecDepth 20000 in
theorem listS_at (xs : List Sx) (k : Nat) (h : k < xs.length) : (⟨((listS xs).getD k []).toArray⟩ : ByteArray) = xs[k].1 := by
  have h2 : k < (listS xs).length := by rw [listS_len]; exact h
  have e : (listS xs).getD k [] = xs[k].1.data.toList := by
    rw [List.getD_eq_getElem?_getD, List.getElem?_eq_getElem h2]
    simp [listS]
  rw [e]
/-- what lay below n, and the block Bn, stay -/
def Kp (n Bn : Nat) (A B : World) : Prop := Below n A B ∧ ∀ o, A.heap[Bn]? = some o → B.heap[Bn]? = some o
set_option maxRecDepth 20000 in
theorem kp_t {n Bn : Nat} {A B C : World} (h : Kp n Bn A B) (k : Kp n Bn B C) : Kp n Bn A C := ⟨h.1.trans k.1, fun o ho => k.2 o (h.2 o ho)⟩
set_option maxRecDepth 20000 in
theorem kp_b {n Bn : Nat} {w : World} (hn : n ≤ w.heap.size) (hb : Bn < w.heap.size) (W : World) (l : Nat) (o o' : Obj) (hl : w.heap.size ≤ l) (ho : W.heap[l]? = some o) (hc : o.isCells = false) (hw : o.isWalk = false) : Kp n Bn W (W.putObj l o') :=
  ⟨belowK_b hn W l o o' hl ho hc hw, fun u hu => (World.putObj_heap_other (by omega)).trans hu⟩
set_option maxRecDepth 20000 in
theorem grown_of {W w1 : World} (bb : Below W.heap.size W w1) : W.grownBy w1 none := ⟨bb.os, bb.tape, bb.output, bb.size, fun k hk _ => bb.block k hk⟩
set_option maxRecDepth 20000 in
theorem abides {β : Type} {B : Nat} {J : β → World → Prop} (hJ : AbidesFrom B J) {s : β} {W w1 : World} (h : J s W) (bb : Below W.heap.size W w1) : J s w1 :=
  hJ s W w1 none h (grown_of bb) (fun r e => by cases e)
set_option maxRecDepth 20000 in
theorem each_any (cs : Array Value) (w : World) : Calls Try.prog 48 #[.agg cs] w fun e w' => e = .returned (.func (.func 71) #[] #[.pointer (some ⟨w.heap.size, 0, none⟩)]) ∧ w' = w.alloc (.cells cs 27) := by
  go_enter Try.func48, Try.ntmps48
  go_wp2
  go_ret
  exact ⟨rfl, rfl⟩
set_option maxRecDepth 100000 in
set_option maxHeartbeats 4000000 in
/-- each's closure hands on the texts, in turn, whatever the round does that keeps what lay, and the value's box -/
theorem each1_stops (Bn : Nat) (v : Vl) (x0 x1 x2 x3 : Value) (xs : List Sx) (w0 w : World) (HV : VlAt w0 (.agg #[x0, x1, x2, x3]) v) (hl : v.l.length ≤ 1000000) (hp : v.p.length ≤ 1000000) (hb0 : Below w0.heap.size w0 w) (hBx : Bx w Bn #[x0, x1, x2, x3] 27) (hxs : listS xs = textsV v) :
    SeqStopsK Fence.wide 4 Try.prog 71 #[.pointer (some ⟨Bn, 0, none⟩)] encX (Kp w0.heap.size Bn) (fun ys => ys = xs) (fun pre => pre <+: xs) xs.length w := fun l J Jx W hW hJ hJx hY h0 => by
  have hlen : xs.length = countV v := by unfold countV; rw [← hxs, listS_len]
  have X0 := hBx.next hW
  have B0 := hb0.trans (hW.mono hb0.size)
  obtain ⟨c0, c1, c2, c3⟩ := cells4 X0
  have HV0 := hide HV
  have Hxs := hide hxs
  obtain ⟨n, hn⟩ : ∃ n, countV v = n := ⟨_, rfl⟩
  have hnm : n ≤ 2000000 := by rw [← hn, count_is]; split <;> (try split) <;> (try split) <;> omega
  have Hn := hide hn
  rw [hn] at hlen
  clear hBx hW hb0 HV hxs hn
  refine callsIn_of_wp Try.func71 rfl trivial ?_ rfl
  simp only [Try.ntmps71, List.size_toArray, List.length_cons, List.length_nil, Nat.reduceAdd, Nat.reduceSub, Array.replicate_succ, Array.replicate_zero, List.push_toArray, List.append_toArray, List.nil_append, List.cons_append]
  gi_wp2_with (refine ⟨trivial, ?_⟩; gi_at_call 47; refine (callsIn_wide.2 (count_any _ v _ (HV0.out.later B0) hp)).mono ?_; rintro e w1 ⟨rfl, bb⟩; rw [Hn.out])
  have h1 := abides hJ h0 bb
  replace X0 := X0.next bb
  replace B0 := B0.trans (bb.mono B0.size)
  clear bb h0 c0 c1 c2 c3
  gi_loopw [6] (fun p wr => ∃ k : Nat, k ≤ n ∧ p = .int .i64 k ∧ J (xs.take k) wr ∧ Below w0.heap.size w0 wr ∧ Bx wr Bn #[x0, x1, x2, x3] 27) (fun p _ => n - (intOf p).toNat)
  case atStart => exact ⟨0, Nat.zero_le _, rfl, h1, B0, X0⟩
  case round =>
    clear h1 B0 X0
    obtain ⟨k, hk, rfl, hj, B, X⟩ := hrel
    obtain ⟨c0, c1, c2, c3⟩ := cells4 X
    by_cases hlt : k < n
    · have hkx : k < xs.length := by omega
      have hat := listS_at xs k hkx
      rw [Hxs.out] at hat
      have hsn : xs.take (k + 1) = xs.take k ++ [xs[k]] := List.take_succ_eq_append_getElem hkx
      obtain ⟨x, hx⟩ : ∃ x, xs[k] = x := ⟨_, rfl⟩
      rw [hx] at hat hsn
      have Hat := hide hat
      have Hsn := hide hsn
      clear hat hsn hx
      gi_wp2_with (refine ⟨trivial, ?_⟩; gi_at_call 72; refine (callsIn_wide.2 (at_any _ v k x.1 _ (HV0.out.later B) hl hp (by rw [Hn.out]; exact hlt) Hat.out)).mono ?_; rintro e w2 ⟨rfl, bb⟩; have hj2 := abides hJ hj bb; obtain ⟨fn, tmps, assign, body, hy, hR⟩ := hY _ x w2 hj2 (by simp; omega); dsimp only [encX] at hy)
      refine hR.mono ?_
      rintro e W3 (⟨rfl, hJ3, hk3⟩ | ⟨rfl, hJx3⟩)
      · gi_wp2
        go_roundw
        case rel => exact ⟨k + 1, by omega, by go_num, by rw [Hsn.out]; exact hJ3, (B.trans (bb.mono B.size)).trans hk3.1, hk3.2 _ (X.next bb)⟩
        case measure => simp [intOf]; omega
      · gi_wp2
        refine bodyPost_ret (results_none rfl _ _ _) rfl ?_
        exact ⟨⟨_, rfl⟩, .inr ⟨_, ⟨xs.drop (k + 1), by rw [← Hsn.out, List.take_append_drop]⟩, hJx3⟩⟩
    · have hend : xs.take k = xs := List.take_of_length_le (by omega)
      rw [hend] at hj
      gi_wp2
      go_end0
      exact ⟨⟨_, rfl⟩, .inl ⟨xs, rfl, hj⟩⟩
end Go.Proofs.Ytpfcfadbilaleaa
/-
  WALKS: the program's Texts (layer 8).
-/
namespace Go.Proofs.Ytpfcfadbilaleaa
open Go.RowKit Go.Shelf
attribute [local go_sem] Oper.semAt_some

set_option maxRecDepth 20000 in
theorem stepIn_append_lies {F : Fence} {n' : Nat} {P : Program} (w : World) {ops : Array Oper} {o : Oper} {a : Act} {K : Act → World → Prop} {Q : Exit → Act → World → Prop} {E : Prop} (hgd : o.guard = none) (s x : Operand) (t : TypeId)
    (ho : o.op = .call { callee := .builtin .append, args := #[s, x], argTypes := #[t, t] })
    (base : Nat) (e : TypeId) (i : TypeInfo) (z : Value) (size bytes : Nat) (ht : P.underlying t = some (.slice e)) (hi : P.info? e = some i) (hz : i.zero = some z)
    (hsize : i.size = size) (hby : i.bytes = bytes) (hzs : z.cells.size = size) (hsz : 0 < size)
    (v : Value) (n : Nat) (xs : List Value) (hs : a.eval s = v) (hown : w.ownsRow base e size v n xs)
    (ad : Addr) (m c : Nat) (news : List Value) (hx : a.eval x = .slice (some ad) m c) (hl : news.length = m * size) (hnews : ∀ j u, news[j]? = some u → w.cell? (ad.add j) = some u) (h1 : ∀ u ∈ news, u.oneCell' = true)
    (hm : 0 < m) (h63 : n + m ≤ maxLen) (hbytes : (n + m) * bytes ≤ 140737488355328) (hbase : base ≤ w.heap.size) (H : Nat) (hH : w.heap.size = H)
    (h : ∀ g cap w', w'.ownsRow base e size (.slice (some ⟨g, 0, none⟩) (n + m) cap) (n + m) (xs ++ news) → w.grownBy w' v.ownBlock → (v.ownBlock = some g ∨ g = H) → g < w'.heap.size → K (a.put o.dst (.slice (some ⟨g, 0, none⟩) (n + m) cap)) w') :
    if Region.wanted o (yielded ops a.tmps) = true then Oper.wpIn F n' P o a w K Q else E := by
  have hw : Region.wanted o (yielded ops a.tmps) = true := by simp [Region.wanted, hgd]
  rw [if_pos hw]
  obtain ⟨g, cap, w', hr, h2, h3, h4, h5⟩ := run_append_lies (P := P) w t o.type base e i z size bytes ht hi hz hsize hby hzs hsz v n xs hown ad m c news hl hnews h1 hm h63 hbytes hbase H hH
  unfold Oper.wpIn
  refine ⟨?_, ?_⟩
  · simp [Oper.about, ho, resolve, Target.leads, Sem.run_pure]
  · rw [Oper.semAt_plain F _ _ (by rw [ho]; intro c hc'; cases hc')]
    simp [execOp, ho, resolve, invoke, builtin, hs, hx, hr, Result.andThen]
    exact h g cap w' h2 h3 h4 h5
def rowX (xs : List Sx) : List Value := xs.map fun x => .string x.1
set_option maxRecDepth 20000 in
theorem rowX_snoc (xs : List Sx) (x : Sx) : rowX (xs ++ [x]) = rowX xs ++ [.string x.1] := by simp [rowX]
set_option maxRecDepth 20000 in
theorem rowX_strs (xs : List Sx) : rowX xs = strsV (listS xs) := by
  simp [rowX, strsV, listS]
/-- a list in a box that is written on, beside a value's box -/
structure Lx (w W : World) (B Bn : Nat) (cs : Array Value) (xs : List Sx) (u : Value) : Prop where
  bel : Below w.heap.size w W
  hB : w.heap.size ≤ B
  box : Boxed W B 24 u
  row : W.ownsRow w.heap.size 9 1 u xs.length (rowX xs)
  val : Bx W Bn cs 27
section
variable {w W W' : World} {B Bn : Nat} {cs : Array Value} {xs : List Sx} {u : Value}
set_option maxRecDepth 20000 in
theorem boxed_next {t : TypeId} (h : Boxed W B t u) (bb : Below W.heap.size W W') : Boxed W' B t u := (bb.block B h.lt).trans h
set_option maxRecDepth 20000 in
theorem Lx.next (h : Lx w W B Bn cs xs u) (bb : Below W.heap.size W W') : Lx w W' B Bn cs xs u := ⟨h.bel.trans (bb.mono h.bel.size), h.hB, boxed_next h.box bb, own_later h.row bb, h.val.next bb⟩
set_option maxRecDepth 20000 in
theorem bx_not_row {e t : TypeId} (h : Bx W Bn cs t) (hte : t ≠ e) {base size k : Nat} {v : Value} {ys : List Value} (hr : W.ownsRow base e size v k ys) : some Bn ≠ v.ownBlock := by
  rcases hr.2 with ⟨rfl, _⟩ | ⟨g, cap, cur, rfl, _, hgb, _⟩
  · simp [Value.ownBlock]
  · intro e'
    obtain rfl : Bn = g := by simpa [Value.ownBlock] using e'
    have := (show W.heap[Bn]? = _ from h).symm.trans hgb
    simp at this
    exact hte this.2
set_option maxRecDepth 20000 in
theorem Lx.appended {w1 : World} {x : Sx} {v' : Value} {tmp : Obj} (h : Lx w W B Bn cs xs u) (hne : Bn ≠ B) (hown : w1.ownsRow w.heap.size 9 1 v' (xs.length + 1) (rowX xs ++ [.string x.1])) (hg : (W.alloc tmp).grownBy w1 u.ownBlock) :
    Boxed w1 B 24 u ∧ Lx w (w1.setCell ⟨B, 0, none⟩ v') B Bn cs (xs ++ [x]) v' ∧ KeepsOthers W (w1.setCell ⟨B, 0, none⟩ v') ∧ Below w.heap.size W (w1.setCell ⟨B, 0, none⟩ v') := by
  obtain ⟨h1, h2, h3, h4, h5⟩ := h.box.appended (by decide) h.row h.bel.size h.hB hown hg
  refine ⟨h1, ⟨h.bel.trans h5, h.hB, h2, by rw [rowX_snoc, List.length_append]; exact h3, ?_⟩, h4, h5⟩
  have hv : Bx w1 Bn cs 27 := (hg.block Bn (by have := h.val.lt; simp; omega) (bx_not_row h.val (by decide) h.row)).trans (h.val.later tmp)
  exact hv.other hne 0 v'
set_option maxRecDepth 20000 in
theorem keeps_below (bb : Below W.heap.size W W') (B : Nat) : KeepsFrom B W W' := ⟨bb.size, fun k _ _ hk _ => (bb.block k (Array.getElem?_eq_some_iff.1 hk).1).trans hk⟩
set_option maxRecDepth 20000 in
theorem lx_own {n : Nat} (hn : w.heap.size ≤ n) : OwnFrom n (fun (pre : List Sx) W => ∃ u, Lx w W B Bn cs pre u) := by
  rintro s X Y row ⟨u, h⟩ hg hrow
  have hr2 : ∀ r, row = some r → ∃ o : Obj, X.heap[r]? = some o ∧ o.isCells = false := fun r e => (hrow r e).2
  have hno : ∀ (b : Nat) (c : Array Value) (t : TypeId) (f : Nat × Nat), X.heap[b]? = some (.cells c t f) → some b ≠ row := fun b c t f hb e => by
    obtain ⟨o, ho, hc⟩ := hr2 b e.symm
    rw [hb] at ho; cases ho; cases hc
  refine ⟨u, h.bel.grown hg (Nat.le_trans (by have := h.bel.size; omega) (Nat.le_refl _)) (fun k e => Nat.le_trans hn (hrow k e).1), h.hB, h.box.kept hg (hno _ _ _ _ h.box), h.row.kept hg ?_, (hg.block Bn h.val.lt (hno _ _ _ _ h.val)).trans h.val⟩
  rcases h.row.2 with ⟨rfl, _⟩ | ⟨g, cap, cur, rfl, _, hgb, _⟩
  · exact .inl rfl
  · exact .inr (by rw [show (Value.slice (some ⟨g, 0, none⟩) s.length cap).ownBlock = some g from rfl]; exact (hno _ _ _ _ hgb))
end
set_option maxRecDepth 100000 in
set_option maxHeartbeats 4000000 in
theorem texts_walk (x : Value) (v : Vl) (w : World) (H : VlAt w x v) (hl : v.l.length ≤ 100000) (hp : v.p.length ≤ 100000) (hts : ∀ y ∈ textsV v, y.length ≤ 140737488355328) :
    Calls Try.prog 52 #[x] w fun e w' => ∃ u, e = .returned u ∧ w'.ownsRow w.heap.size 9 1 u (textsV v).length (strsV (textsV v)) ∧ Below w.heap.size w w' := by
  obtain ⟨xs, hxs⟩ := list_lift (textsV v) hts
  obtain ⟨i0, hi, hz0, hz1, hz2⟩ := info_parts info9
  have hlen : xs.length ≤ 200000 := by
    rw [← listS_len, hxs]; unfold textsV; split
    · simp
    · split
      · omega
      · split
        · rw [flat_len]; omega
        · simp
  have HV := hide H
  obtain ⟨sl, sp, rfl, _, _⟩ := H
  obtain ⟨S, hS⟩ : ∃ S : ByteArray, (⟨v.s.toArray⟩ : ByteArray) = S := ⟨_, rfl⟩
  obtain ⟨k, hk⟩ : ∃ k, v.kind = k := ⟨_, rfl⟩
  rw [hS, hk] at HV ⊢
  rw [← hxs, ← rowX_strs, listS_len]
  have Hxs := hide hxs
  clear hS hk hxs hts
  refine (callsIn_wide (n := 5)).1 ?_
  refine callsIn_of_wp_marks Try.func52 rfl trivial ?_ rfl
  simp only [Try.ntmps52, List.size_toArray, List.length_cons, List.length_nil, Nat.reduceAdd, Nat.reduceSub, Array.replicate_succ, Array.replicate_zero, List.push_toArray, List.append_toArray, List.nil_append, List.cons_append]
  gi_wp2_with (refine ⟨trivial, ?_⟩; gi_at_call 48; refine (callsIn_wide.2 (each_any _ _)).mono ?_; rintro e w' ⟨rfl, rfl⟩)
  have X0 := Bx.made w #[.int .i64 k, .string S, sl, sp] 27
  have B0 : Below w.heap.size w (((w.alloc (.cells #[.int .i64 k, .string S, sl, sp] 27)).alloc (.cells #[.slice none 0 0] 24)).alloc (.cells #[.int .i64 k, .string S, sl, sp] 27)) := (((Below.refl _ _).alloc (Nat.le_refl _) _).alloc (by simp) _).alloc (by simp; omega) _
  have bO : Boxed (((w.alloc (.cells #[.int .i64 k, .string S, sl, sp] 27)).alloc (.cells #[.slice none 0 0] 24)).alloc (.cells #[.int .i64 k, .string S, sl, sp] 27)) (w.heap.size + 1) 24 (.slice none 0 0) := by
    have := (Boxed.new (w.alloc (.cells #[.int .i64 k, .string S, sl, sp] 27)) 24 (.slice none 0 0)).alloc (.cells #[.int .i64 k, .string S, sl, sp] 27)
    simpa using this
  have bN : Bx (((w.alloc (.cells #[.int .i64 k, .string S, sl, sp] 27)).alloc (.cells #[.slice none 0 0] 24)).alloc (.cells #[.int .i64 k, .string S, sl, sp] 27)) (w.heap.size + 1 + 1) #[.int .i64 k, .string S, sl, sp] 27 := by
    have := Bx.made ((w.alloc (.cells #[.int .i64 k, .string S, sl, sp] 27)).alloc (.cells #[.slice none 0 0] 24)) #[.int .i64 k, .string S, sl, sp] 27
    simpa using this
  have hz : (((w.alloc (.cells #[.int .i64 k, .string S, sl, sp] 27)).alloc (.cells #[.slice none 0 0] 24)).alloc (.cells #[.int .i64 k, .string S, sl, sp] 27)).heap.size = w.heap.size + 3 := by simp
  have L0 : Lx w (((w.alloc (.cells #[.int .i64 k, .string S, sl, sp] 27)).alloc (.cells #[.slice none 0 0] 24)).alloc (.cells #[.int .i64 k, .string S, sl, sp] 27)) (w.heap.size + 1) (w.heap.size + 1 + 1) #[.int .i64 k, .string S, sl, sp] [] (.slice none 0 0) :=
    ⟨B0, by omega, bO, World.ownsRow_nil _ _ _ _, bN⟩
  obtain ⟨W0, hW0⟩ : ∃ W0, ((w.alloc (.cells #[.int .i64 k, .string S, sl, sp] 27)).alloc (.cells #[.slice none 0 0] 24)).alloc (.cells #[.int .i64 k, .string S, sl, sp] 27) = W0 := ⟨_, rfl⟩
  rw [hW0] at B0 bO bN hz L0 ⊢
  have hmx : Try.prog.follows .mixedOrders = true := by kernel_rfl
  refine wpIn_rangeFunc_ownG rfl (by omega) (gf := 71) (lb := #[.pointer (some ⟨w.heap.size + 1 + 1, 0, none⟩)]) rfl trivial (enters_of Try.func71 (by kernel_rfl) rfl)
    (each1_stops (w.heap.size + 1 + 1) v _ _ _ _ xs w W0 HV.out (by omega) (by omega) B0 bN Hxs.out) (fun h k => kp_t h k) (kp_b (w := W0) (by omega) (by omega)) (Below.refl _ _) (fun _ => rfl)
    (fun pre W => ∃ u, Lx w W (w.heap.size + 1) (w.heap.size + 1 + 1) #[.int .i64 k, .string S, sl, sp] pre u)
    (fun _ _ _ => False)
    (lx_own (by omega))
    (fun _ _ _ _ _ hs _ _ => hs)
    ⟨_, L0⟩
    (fun x => { tmps := #[.agg #[.int .i64 k, .string S, sl, sp], .pointer (some ⟨w.heap.size, 0, none⟩), .slice none 0 0, .pointer (some ⟨w.heap.size + 1, 0, none⟩), .string x.1, .agg #[.int .i64 k, .string S, sl, sp], .func (.func 71) #[] #[.pointer (some ⟨w.heap.size + 1 + 1, 0, none⟩)], .string x.1, undef, undef, undef, undef, undef, undef], defers := [] }) ?assign ?body ?done ?stop
  case assign =>
    intro l x W K hK
    dsimp only [encX]
    gi_wp2
    exact hK
  case body =>
    rintro l pre x W ⟨u, L⟩ hlt
    have hc := L.box.cell
    gi_wp2
    refine wpIn_region_any (by assumption) ?_
    change wpAnyIn _ _ _ _ _ _ _ _ _ (World.drew _)
    refine wpAnyIn_ready (rs := [0, 1]) (by kernel_rfl) (by simp) ?_
    refine AllReadyIn.cons rfl (fun K hK => ?_) ?_
    · go_simp
      refine hK _ _ ?_; clear hK K
      refine wpAnyIn_ready (rs := [1]) (by kernel_rfl) (by simp) ?_
      refine AllReadyIn.cons rfl (fun K hK => ?_) AllReadyIn.nil
      go_simp
      refine hK _ _ ?_; clear hK K
      refine wpAnyIn_ready (rs := [2]) (by kernel_rfl) (by simp) ?_
      refine AllReadyIn.cons rfl (fun K hK => ?_) AllReadyIn.nil
      go_simp
      gi_wp2_with (refine ⟨trivial, ?_⟩; gi_at_call 60; refine (CallsIn.inRound l (callsIn_wide.2 (clone_any x.1 _ (by have := x.2; omega)))).mono ?_; rintro e w2 ⟨rfl, bb⟩)
      have b2 : Below W.heap.size W w2 := ⟨bb.os, bb.tape, bb.output, bb.size, bb.block⟩
      have L2 := L.next b2
      have hc2 := L2.box.cell
      have hc3 := (L2.box.alloc (.cells #[.string x.1] 9)).cell
      refine wpAnyIn_ready (rs := [3]) (by kernel_rfl) (by simp) ?_
      refine AllReadyIn.cons rfl (fun K hK => ?_) AllReadyIn.nil
      go_simp
      refine hK _ _ ?_; clear hK K
      refine wpAnyIn_ready (rs := [4]) (by kernel_rfl) (by simp) ?_
      refine AllReadyIn.cons rfl (fun K hK => ?_) AllReadyIn.nil
      refine stepIn_append_lies _ (by rfl) _ _ 24 (by rfl) w.heap.size 9 i0 (.string ⟨#[]⟩) 1 16 Try.underlying24 hi hz0 hz1 hz2 rfl (by decide) u pre.length (rowX pre) (by rfl) (own_later L2.row (b_alloc w2 (.cells #[.string x.1] 9))) ⟨w2.heap.size, 0, none⟩ 1 1 [.string x.1] (by rfl) rfl (cell_one_new _ _ _) (by simp [Value.oneCell']) (by decide) (by unfold maxLen; omega) (by omega) (by have := L2.bel.size; simp; omega) _ rfl ?_
      intro g cap w4 hown hgrow hat hlt4
      obtain ⟨hb4, L4, k4, bl4⟩ := L2.appended (by omega) hown hgrow
      have hc4 := hb4.cell
      have hf4 := hb4.frozen
      clear hown hgrow hat
      refine hK _ _ ?_; clear hK K
      refine wpAnyIn_ready (rs := [5]) (by kernel_rfl) (by simp) ?_
      refine AllReadyIn.cons rfl (fun K hK => ?_) AllReadyIn.nil
      go_simp
      refine hK _ _ ?_; clear hK K
      refine wpAnyIn_done (by kernel_rfl) ?_ _
      exact ⟨(keeps_below b2 _).trans (k4.from _), ⟨(b2.mono L.bel.size).trans bl4, fun o ho => by rw [show W.heap[w.heap.size + 1 + 1]? = _ from L.val] at ho; rw [← ho]; exact L4.val⟩, _, L4⟩
    refine AllReadyIn.cons rfl (fun K hK => ?_) AllReadyIn.nil
    go_simp
    refine hK _ _ ?_; clear hK K
    refine wpAnyIn_ready (rs := [0, 2]) (by kernel_rfl) (by simp) ?_
    refine AllReadyIn.cons rfl (fun K hK => ?_) ?_
    · go_simp
      refine hK _ _ ?_; clear hK K
      refine wpAnyIn_ready (rs := [2]) (by kernel_rfl) (by simp) ?_
      refine AllReadyIn.cons rfl (fun K hK => ?_) AllReadyIn.nil
      go_simp
      gi_wp2_with (refine ⟨trivial, ?_⟩; gi_at_call 60; refine (CallsIn.inRound l (callsIn_wide.2 (clone_any x.1 _ (by have := x.2; omega)))).mono ?_; rintro e w2 ⟨rfl, bb⟩)
      have b2 : Below W.heap.size W w2 := ⟨bb.os, bb.tape, bb.output, bb.size, bb.block⟩
      have L2 := L.next b2
      have hc2 := L2.box.cell
      have hc3 := (L2.box.alloc (.cells #[.string x.1] 9)).cell
      refine wpAnyIn_ready (rs := [3]) (by kernel_rfl) (by simp) ?_
      refine AllReadyIn.cons rfl (fun K hK => ?_) AllReadyIn.nil
      go_simp
      refine hK _ _ ?_; clear hK K
      refine wpAnyIn_ready (rs := [4]) (by kernel_rfl) (by simp) ?_
      refine AllReadyIn.cons rfl (fun K hK => ?_) AllReadyIn.nil
      refine stepIn_append_lies _ (by rfl) _ _ 24 (by rfl) w.heap.size 9 i0 (.string ⟨#[]⟩) 1 16 Try.underlying24 hi hz0 hz1 hz2 rfl (by decide) u pre.length (rowX pre) (by rfl) (own_later L2.row (b_alloc w2 (.cells #[.string x.1] 9))) ⟨w2.heap.size, 0, none⟩ 1 1 [.string x.1] (by rfl) rfl (cell_one_new _ _ _) (by simp [Value.oneCell']) (by decide) (by unfold maxLen; omega) (by omega) (by have := L2.bel.size; simp; omega) _ rfl ?_
      intro g cap w4 hown hgrow hat hlt4
      obtain ⟨hb4, L4, k4, bl4⟩ := L2.appended (by omega) hown hgrow
      have hc4 := hb4.cell
      have hf4 := hb4.frozen
      clear hown hgrow hat
      refine hK _ _ ?_; clear hK K
      refine wpAnyIn_ready (rs := [5]) (by kernel_rfl) (by simp) ?_
      refine AllReadyIn.cons rfl (fun K hK => ?_) AllReadyIn.nil
      go_simp
      refine hK _ _ ?_; clear hK K
      refine wpAnyIn_done (by kernel_rfl) ?_ _
      exact ⟨(keeps_below b2 _).trans (k4.from _), ⟨(b2.mono L.bel.size).trans bl4, fun o ho => by rw [show W.heap[w.heap.size + 1 + 1]? = _ from L.val] at ho; rw [← ho]; exact L4.val⟩, _, L4⟩
    refine AllReadyIn.cons rfl (fun K hK => ?_) AllReadyIn.nil
    go_simp
    gi_wp2_with (refine ⟨trivial, ?_⟩; gi_at_call 60; refine (CallsIn.inRound l (callsIn_wide.2 (clone_any x.1 _ (by have := x.2; omega)))).mono ?_; rintro e w2 ⟨rfl, bb⟩)
    have b2 : Below W.heap.size W w2 := ⟨bb.os, bb.tape, bb.output, bb.size, bb.block⟩
    have L2 := L.next b2
    have hc2 := L2.box.cell
    have hc3 := (L2.box.alloc (.cells #[.string x.1] 9)).cell
    refine wpAnyIn_ready (rs := [0, 3]) (by kernel_rfl) (by simp) ?_
    refine AllReadyIn.cons rfl (fun K hK => ?_) ?_
    · go_simp
      refine hK _ _ ?_; clear hK K
      refine wpAnyIn_ready (rs := [3]) (by kernel_rfl) (by simp) ?_
      refine AllReadyIn.cons rfl (fun K hK => ?_) AllReadyIn.nil
      go_simp
      refine hK _ _ ?_; clear hK K
      refine wpAnyIn_ready (rs := [4]) (by kernel_rfl) (by simp) ?_
      refine AllReadyIn.cons rfl (fun K hK => ?_) AllReadyIn.nil
      refine stepIn_append_lies _ (by rfl) _ _ 24 (by rfl) w.heap.size 9 i0 (.string ⟨#[]⟩) 1 16 Try.underlying24 hi hz0 hz1 hz2 rfl (by decide) u pre.length (rowX pre) (by rfl) (own_later L2.row (b_alloc w2 (.cells #[.string x.1] 9))) ⟨w2.heap.size, 0, none⟩ 1 1 [.string x.1] (by rfl) rfl (cell_one_new _ _ _) (by simp [Value.oneCell']) (by decide) (by unfold maxLen; omega) (by omega) (by have := L2.bel.size; simp; omega) _ rfl ?_
      intro g cap w4 hown hgrow hat hlt4
      obtain ⟨hb4, L4, k4, bl4⟩ := L2.appended (by omega) hown hgrow
      have hc4 := hb4.cell
      have hf4 := hb4.frozen
      clear hown hgrow hat
      refine hK _ _ ?_; clear hK K
      refine wpAnyIn_ready (rs := [5]) (by kernel_rfl) (by simp) ?_
      refine AllReadyIn.cons rfl (fun K hK => ?_) AllReadyIn.nil
      go_simp
      refine hK _ _ ?_; clear hK K
      refine wpAnyIn_done (by kernel_rfl) ?_ _
      exact ⟨(keeps_below b2 _).trans (k4.from _), ⟨(b2.mono L.bel.size).trans bl4, fun o ho => by rw [show W.heap[w.heap.size + 1 + 1]? = _ from L.val] at ho; rw [← ho]; exact L4.val⟩, _, L4⟩
    refine AllReadyIn.cons rfl (fun K hK => ?_) AllReadyIn.nil
    go_simp
    refine hK _ _ ?_; clear hK K
    refine wpAnyIn_ready (rs := [0]) (by kernel_rfl) (by simp) ?_
    refine AllReadyIn.cons rfl (fun K hK => ?_) AllReadyIn.nil
    go_simp
    refine hK _ _ ?_; clear hK K
    refine wpAnyIn_ready (rs := [4]) (by kernel_rfl) (by simp) ?_
    refine AllReadyIn.cons rfl (fun K hK => ?_) AllReadyIn.nil
    refine stepIn_append_lies _ (by rfl) _ _ 24 (by rfl) w.heap.size 9 i0 (.string ⟨#[]⟩) 1 16 Try.underlying24 hi hz0 hz1 hz2 rfl (by decide) u pre.length (rowX pre) (by rfl) (own_later L2.row (b_alloc w2 (.cells #[.string x.1] 9))) ⟨w2.heap.size, 0, none⟩ 1 1 [.string x.1] (by rfl) rfl (cell_one_new _ _ _) (by simp [Value.oneCell']) (by decide) (by unfold maxLen; omega) (by omega) (by have := L2.bel.size; simp; omega) _ rfl ?_
    intro g cap w4 hown hgrow hat hlt4
    obtain ⟨hb4, L4, k4, bl4⟩ := L2.appended (by omega) hown hgrow
    have hc4 := hb4.cell
    have hf4 := hb4.frozen
    clear hown hgrow hat
    refine hK _ _ ?_; clear hK K
    refine wpAnyIn_ready (rs := [5]) (by kernel_rfl) (by simp) ?_
    refine AllReadyIn.cons rfl (fun K hK => ?_) AllReadyIn.nil
    go_simp
    refine hK _ _ ?_; clear hK K
    refine wpAnyIn_done (by kernel_rfl) ?_ _
    exact ⟨(keeps_below b2 _).trans (k4.from _), ⟨(b2.mono L.bel.size).trans bl4, fun o ho => by rw [show W.heap[w.heap.size + 1 + 1]? = _ from L.val] at ho; rw [← ho]; exact L4.val⟩, _, L4⟩
  case done =>
    rintro D ys W hD rfl ⟨u, L⟩ hK
    have hc := L.box.cell
    gi_wp2
    refine ⟨by simp, .inl ⟨_, _, rfl, run_takeDeferred hK, ?_⟩⟩
    exact ⟨_, results_tmp rfl _ _ _, u, rfl, ownsRow_putObj L.row _ hK rfl, L.bel.trans (belowK_b (w := w) (Nat.le_refl _) W D _ _ (by omega) hK rfl rfl)⟩
  case stop =>
    rintro D c pre W _ _ h _
    exact h.elim
set_option maxRecDepth 20000 in
theorem texts_any' (x : Value) (v : Vl) (ts : List (List UInt8)) (w : World) (H : VlAt w x v) (hl : v.l.length ≤ 100000) (hp : v.p.length ≤ 100000) (hts : ∀ y ∈ textsV v, y.length ≤ 140737488355328) (h : textsV v = ts) :
    Calls Try.prog 52 #[x] w fun e w' => ∃ a c, e = .returned (.slice a ts.length c) ∧ StrsAt w' (.slice a ts.length c) ts ∧ Newly w.heap.size (.slice a ts.length c) ∧ Below w.heap.size w w' := by
  subst h
  refine (texts_walk x v w H hl hp hts).mono ?_
  rintro e w' ⟨u, rfl, ho, bb⟩
  have hs := StrsAt.of_owns ho
  obtain ⟨a, c, rfl⟩ := hs.form
  exact ⟨a, c, rfl, hs, Newly.of_owns ho (Nat.le_refl _), bb⟩
end Go.Proofs.Ytpfcfadbilaleaa
/-
  WALKS: the program's Valid (layer 8).
-/
namespace Go.Proofs.Ytpfcfadbilaleaa
open Go.RowKit Go.Shelf
open Go.Proofs.Ytpfcfadbilaleaau (valid_any)
attribute [local go_sem] Oper.semAt_some

set_option maxRecDepth 20000 in
theorem valid_one (s : ByteArray) (b : Bool) (w : World) (h : validT s.data.toList = b) : Calls Try.prog 49 #[.string s] w fun e w' => e = .returned (.bool b) ∧ Below w.heap.size w w' := by
  subst h; exact valid_any s w
/-- a result's box, beside a value's box -/
structure Vx (w W : World) (B Bn : Nat) (cs : Array Value) (t : TypeId) (r : Value) : Prop where
  bel : Below w.heap.size w W
  hB : w.heap.size ≤ B
  box : Boxed W B t r
  val : Bx W Bn cs 27
section
variable {w W W' : World} {B Bn : Nat} {cs : Array Value} {t : TypeId} {r : Value}
set_option maxRecDepth 20000 in
theorem Vx.next (h : Vx w W B Bn cs t r) (bb : Below W.heap.size W W') : Vx w W' B Bn cs t r := ⟨h.bel.trans (bb.mono h.bel.size), h.hB, boxed_next h.box bb, h.val.next bb⟩
set_option maxRecDepth 20000 in
theorem Vx.set (h : Vx w W B Bn cs t r) (hne : Bn ≠ B) (u : Value) : Vx w (W.setCell ⟨B, 0, none⟩ u) B Bn cs t u := ⟨h.bel.setCell (p := ⟨B, 0, none⟩) h.hB u, h.hB, h.box.set u, h.val.other hne 0 u⟩
set_option maxRecDepth 20000 in
theorem not_row {X : World} {row : Option Nat} (hr : ∀ r, row = some r → ∃ o : Obj, X.heap[r]? = some o ∧ o.isCells = false) {b : Nat} {c : Array Value} {t : TypeId} {f : Nat × Nat} (hb : X.heap[b]? = some (.cells c t f)) : some b ≠ row := fun e => by
  obtain ⟨o, ho, hc⟩ := hr b e.symm
  rw [hb] at ho; cases ho; cases hc
set_option maxRecDepth 20000 in
theorem vx_own {β : Type} {n : Nat} (hn : w.heap.size ≤ n) (p : β → Prop) : OwnFrom n (fun (s : β) W => p s ∧ Vx w W B Bn cs t r) := by
  rintro s X Y row ⟨hp, h⟩ hg hrow
  have hr2 : ∀ r, row = some r → ∃ o : Obj, X.heap[r]? = some o ∧ o.isCells = false := fun r e => (hrow r e).2
  exact ⟨hp, h.bel.grown hg h.bel.size (fun k e => Nat.le_trans hn (hrow k e).1), h.hB, h.box.kept hg (not_row hr2 h.box), (hg.block Bn h.val.lt (not_row hr2 h.val)).trans h.val⟩
set_option maxRecDepth 20000 in
theorem kp_val {n : Nat} {cs : Array Value} {t : TypeId} (bel : Below n W W') (h : Bx W Bn cs t) (h' : Bx W' Bn cs t) : Kp n Bn W W' := ⟨bel, fun o ho => by rw [show W.heap[Bn]? = _ from h] at ho; rw [← ho]; exact h'⟩
end
set_option maxRecDepth 100000 in
set_option maxHeartbeats 4000000 in
theorem pvalid_any (x : Value) (v : Vl) (b : Bool) (w : World) (H : VlAt w x v) (hl : v.l.length ≤ 100000) (hp : v.p.length ≤ 100000) (hts : ∀ y ∈ textsV v, y.length ≤ 140737488355328) (hb : validV v = b) :
    Calls Try.prog 25 #[x] w fun e w' => e = .returned (.bool b) ∧ Below w.heap.size w w' := by
  obtain ⟨xs, hxs⟩ := list_lift (textsV v) hts
  have HV := hide H
  obtain ⟨sl, sp, rfl, _, _⟩ := H
  obtain ⟨S, hS⟩ : ∃ S : ByteArray, (⟨v.s.toArray⟩ : ByteArray) = S := ⟨_, rfl⟩
  obtain ⟨k, hk⟩ : ∃ k, v.kind = k := ⟨_, rfl⟩
  rw [hS, hk] at HV ⊢
  have hb2 : (listS xs).all validT = b := by rw [hxs]; exact hb
  have Hb := hide hb2
  have Hxs := hide hxs
  clear hS hk hxs hts hb hb2
  refine (callsIn_wide (n := 5)).1 ?_
  refine callsIn_of_wp_marks Try.func25 rfl trivial ?_ rfl
  simp only [Try.ntmps25, List.size_toArray, List.length_cons, List.length_nil, Nat.reduceAdd, Nat.reduceSub, Array.replicate_succ, Array.replicate_zero, List.push_toArray, List.append_toArray, List.nil_append, List.cons_append]
  gi_wp2_with (refine ⟨trivial, ?_⟩; gi_at_call 48; refine (callsIn_wide.2 (each_any _ _)).mono ?_; rintro e w' ⟨rfl, rfl⟩)
  have B0 : Below w.heap.size w (((w.alloc (.cells #[.int .i64 k, .string S, sl, sp] 27)).alloc (.cells #[.bool false] 4)).alloc (.cells #[.int .i64 k, .string S, sl, sp] 27)) := (((Below.refl _ _).alloc (Nat.le_refl _) _).alloc (by simp) _).alloc (by simp; omega) _
  have bO : Boxed (((w.alloc (.cells #[.int .i64 k, .string S, sl, sp] 27)).alloc (.cells #[.bool false] 4)).alloc (.cells #[.int .i64 k, .string S, sl, sp] 27)) (w.heap.size + 1) 4 (.bool false) := by
    have := (Boxed.new (w.alloc (.cells #[.int .i64 k, .string S, sl, sp] 27)) 4 (.bool false)).alloc (.cells #[.int .i64 k, .string S, sl, sp] 27)
    simpa using this
  have bN : Bx (((w.alloc (.cells #[.int .i64 k, .string S, sl, sp] 27)).alloc (.cells #[.bool false] 4)).alloc (.cells #[.int .i64 k, .string S, sl, sp] 27)) (w.heap.size + 1 + 1) #[.int .i64 k, .string S, sl, sp] 27 := by
    have := Bx.made ((w.alloc (.cells #[.int .i64 k, .string S, sl, sp] 27)).alloc (.cells #[.bool false] 4)) #[.int .i64 k, .string S, sl, sp] 27
    simpa using this
  have hz : (((w.alloc (.cells #[.int .i64 k, .string S, sl, sp] 27)).alloc (.cells #[.bool false] 4)).alloc (.cells #[.int .i64 k, .string S, sl, sp] 27)).heap.size = w.heap.size + 3 := by simp
  obtain ⟨W0, hW0⟩ : ∃ W0, ((w.alloc (.cells #[.int .i64 k, .string S, sl, sp] 27)).alloc (.cells #[.bool false] 4)).alloc (.cells #[.int .i64 k, .string S, sl, sp] 27) = W0 := ⟨_, rfl⟩
  rw [hW0] at B0 bO bN hz ⊢
  have V0 : Vx w W0 (w.heap.size + 1) (w.heap.size + 1 + 1) #[.int .i64 k, .string S, sl, sp] 4 (.bool false) := ⟨B0, by omega, bO, bN⟩
  refine wpIn_rangeFunc_ownG rfl (by omega) (gf := 71) (lb := #[.pointer (some ⟨w.heap.size + 1 + 1, 0, none⟩)]) rfl trivial (enters_of Try.func71 (by kernel_rfl) rfl)
    (each1_stops (w.heap.size + 1 + 1) v _ _ _ _ xs w W0 HV.out (by omega) (by omega) B0 bN Hxs.out) (fun h k => kp_t h k) (kp_b (w := W0) (by omega) (by omega)) (Below.refl _ _) (fun _ => rfl)
    (fun pre W => (listS pre).all validT = true ∧ Vx w W (w.heap.size + 1) (w.heap.size + 1 + 1) #[.int .i64 k, .string S, sl, sp] 4 (.bool false))
    (fun c pre W => (c = .ret ∧ (listS pre).all validT = false) ∧ Vx w W (w.heap.size + 1) (w.heap.size + 1 + 1) #[.int .i64 k, .string S, sl, sp] 4 (.bool false))
    (vx_own (by omega) _)
    (fun c => vx_own (by omega) _)
    ⟨rfl, V0⟩
    (fun x => { tmps := #[.agg #[.int .i64 k, .string S, sl, sp], .pointer (some ⟨w.heap.size, 0, none⟩), .pointer (some ⟨w.heap.size + 1, 0, none⟩), .string x.1, .agg #[.int .i64 k, .string S, sl, sp], .func (.func 71) #[] #[.pointer (some ⟨w.heap.size + 1 + 1, 0, none⟩)], .string x.1, undef, undef, undef], defers := [] }) ?assign ?body ?done ?stop
  case assign =>
    intro l x W K hK
    dsimp only [encX]
    gi_wp2
    exact hK
  case body =>
    rintro l pre x W ⟨hpre, V⟩ _
    have hsn : (listS (pre ++ [x])).all validT = (((listS pre).all validT) && validT x.1.data.toList) := by simp [listS]
    rw [hpre, Bool.true_and] at hsn
    have Hpre := hide hpre
    cases hv : validT x.1.data.toList with
    | true =>
      rw [hv] at hsn
      have Hv := hide hv
      have Hsn := hide hsn
      clear hv hsn hpre
      gi_wp2_with (refine ⟨trivial, ?_⟩; gi_at_call 49; refine (CallsIn.inRound l (callsIn_wide.2 (valid_one _ true _ Hv.out))).mono ?_; rintro e w2 ⟨rfl, bb⟩)
      exact ⟨keeps_below bb _, kp_val (bb.mono V.bel.size) V.val (V.next bb).val, Hsn.out, V.next bb⟩
    | false =>
      rw [hv] at hsn
      have Hv := hide hv
      have Hsn := hide hsn
      clear hv hsn hpre
      gi_wp2_with (refine ⟨trivial, ?_⟩; gi_at_call 49; refine (CallsIn.inRound l (callsIn_wide.2 (valid_one _ false _ Hv.out))).mono ?_; rintro e w2 ⟨rfl, bb⟩; have V2 := V.next bb; have hc2 := V2.box.cell; have hf2 := V2.box.frozen)
      exact ⟨(keeps_below bb _).trans ((KeepsOthers.setCell _ _ _).from _), ⟨rfl, Hsn.out⟩, V2.set (by omega) _⟩
  case done =>
    rintro D ys W hD rfl ⟨hall, V⟩ hK
    have Hall : Hid (true = b) := by have := Hb.out; rw [hall] at this; exact hide this
    clear hall
    have hcr := V.box.cell
    have hfr := V.box.frozen
    gi_wp2
    have hK' := (KeepsOthers.setCell W ⟨w.heap.size + 1, 0, none⟩ (.bool true)).same D _ hK rfl
    refine ⟨by simp, .inl ⟨_, _, rfl, run_takeDeferred hK', ?_⟩⟩
    have hc5 := cell_kept (World.cell?_setCell_same' W ⟨w.heap.size + 1, 0, none⟩ (.bool true) (by rw [hcr]; rfl)) (grownBy_putObj' _ D (.deferred none)) (fun r e => by cases e; exact ⟨_, hK', rfl⟩)
    refine ⟨.bool true, ?_, by rw [Hall.out], (V.set (by omega) _).bel.trans (belowK_b (w := w) (Nat.le_refl _) _ D _ _ (by omega) hK' rfl rfl)⟩
    simp [results, Try.results25, go_sem, hc5]
  case stop =>
    rintro D c pre W hD hpre ⟨⟨rfl, hin⟩, V⟩ hK
    have Hall : Hid (false = b) := by
      have := Hb.out
      obtain ⟨r, hr⟩ := hpre
      rw [← hr, show listS (pre ++ r) = listS pre ++ listS r by simp [listS], List.all_append, hin] at this
      exact hide this
    have hcr := V.box.cell
    clear hin
    gi_wp2
    refine ⟨by simp, .inl ⟨_, _, rfl, run_takeDeferred hK, ?_⟩⟩
    have hc5 := cell_kept hcr (grownBy_putObj' _ D (.deferred none)) (fun r e => by cases e; exact ⟨_, hK, rfl⟩)
    refine ⟨.bool false, ?_, by rw [Hall.out], V.bel.trans (belowK_b (w := w) (Nat.le_refl _) W D _ _ (by omega) hK rfl rfl)⟩
    simp [results, Try.results25, go_sem, hc5]
end Go.Proofs.Ytpfcfadbilaleaa
/-
  WALKS: the laws' few, the program's One (layer 11), awake.
-/
namespace Go.Proofs.Ytpfcfadbilaleaa
open Go.RowKit

/-- lengths that a value of the language may have -/
structure WideV (v : Vl) : Prop where
  hl : v.l.length ≤ 9223372036854775807
  hp : v.p.length ≤ 9223372036854775807
  hs : v.s.length ≤ 9223372036854775807
  hlx : ∀ y ∈ v.l, y.length ≤ 9223372036854775807
  hpx : ∀ y ∈ v.p, y.1.length ≤ 9223372036854775807 ∧ y.2.length ≤ 9223372036854775807
set_option maxRecDepth 20000 in
theorem few_w (x : Value) (v : Vl) (b : Bool) (w : World) (H : VlAt w x v) (W : WideV v) (h : fewV v = b) : Calls Try.prog 21 #[x] w fun e w' => e = .returned (.bool b) ∧ Below w.heap.size w w' := by
  subst h; exact few_any x v w H W.hl W.hp W.hs W.hlx W.hpx
/-- a value that is no longer than the laws ask -/
structure FewV (v : Vl) : Prop where
  l : v.l.length ≤ 30
  p : v.p.length ≤ 30
  ts : ∀ y ∈ textsV v, y.length ≤ 200
set_option maxRecDepth 20000 in
theorem few_of {v : Vl} (h : fewV v = true) : FewV v := by
  unfold fewV fewL fewP at h
  simp only [Bool.and_eq_true, decide_eq_true_eq, List.all_eq_true] at h
  obtain ⟨⟨h1, h2⟩, ⟨h3, h4⟩, h5⟩ := h
  rw [List.take_of_length_le (by omega)] at h1 h2
  refine ⟨h4, h5, fun y hy => ?_⟩
  unfold textsV at hy
  split at hy
  · rw [List.mem_singleton] at hy; rw [hy]; exact h3
  · split at hy
    · exact h1 y hy
    · split at hy
      · unfold flatP at hy
        rw [List.mem_flatMap] at hy
        obtain ⟨q, hq, hy⟩ := hy
        have := h2 q hq
        simp only [List.mem_cons, List.not_mem_nil, or_false] at hy
        rcases hy with rfl | rfl
        · exact this.1
        · exact this.2
      · simp at hy
set_option maxRecDepth 20000 in
theorem FewV.t4 {v : Vl} (h : FewV v) : ∀ y ∈ textsV v, y.length ≤ 140737488355328 := fun y hy => Nat.le_trans (h.ts y hy) (by omega)

/-- a law's two boxes: the variable, the value -/
structure Pz (w W : World) (b : Nat) (nm : ByteArray) (m : Int) (st : Bool) (k : Int) (S : ByteArray) (sl sp : Value) : Prop where
  bel : Below w.heap.size w W
  spec : Bx W b #[.string nm, .int .i64 m, .bool st] 23
  val : Bx W (b + 1) #[.int .i64 k, .string S, sl, sp] 27
section
variable {w W W' : World} {b : Nat} {nm : ByteArray} {m : Int} {st : Bool} {k : Int} {S : ByteArray} {sl sp : Value}
set_option maxRecDepth 20000 in
theorem Pz.made (w : World) : Pz w ((w.alloc (.cells #[.string nm, .int .i64 m, .bool st] 23)).alloc (.cells #[.int .i64 k, .string S, sl, sp] 27)) w.heap.size nm m st k S sl sp :=
  ⟨b_more (b_alloc w _) _, (Bx.made w _ _).later _, by have := Bx.made (w.alloc (.cells #[.string nm, .int .i64 m, .bool st] 23)) #[.int .i64 k, .string S, sl, sp] 27; simpa using this⟩
set_option maxRecDepth 20000 in
theorem Pz.next (h : Pz w W b nm m st k S sl sp) (bb : Below W.heap.size W W') : Pz w W' b nm m st k S sl sp := ⟨b_then h.bel bb, h.spec.next bb, h.val.next bb⟩
set_option maxRecDepth 20000 in
theorem Pz.alloc (h : Pz w W b nm m st k S sl sp) (o : Obj) : Pz w (W.alloc o) b nm m st k S sl sp := h.next (b_alloc W o)
set_option maxRecDepth 20000 in
theorem Pz.all (h : Pz w W b nm m st k S sl sp) : W.cell? ⟨b, 0, none⟩ = some (.string nm) ∧ W.cell? ⟨b, 1, none⟩ = some (.int .i64 m) ∧ W.cell? ⟨b, 2, none⟩ = some (.bool st) ∧ W.cell? ⟨b + 1, 0, none⟩ = some (.int .i64 k) ∧ W.cell? ⟨b + 1, 1, none⟩ = some (.string S) ∧ W.cell? ⟨b + 1, 2, none⟩ = some sl ∧ W.cell? ⟨b + 1, 3, none⟩ = some sp := by
  obtain ⟨a, b, c⟩ := cells3 h.spec
  obtain ⟨d, e, f, g⟩ := cells4 h.val
  exact ⟨a, b, c, d, e, f, g⟩
end
/-- what the laws ask of a variable's value -/
def fewX (nm : ByteArray) (v : Vl) : Bool := decide (nm.size ≤ 200) && fewV v
set_option maxRecDepth 20000 in
theorem fewX_of {nm : ByteArray} {v : Vl} (h : fewX nm v = true) : nm.size ≤ 200 ∧ FewV v := by
  unfold fewX at h
  rw [Bool.and_eq_true, decide_eq_true_eq] at h
  exact ⟨h.1, few_of h.2⟩
set_option maxRecDepth 20000 in
set_option maxHeartbeats 4000000 in
theorem lfew_is (nm : ByteArray) (m : Int) (st : Bool) (x : Value) (v : Vl) (r : Bool) (w : World) (H : VlAt w x v) (W : WideV v) (hn : nm.size ≤ 9223372036854775807) (h : fewX nm v = r) :
    Calls Try.prog 9 #[.agg #[.string nm, .int .i64 m, .bool st], x] w fun e w' => e = .returned (.bool r) ∧ Below w.heap.size w w' := by
  subst h
  have H0 := hide H
  obtain ⟨sl, sp, rfl, _, _⟩ := H
  obtain ⟨S, hS⟩ : ∃ S : ByteArray, (⟨v.s.toArray⟩ : ByteArray) = S := ⟨_, rfl⟩
  obtain ⟨k, hk⟩ : ∃ k, v.kind = k := ⟨_, rfl⟩
  rw [hS, hk] at H0 ⊢
  have P := Pz.made (nm := nm) (m := m) (st := st) (k := k) (S := S) (sl := sl) (sp := sp) w
  obtain ⟨f, hf⟩ : ∃ f, fewV v = f := ⟨_, rfl⟩
  have Hf := hide hf
  have e : fewX nm v = (decide (nm.size ≤ 200) && f) := by unfold fewX; rw [hf]
  rw [e]
  clear hS hk hf e
  by_cases hs : nm.size ≤ 200
  · have ht : decide ((nm.size : Int) ≤ 200) = true := by simp; omega
    have ht2 : decide (nm.size ≤ 200) = true := by simp [hs]
    rw [ht2, Bool.true_and]
    obtain ⟨c0, c1, c2, c3, c4, c5, c6⟩ := P.all
    go_enter Try.func9, Try.ntmps9
    go_wp2_with (go_at_call 21; refine (few_w _ v f _ (H0.out.later P.bel) W Hf.out).mono ?_; rintro e w1 ⟨rfl, bb⟩; replace P := P.next bb)
    all_goals go_ret
    all_goals exact ⟨rfl, P.bel⟩
  · have ht : decide ((nm.size : Int) ≤ 200) = false := by simp; omega
    have ht2 : decide (nm.size ≤ 200) = false := by simp [hs]
    rw [ht2, Bool.false_and]
    obtain ⟨c0, c1, c2, c3, c4, c5, c6⟩ := P.all
    go_enter Try.func9, Try.ntmps9
    go_wp2
    all_goals go_ret
    all_goals exact ⟨rfl, P.bel⟩
end Go.Proofs.Ytpfcfadbilaleaa
