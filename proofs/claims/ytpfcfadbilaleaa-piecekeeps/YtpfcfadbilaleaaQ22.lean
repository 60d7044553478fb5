/-
  TEXTS JOINED: U1, U2, U3, U4, U5, U6.
-/
import Derived.Test.YtpfcfadbilaleaaQ11
import Derived.Test.YtpfcfadbilaleaaQ14
import Derived.Test.YtpfcfadbilaleaaQ20
import Derived.Test.YtpfcfadbilaleaaQ21
/-
  WALKS: a style (layer 11): an operator's rule, and how it encodes a text; the program's name and what is behind it.
-/
namespace Go.Proofs.Ytpfcfadbilaleaa
open Go.RowKit

theorem penc_is (X : ByteArray) (kp : Bool) (Y : ByteArray) (w : World) (hs : X.size ≤ 300000) (h : Y.data.toList = encL kp X.data.toList) :
    Calls Try.prog 45 #[.string X, .bool kp] w fun e w' => e = .returned (.string Y) ∧ Below w.heap.size w w' := by
  have := enc_any X kp w hs
  have e : Y = ⟨(encL kp X.data.toList).toArray⟩ := arr_ext (by rw [h])
  rw [e]
  exact this
theorem penc1_is (b : Nat) (FA SA EA : ByteArray) (nd kp : Bool) (X Y : ByteArray) (w : World) (R : Bx w b #[.string FA, .string SA, .bool nd, .string EA, .bool kp] 37) (hs : X.size ≤ 300000) (h : Y.data.toList = encL kp X.data.toList) :
    Calls Try.prog 44 #[.string X, .pointer (some ⟨b, 0, none⟩)] w fun e w' => e = .returned (.string Y) ∧ Below w.heap.size w w' := by
  have c4 := R.cell 4 _ rfl
  have H := hide h
  clear R h
  go_enter Try.func44, Try.ntmps44
  go_wp2_with (go_at_call 45; refine (penc_is X kp Y _ hs H.out).mono ?_; rintro e w1 ⟨rfl, bb⟩)
  go_ret
  exact ⟨rfl, bb⟩
theorem cells6 {W : World} {b : Nat} {v0 v1 v2 v3 v4 v5 : Value} {t : TypeId} (h : Bx W b #[v0, v1, v2, v3, v4, v5] t) : W.cell? ⟨b, 0, none⟩ = some v0 ∧ W.cell? ⟨b, 1, none⟩ = some v1 ∧ W.cell? ⟨b, 2, none⟩ = some v2 ∧ W.cell? ⟨b, 3, none⟩ = some v3 ∧ W.cell? ⟨b, 4, none⟩ = some v4 ∧ W.cell? ⟨b, 5, none⟩ = some v5 :=
  ⟨h.cell 0 v0 rfl, h.cell 1 v1 rfl, h.cell 2 v2 rfl, h.cell 3 v3 rfl, h.cell 4 v4 rfl, h.cell 5 v5 rfl⟩
theorem put6 {w W : World} {o0 o1 o2 o3 o4 o5 : Value} {t u : TypeId} {k : Nat} {cs : Array Value} (hb : Below w.heap.size w W) (h : Bx W w.heap.size #[o0, o1, o2, o3, o4, o5] t) (g : Bx W k cs u) (hk : k ≠ w.heap.size) (a0 a1 a2 a3 a4 a5 : Value) :
    Bx ((((((W.setCell ⟨w.heap.size, 0, none⟩ a0).setCell ⟨w.heap.size, 1, none⟩ a1).setCell ⟨w.heap.size, 2, none⟩ a2).setCell ⟨w.heap.size, 3, none⟩ a3).setCell ⟨w.heap.size, 4, none⟩ a4).setCell ⟨w.heap.size, 5, none⟩ a5) w.heap.size #[a0, a1, a2, a3, a4, a5] t ∧
    Bx ((((((W.setCell ⟨w.heap.size, 0, none⟩ a0).setCell ⟨w.heap.size, 1, none⟩ a1).setCell ⟨w.heap.size, 2, none⟩ a2).setCell ⟨w.heap.size, 3, none⟩ a3).setCell ⟨w.heap.size, 4, none⟩ a4).setCell ⟨w.heap.size, 5, none⟩ a5) k cs u ∧
    Below w.heap.size w ((((((W.setCell ⟨w.heap.size, 0, none⟩ a0).setCell ⟨w.heap.size, 1, none⟩ a1).setCell ⟨w.heap.size, 2, none⟩ a2).setCell ⟨w.heap.size, 3, none⟩ a3).setCell ⟨w.heap.size, 4, none⟩ a4).setCell ⟨w.heap.size, 5, none⟩ a5) :=
  ⟨(((((h.put 0 a0).put 1 a1).put 2 a2).put 3 a3).put 4 a4).put 5 a5,
   (((((g.other hk 0 a0).other hk 1 a1).other hk 2 a2).other hk 3 a3).other hk 4 a4).other hk 5 a5,
   (((((hb.setCell (p := ⟨w.heap.size, 0, none⟩) (by simp) _).setCell (p := ⟨w.heap.size, 1, none⟩) (by simp) _).setCell (p := ⟨w.heap.size, 2, none⟩) (by simp) _).setCell (p := ⟨w.heap.size, 3, none⟩) (by simp) _).setCell (p := ⟨w.heap.size, 4, none⟩) (by simp) _).setCell (p := ⟨w.heap.size, 5, none⟩) (by simp) _⟩
set_option maxRecDepth 20000 in
set_option maxHeartbeats 4000000 in
theorem style_is (n : Int) (FA SA EA : ByteArray) (nd kp is : Bool) (w : World)
    (H : ∀ W : World, Calls Try.prog 14 #[.int .u8 n] W fun e w' => e = .returned (.tuple #[.agg #[.string FA, .string SA, .bool nd, .string EA, .bool kp], .bool is]) ∧ Below W.heap.size W w') :
    Calls Try.prog 22 #[.int .u8 n] w fun e w' => ∃ b, e = .returned (.tuple #[.agg #[.string FA, .string SA, .bool nd, .string EA, .bool kp, .func (.func 44) #[] #[.pointer (some ⟨b, 0, none⟩)]], .bool is]) ∧ Bx w' b #[.string FA, .string SA, .bool nd, .string EA, .bool kp] 37 ∧ Below w.heap.size w w' := by
  have Hh := hide H
  clear H
  have B0 := b_alloc w (.cells #[.string ⟨#[]⟩, .string ⟨#[]⟩, .bool false, .string ⟨#[]⟩, .bool false, .nilFunc] 53)
  have X0 := Bx.made w #[.string ⟨#[]⟩, .string ⟨#[]⟩, .bool false, .string ⟨#[]⟩, .bool false, .nilFunc] 53
  go_enter Try.func22, Try.ntmps22
  go_wp2_with (go_at_call 14; refine (Hh.out _).mono ?_; rintro e w1 ⟨rfl, bb⟩; have G := Bx.made w1 #[.string FA, .string SA, .bool nd, .string EA, .bool kp] 37; obtain ⟨g0, g1, g2, g3, g4⟩ := cells5 G; replace B0 := b_more (b_then B0 bb) (.cells #[.string FA, .string SA, .bool nd, .string EA, .bool kp] 37); replace X0 := (X0.next bb).later (.cells #[.string FA, .string SA, .bool nd, .string EA, .bool kp] 37); obtain ⟨x0, x1, x2, x3, x4, x5⟩ := cells6 X0; have f0 := X0.free 0; have f1 := X0.free 1; have f2 := X0.free 2; have f3 := X0.free 3; have f4 := X0.free 4; have f5 := X0.free 5; have r := put6 B0 X0 G (by have := bb.size; simp at this; omega) (.string FA) (.string SA) (.bool nd) (.string EA) (.bool kp) (.func (.func 44) #[] #[.pointer (some ⟨w1.heap.size, 0, none⟩)]))
  exact bodyPost_ret (v := .tuple #[.agg #[.string FA, .string SA, .bool nd, .string EA, .bool kp, .func (.func 44) #[] #[.pointer (some ⟨w1.heap.size, 0, none⟩)]], .bool is]) (ret_cell_tmp Try.results22 _ _ rfl r.1 Try.underlying53 rfl (by kernel_rfl)) rfl ⟨w1.heap.size, rfl, r.2.1, r.2.2⟩
/-- a name, and a value behind it, by the rule's Empty -/
def behL (e nm s : List UInt8) : List UInt8 := if s = [] then nm ++ e else nm ++ 61 :: s
theorem beh_named (r : Rl) (nm s : List UInt8) : behL r.empty nm s = namedL r nm s := rfl
set_option maxRecDepth 20000 in
set_option maxHeartbeats 4000000 in
theorem behind_is (FA SA EA : ByteArray) (nd kp : Bool) (f : Value) (nm s J : ByteArray) (w : World) (hn : nm.size ≤ 1000000) (hs : s.size ≤ 1000000) (he : EA.size ≤ 1) (hJ : J.data.toList = behL EA.data.toList nm.data.toList s.data.toList) :
    Calls Try.prog 43 #[.agg #[.string FA, .string SA, .bool nd, .string EA, .bool kp, f], .string nm, .string s] w fun e w' => e = .returned (.string J) ∧ Below w.heap.size w w' := by
  have B0 := b_alloc w (.cells #[.string FA, .string SA, .bool nd, .string EA, .bool kp, f] 53)
  have X0 := Bx.made w #[.string FA, .string SA, .bool nd, .string EA, .bool kp, f] 53
  have e61 : (⟨#[61]⟩ : ByteArray).size = 1 := rfl
  unfold behL at hJ
  by_cases hz : s.data.toList = []
  · have hz2 : ¬ 0 < s.size := by rw [size_list, hz]; simp
    have h1 := eq_none s hz2
    rw [if_pos hz] at hJ
    have a1 := str_add nm EA (by unfold maxLen; omega)
    have hJe : J = nm ++ EA := arr_ext (by rw [hJ, app_list])
    subst hJe
    clear hJ hz hz2 e61
    obtain ⟨W0, hW0⟩ : ∃ W0, w.alloc (.cells #[.string FA, .string SA, .bool nd, .string EA, .bool kp, f] 53) = W0 := ⟨_, rfl⟩
    rw [hW0] at B0 X0
    have HS : Hid (∀ W, Below W0.heap.size W0 W → W.cell? ⟨w.heap.size, 3, none⟩ = some (.string EA)) := fun W hW => (X0.next hW).cell 3 _ rfl
    have d0 : Below W0.heap.size W0 W0.drew := (Below.refl _ W0).drew
    go_enter Try.func43, Try.ntmps43
    go_wp2
    go_region_held3 (fun W => W.cell? ⟨w.heap.size, 3, none⟩ = some (.string EA)) (first | with_reducible exact HS.out _ bb | with_reducible exact HS.out _ d0)
      (first
        | (go_at_call 60; refine (Go.Proofs.Ytpfcfadbilaleaau.clone_any nm _ (by omega)).mono ?_; rintro e w2 ⟨rfl, b2⟩; have bb := d0.trans b2))
    go_wp2
    go_ret
    exact ⟨rfl, b_then B0 bb⟩
  · have hz2 : 0 < s.size := by rw [size_list]; exact List.length_pos_iff.2 hz
    have h1 := eq_some s hz2
    rw [if_neg hz] at hJ
    have a2 := str_add nm ⟨#[61]⟩ (by unfold maxLen; omega)
    have a3 := str_add (nm ++ ⟨#[61]⟩) s (by unfold maxLen; rw [ByteArray.size_append]; omega)
    have hJe : J = nm ++ ⟨#[61]⟩ ++ s := arr_ext (by rw [hJ, app_list, app_list]; simp)
    subst hJe
    clear hJ hz hz2 e61
    go_enter Try.func43, Try.ntmps43
    go_wp2
    go_ret
    exact ⟨rfl, B0⟩
/-- a value, with its name, if the operator has names -/
theorem maybe_is (FA SA EA : ByteArray) (nd kp : Bool) (f : Value) (nm s J : ByteArray) (w : World) (hn : nm.size ≤ 1000000) (hs : s.size ≤ 1000000) (he : EA.size ≤ 1) (hJ : J.data.toList = if nd then behL EA.data.toList nm.data.toList s.data.toList else s.data.toList) :
    Calls Try.prog 75 #[.agg #[.string FA, .string SA, .bool nd, .string EA, .bool kp, f], .string nm, .string s] w fun e w' => e = .returned (.string J) ∧ Below w.heap.size w w' := by
  have B0 := b_alloc w (.cells #[.string FA, .string SA, .bool nd, .string EA, .bool kp, f] 53)
  cases nd with
  | true =>
    have H := hide (hJ.trans (if_pos rfl))
    clear hJ
    go_enter Try.func75, Try.ntmps75
    go_wp2_with (go_at_call 43; refine (behind_is FA SA EA true kp f nm s J _ hn hs he H.out).mono ?_; rintro e w1 ⟨rfl, bb⟩)
    go_ret
    exact ⟨rfl, b_then B0 bb⟩
  | false =>
    have e : J = s := arr_ext (hJ.trans (if_neg (by simp)))
    subst e
    clear hJ
    go_enter Try.func75, Try.ntmps75
    go_wp2
    go_ret
    exact ⟨rfl, B0⟩
end Go.Proofs.Ytpfcfadbilaleaa
/-
  WALKS: a style (layer 11): a pair; the library's Join of a row of texts.
-/
namespace Go.Proofs.Ytpfcfadbilaleaa
open Go.RowKit

/-- a style in a block of its own -/
structure Sy (w W : World) (b k : Nat) (FA SA EA : ByteArray) (nd kp : Bool) : Prop where
  bel : Below w.heap.size w W
  sty : Bx W k #[.string FA, .string SA, .bool nd, .string EA, .bool kp, .func (.func 44) #[] #[.pointer (some ⟨b, 0, none⟩)]] 53
  rule : Bx W b #[.string FA, .string SA, .bool nd, .string EA, .bool kp] 37
section
variable {w W W' : World} {b k : Nat} {FA SA EA : ByteArray} {nd kp : Bool}
theorem Sy.made (R : Bx w b #[.string FA, .string SA, .bool nd, .string EA, .bool kp] 37) : Sy w (w.alloc (.cells #[.string FA, .string SA, .bool nd, .string EA, .bool kp, .func (.func 44) #[] #[.pointer (some ⟨b, 0, none⟩)]] 53)) b w.heap.size FA SA EA nd kp :=
  ⟨b_alloc w _, Bx.made w _ _, R.later _⟩
theorem Sy.next (h : Sy w W b k FA SA EA nd kp) (bb : Below W.heap.size W W') : Sy w W' b k FA SA EA nd kp := ⟨b_then h.bel bb, h.sty.next bb, h.rule.next bb⟩
theorem Sy.alloc (h : Sy w W b k FA SA EA nd kp) (o : Obj) : Sy w (W.alloc o) b k FA SA EA nd kp := h.next (b_alloc W o)
theorem Sy.drew (h : Sy w W b k FA SA EA nd kp) : Sy w W.drew b k FA SA EA nd kp := h.next (b_drew W)
theorem Sy.all (h : Sy w W b k FA SA EA nd kp) : W.cell? ⟨k, 0, none⟩ = some (.string FA) ∧ W.cell? ⟨k, 1, none⟩ = some (.string SA) ∧ W.cell? ⟨k, 2, none⟩ = some (.bool nd) ∧ W.cell? ⟨k, 3, none⟩ = some (.string EA) ∧ W.cell? ⟨k, 4, none⟩ = some (.bool kp) ∧ W.cell? ⟨k, 5, none⟩ = some (.func (.func 44) #[] #[.pointer (some ⟨b, 0, none⟩)]) := cells6 h.sty
end
theorem join_lib (sep : List UInt8) (l : List (List UInt8)) : Lib.join l sep = joinL sep l := by
  cases l with
  | nil => rfl
  | cons x r =>
    rw [Lib.join_cons]
    show x ++ (r.map (sep ++ ·)).flatten = x ++ r.flatMap (sep ++ ·)
    rw [List.flatMap_def]
theorem strs_map (ms : List (List UInt8)) : (ms.map fun m => (⟨m.toArray⟩ : ByteArray)).map (·.data.toList) = ms := by
  rw [List.map_map]
  conv => rhs; rw [← List.map_id ms]
  exact List.map_congr_left fun m _ => rfl
theorem pjoin_is {base : Nat} (W : World) (v : Value) (ms : List (List UInt8)) (SA J : ByteArray) (R : W.ownsRow base 9 1 v ms.length (strsV ms)) (hl : ms.length ≤ 2000) (hs : J.size ≤ 100000000) (hJ : J.data.toList = joinL SA.data.toList ms) :
    Calls Try.prog 76 #[v, .string SA] W fun e w' => e = .returned (.string J) ∧ Below W.heap.size W w' := by
  rcases R.2 with ⟨rfl, h0⟩ | ⟨g, cap, cur, rfl, hb, hg, hn, hm, hsz, ht⟩
  · have e0 : ms = [] := List.eq_nil_of_length_eq_zero h0
    subst e0
    have e : J = ⟨#[]⟩ := arr_ext hJ
    rw [e]
    refine (strings_Join_none none 0 SA W).mono ?_
    rintro e w' ⟨rfl, rfl⟩
    exact ⟨rfl, Below.refl _ _⟩
  · have e : J = ⟨(Lib.join ((ms.map fun m => (⟨m.toArray⟩ : ByteArray)).map (·.data.toList)) SA.data.toList).toArray⟩ := arr_ext (by rw [strs_map, join_lib]; exact hJ)
    have hlen : (Lib.join ((ms.map fun m => (⟨m.toArray⟩ : ByteArray)).map (·.data.toList)) SA.data.toList).length ≤ 140737488355328 := by
      rw [strs_map, join_lib, ← hJ, ← size_list]; omega
    rw [e]
    have hlm : (ms.map fun m => (⟨m.toArray⟩ : ByteArray)).length = ms.length := List.length_map _
    have := strings_Join g 0 cap (ms.map fun m => (⟨m.toArray⟩ : ByteArray)) SA W (fun j x hx => by
      rw [List.getElem?_map] at hx
      obtain ⟨m, hm', rfl⟩ := Option.map_eq_some_iff.1 hx
      have hj : j < ms.length := (List.getElem?_eq_some_iff.1 hm').1
      rw [Nat.zero_add, World.ownsRow.cellAt R j (by omega)]
      simp [strsV, hm']) (Array.getElem?_eq_some_iff.1 hg).1 (by rw [hlm]; omega) (by rw [hlm]; exact hn) hlen
    rw [hlm] at this
    exact this
set_option maxRecDepth 20000 in
set_option maxHeartbeats 4000000 in
theorem pair_is (b : Nat) (FA SA EA : ByteArray) (nd kp : Bool) (K V J : ByteArray) (w : World) (R : Bx w b #[.string FA, .string SA, .bool nd, .string EA, .bool kp] 37) (hk : K.size ≤ 10000) (hv : V.size ≤ 30000) (he : EA.size ≤ 1)
    (hJ : J.data.toList = if nd then behL EA.data.toList (encL true K.data.toList) V.data.toList else encL kp K.data.toList ++ 61 :: V.data.toList) :
    Calls Try.prog 77 #[.agg #[.string FA, .string SA, .bool nd, .string EA, .bool kp, .func (.func 44) #[] #[.pointer (some ⟨b, 0, none⟩)]], .string K, .string V] w fun e w' => e = .returned (.string J) ∧ Below w.heap.size w w' := by
  have Y0 := Sy.made R
  obtain ⟨W0, hW0⟩ : ∃ W0, w.alloc (.cells #[.string FA, .string SA, .bool nd, .string EA, .bool kp, .func (.func 44) #[] #[.pointer (some ⟨b, 0, none⟩)]] 53) = W0 := ⟨_, rfl⟩
  rw [hW0] at Y0
  have e61 : (⟨#[61]⟩ : ByteArray).size = 1 := rfl
  have c2 := Y0.sty.cell 2 _ rfl
  have c5 := Y0.sty.cell 5 _ rfl
  cases nd with
  | true =>
    obtain ⟨E, hE⟩ : ∃ E : ByteArray, E.data.toList = encL true K.data.toList := ⟨⟨(encL true K.data.toList).toArray⟩, rfl⟩
    have hEs : E.size ≤ 30000 := by rw [size_list, hE]; exact enc_le (by rw [← size_list]; exact hk)
    rw [if_pos rfl, ← hE] at hJ
    have H := hide hJ
    have HE := hide hE
    have HS : Hid (∀ W, Below W0.heap.size W0 W → _) := fun W hW => (Y0.next hW).all
    have d0 : Below W0.heap.size W0 W0.drew := (Below.refl _ W0).drew
    clear hJ hE R
    go_enter Try.func77, Try.ntmps77
    go_wp2
    go_region_held3 (fun W => W.cell? ⟨w.heap.size, 0, none⟩ = some (.string FA) ∧ W.cell? ⟨w.heap.size, 1, none⟩ = some (.string SA) ∧ W.cell? ⟨w.heap.size, 2, none⟩ = some (.bool true) ∧ W.cell? ⟨w.heap.size, 3, none⟩ = some (.string EA) ∧ W.cell? ⟨w.heap.size, 4, none⟩ = some (.bool kp) ∧ W.cell? ⟨w.heap.size, 5, none⟩ = some (.func (.func 44) #[] #[.pointer (some ⟨b, 0, none⟩)])) (first | with_reducible exact HS.out _ k2 | with_reducible exact HS.out _ b1 | with_reducible exact HS.out _ d0)
      (first
        | (go_at_call 45; refine (penc_is K true E _ (by omega) HE.out).mono ?_; rintro e w1 ⟨rfl, bb⟩; have b1 := d0.trans bb)
        | (go_at_call 43; refine (behind_is FA SA EA true kp _ E V J _ (by omega) (by omega) he H.out).mono ?_; rintro e w2 ⟨rfl, b2⟩; have k2 := b_then b1 b2))
    all_goals go_wp2
    all_goals go_ret
    all_goals exact ⟨rfl, b_then Y0.bel k2⟩
  | false =>
    obtain ⟨E, hE⟩ : ∃ E : ByteArray, E.data.toList = encL kp K.data.toList := ⟨⟨(encL kp K.data.toList).toArray⟩, rfl⟩
    have hEs : E.size ≤ 30000 := by rw [size_list, hE]; exact enc_le (by rw [← size_list]; exact hk)
    rw [if_neg (by simp), ← hE] at hJ
    have a1 := str_add E ⟨#[61]⟩ (by unfold maxLen; omega)
    have a2 := str_add (E ++ ⟨#[61]⟩) V (by unfold maxLen; rw [ByteArray.size_append]; omega)
    have hJe : J = E ++ ⟨#[61]⟩ ++ V := arr_ext (by rw [hJ, app_list, app_list]; simp)
    subst hJe
    have HE := hide hE
    clear hJ hE R e61
    go_enter Try.func77, Try.ntmps77
    go_wp2_with (go_at_call 44; refine (penc1_is b FA SA EA false kp K E _ Y0.rule (by omega) HE.out).mono ?_; rintro e w1 ⟨rfl, bb⟩)
    go_ret
    exact ⟨rfl, b_then Y0.bel bb⟩
end Go.Proofs.Ytpfcfadbilaleaa
/-
  WALKS: a style (layer 11): texts under one name.
-/
namespace Go.Proofs.Ytpfcfadbilaleaa
open Go.RowKit

theorem i9 : ∃ i, Try.prog.info? 9 = some i ∧ i.zero = some (.string ⟨#[]⟩) ∧ i.size = 1 ∧ i.bytes = 16 := by
  have := info9
  cases hh : Try.prog.info? 9 with
  | none => rw [hh] at this; simp at this
  | some i => rw [hh] at this; simp at this; exact ⟨i, rfl, this.1, this.2.1, this.2.2⟩
set_option maxRecDepth 20000 in
set_option maxHeartbeats 4000000 in
theorem together_is (b : Nat) (FA SA EA : ByteArray) (nd kp : Bool) (nm : ByteArray) (u : Value) (ts : List (List UInt8)) (J : ByteArray) (w : World) (R0 : Bx w b #[.string FA, .string SA, .bool nd, .string EA, .bool kp] 37) (T : StrsAt w u ts) (hln : ts.length ≤ 2000) (hts : ∀ y ∈ ts, y.length ≤ 10000) (hnm : nm.size ≤ 10000)
    (hJ : J.data.toList = (if nd then nm.data.toList ++ [61] else []) ++ joinL [44] (ts.map (encL kp))) :
    Calls Try.prog 51 #[.agg #[.string FA, .string SA, .bool nd, .string EA, .bool kp, .func (.func 44) #[] #[.pointer (some ⟨b, 0, none⟩)]], .string nm, u] w fun e w' => e = .returned (.string J) ∧ Below w.heap.size w w' := by
  obtain ⟨ta, tc, rfl⟩ := T.form
  have Hts := hide hts
  have HJ := hide hJ
  clear hts hJ
  obtain ⟨i0, hi, hz0, hz1, hz2⟩ := i9
  have Y0 := Sy.made R0
  obtain ⟨W0, hW0⟩ : ∃ W0, w.alloc (.cells #[.string FA, .string SA, .bool nd, .string EA, .bool kp, .func (.func 44) #[] #[.pointer (some ⟨b, 0, none⟩)]] 53) = W0 := ⟨_, rfl⟩
  rw [hW0] at Y0
  have T0 := T.later Y0.bel
  clear T R0
  go_enter Try.func51, Try.ntmps51
  go_wp2
  clear hW0
  go_loopw [7, 13] (fun o i wr => ∃ (q : Nat) (ms : List (List UInt8)) (vo : Option Addr) (vc : Nat), q ≤ ts.length ∧ i = .int .i64 q ∧ (ts.take q).map (encL kp) = ms ∧ ms.length = q ∧ o = .slice vo ms.length vc ∧ Sr W0 wr (.slice vo ms.length vc) ms) (fun _ i _ => ts.length - (intOf i).toNat)
  case atStart => exact ⟨0, [], none, 0, Nat.zero_le _, rfl, rfl, rfl, rfl, Sr.nil _⟩
  case round =>
    obtain ⟨q, ms, vo, vc, hq, rfl, hms, hml, rfl, R⟩ := hrel
    by_cases hlt : q < ts.length
    · obtain ⟨b', off, cap, e, hb, g1⟩ := T0.at q hlt
      cases e
      have hnx := map_next (encL kp) ts q hlt
      rw [hms] at hnx
      have hyl := Hts.out _ (List.getElem_mem hlt)
      obtain ⟨y, hyy⟩ : ∃ y, ts[q] = y := ⟨_, rfl⟩
      rw [hyy] at g1 hnx hyl
      obtain ⟨X, hX⟩ : ∃ X : ByteArray, (⟨y.toArray⟩ : ByteArray) = X := ⟨_, rfl⟩
      have hXd : X.data.toList = y := by rw [← hX]
      rw [hX] at g1
      obtain ⟨Y, hY⟩ : ∃ Y : ByteArray, Y.data.toList = encL kp y := ⟨⟨(encL kp y).toArray⟩, rfl⟩
      have hXs : X.size ≤ 10000 := by rw [size_list, hXd]; exact hyl
      have HY := hide (show Y.data.toList = encL kp X.data.toList by rw [hY, hXd])
      have HYd := hide hY
      have Hnx := hide hnx
      have Hml := hide hml
      have hmb : ms.length ≤ 2000 := by omega
      have YR := Y0.next R.bel
      have c5 := YR.sty.cell 5 _ rfl
      have gX := (R.bel.cell (p := ⟨b', off + q, none⟩) hb).trans g1
      have hqi : (0 : Int) ≤ (q : Int) := by omega
      have hql : (q : Int) < (ts.length : Int) := by omega
      clear hnx hyl hyy hX hXd hY hms hml g1
      go_wp2_with (first
        | (go_at_call 44; refine (penc1_is b FA SA EA nd kp X Y _ YR.rule (by omega) HY.out).mono ?_; rintro e w2 ⟨rfl, bb⟩; have R2 := R.next bb; clear bb)
        | (at_builtin; refine wpList_append_lies _ rfl _ _ 24 rfl W0.heap.size 9 i0 (.string ⟨#[]⟩) 1 16 Try.underlying24 hi hz0 hz1 hz2 rfl (by decide) (.slice vo ms.length vc) ms.length (strsV ms) rfl (R2.alloc (.cells #[.string Y] 9)).row ⟨w2.heap.size, 0, none⟩ 1 1 [.string Y] rfl rfl news1 (by intro u hu; simp at hu; subst hu; rfl) (by decide) (by unfold maxLen; omega) (by omega) (by have := R2.bel.size; simp; omega) _ rfl ?_; intro g cap w4 hown hgrow hat hlt4; have HR4 := hide (R2.snoc HYd.out hgrow hown); clear hown hgrow hat hlt4))
      have hn4 : (ms ++ [encL kp y]).length = ms.length + 1 := by simp
      go_roundw
      case rel => exact ⟨q + 1, ms ++ [encL kp y], some ⟨g, 0, none⟩, cap, by omega, by go_num, Hnx.out, by have := Hml.out; omega, by rw [hn4], HR4.out⟩
      case measure => simp [intOf]; omega
    · have hqe : q = ts.length := by omega
      have hfull : ts.map (encL kp) = ms := by rw [← hms, hqe, List.take_length]
      have hmy : ∀ z ∈ ms, z.length ≤ 30000 := fun z hz => by rw [← hfull] at hz; obtain ⟨y, hy, rfl⟩ := List.mem_map.1 hz; exact enc_le (Hts.out y hy)
      have hjl := join_len [44] 30000 ms hmy
      have hmb : ms.length ≤ 2000 := by omega
      have hjl2 : (joinL [44] ms).length ≤ 90000000 := by
        have : ms.length * (([44] : List UInt8).length + 30000) ≤ 2000 * 30001 := Nat.mul_le_mul hmb (by simp)
        omega
      obtain ⟨j, hj⟩ : ∃ j : ByteArray, j.data.toList = joinL [44] ms := ⟨⟨(joinL [44] ms).toArray⟩, rfl⟩
      have hjs : j.size ≤ 90000000 := by rw [size_list, hj]; exact hjl2
      have HM := hide R.row
      have HB := hide (b_then Y0.bel R.bel)
      have Hj := hide (show j.data.toList = joinL (⟨#[44]⟩ : ByteArray).data.toList ms from hj)
      rw [hfull, ← hj] at HJ
      have YR := Y0.next R.bel
      clear hfull hjl hjl2 hmy hqe hms hj R hml
      have e61 : (⟨#[61]⟩ : ByteArray).size = 1 := rfl
      cases nd with
      | true =>
        have a1 := str_add nm ⟨#[61]⟩ (by unfold maxLen; omega)
        have a2 := str_add (nm ++ ⟨#[61]⟩) j (by unfold maxLen; rw [ByteArray.size_append]; omega)
        have hJe : J = nm ++ ⟨#[61]⟩ ++ j := arr_ext (by rw [HJ.out, if_pos rfl, app_list, app_list])
        subst hJe
        clear HJ e61
        go_wp2_with (go_at_call 76; refine (pjoin_is _ _ ms ⟨#[44]⟩ j HM.out hmb (by omega) Hj.out).mono ?_; rintro e w5 ⟨rfl, bb⟩; have c2 := (YR.next bb).sty.cell 2 _ rfl)
        go_ret
        exact ⟨rfl, b_then HB.out bb⟩
      | false =>
        have hJe : J = j := arr_ext (by rw [HJ.out, if_neg (by simp)]; rfl)
        subst hJe
        clear HJ e61
        go_wp2_with (go_at_call 76; refine (pjoin_is _ _ ms ⟨#[44]⟩ J HM.out hmb (by omega) Hj.out).mono ?_; rintro e w5 ⟨rfl, bb⟩; have c2 := (YR.next bb).sty.cell 2 _ rfl)
        go_ret
        exact ⟨rfl, b_then HB.out bb⟩
end Go.Proofs.Ytpfcfadbilaleaa
/-
  WALKS: a style (layer 11): texts, each by itself.
-/
namespace Go.Proofs.Ytpfcfadbilaleaa
open Go.RowKit

/-- a text, with its name, if the operator has names -/
def itL (nd kp : Bool) (e nm y : List UInt8) : List UInt8 := if nd then behL e nm (encL kp y) else encL kp y
theorem it_le {nd kp : Bool} {e nm y : List UInt8} (he : e.length ≤ 1) (hn : nm.length ≤ 10000) (hy : y.length ≤ 10000) : (itL nd kp e nm y).length ≤ 60000 :=
  item_le (r := ⟨[], [], nd, e, kp⟩) he hn hy
set_option maxRecDepth 20000 in
set_option maxHeartbeats 4000000 in
theorem list_is (b : Nat) (FA SA EA : ByteArray) (nd kp : Bool) (nm : ByteArray) (u : Value) (ts : List (List UInt8)) (J : ByteArray) (w : World) (R0 : Bx w b #[.string FA, .string SA, .bool nd, .string EA, .bool kp] 37) (T : StrsAt w u ts) (hln : ts.length ≤ 1000) (hts : ∀ y ∈ ts, y.length ≤ 10000) (hnm : nm.size ≤ 10000) (he : EA.size ≤ 1) (hsa : SA.size ≤ 1)
    (hJ : J.data.toList = joinL SA.data.toList (ts.map (itL nd kp EA.data.toList nm.data.toList))) :
    Calls Try.prog 53 #[.agg #[.string FA, .string SA, .bool nd, .string EA, .bool kp, .func (.func 44) #[] #[.pointer (some ⟨b, 0, none⟩)]], .string nm, u] w fun e w' => e = .returned (.string J) ∧ Below w.heap.size w w' := by
  obtain ⟨ta, tc, rfl⟩ := T.form
  have Hts := hide hts
  have HJ := hide hJ
  clear hts hJ
  obtain ⟨i0, hi, hz0, hz1, hz2⟩ := i9
  have Y0 := Sy.made R0
  obtain ⟨W0, hW0⟩ : ∃ W0, w.alloc (.cells #[.string FA, .string SA, .bool nd, .string EA, .bool kp, .func (.func 44) #[] #[.pointer (some ⟨b, 0, none⟩)]] 53) = W0 := ⟨_, rfl⟩
  rw [hW0] at Y0
  have T0 := T.later Y0.bel
  obtain ⟨it, hit⟩ : ∃ it, itL nd kp EA.data.toList nm.data.toList = it := ⟨_, rfl⟩
  rw [hit] at HJ
  have Hit := hide hit
  clear T R0 hit
  go_enter Try.func53, Try.ntmps53
  go_wp2
  clear hW0
  go_loopw [7, 12] (fun o i wr => ∃ (q : Nat) (ms : List (List UInt8)) (vo : Option Addr) (vc : Nat), q ≤ ts.length ∧ i = .int .i64 q ∧ (ts.take q).map it = ms ∧ ms.length = q ∧ o = .slice vo ms.length vc ∧ Sr W0 wr (.slice vo ms.length vc) ms) (fun _ i _ => ts.length - (intOf i).toNat)
  case atStart => exact ⟨0, [], none, 0, Nat.zero_le _, rfl, rfl, rfl, rfl, Sr.nil _⟩
  case round =>
    obtain ⟨q, ms, vo, vc, hq, rfl, hms, hml, rfl, R⟩ := hrel
    have hmb : ms.length ≤ 1000 := by omega
    by_cases hlt : q < ts.length
    · obtain ⟨b', off, cap, e, hb, g1⟩ := T0.at q hlt
      cases e
      have hnx := map_next it ts q hlt
      rw [hms] at hnx
      have hyl := Hts.out _ (List.getElem_mem hlt)
      obtain ⟨y, hyy⟩ : ∃ y, ts[q] = y := ⟨_, rfl⟩
      rw [hyy] at g1 hnx hyl
      obtain ⟨X, hX⟩ : ∃ X : ByteArray, (⟨y.toArray⟩ : ByteArray) = X := ⟨_, rfl⟩
      have hXd : X.data.toList = y := by rw [← hX]
      rw [hX] at g1
      obtain ⟨Y, hY⟩ : ∃ Y : ByteArray, Y.data.toList = encL kp y := ⟨⟨(encL kp y).toArray⟩, rfl⟩
      obtain ⟨Z, hZ⟩ : ∃ Z : ByteArray, Z.data.toList = it y := ⟨⟨(it y).toArray⟩, rfl⟩
      have hXs : X.size ≤ 10000 := by rw [size_list, hXd]; exact hyl
      have hYs : Y.size ≤ 30000 := by rw [size_list, hY]; exact enc_le hyl
      have HY := hide (show Y.data.toList = encL kp X.data.toList by rw [hY, hXd])
      have HZ : Hid (Z.data.toList = if nd then behL EA.data.toList nm.data.toList Y.data.toList else Y.data.toList) := by
        show Z.data.toList = _
        rw [hZ, ← Hit.out, hY]; rfl
      have HZd := hide hZ
      have Hnx := hide hnx
      have Hml := hide hml
      have YR := Y0.next R.bel
      have YD := YR.drew
      have gX := (R.bel.cell (p := ⟨b', off + q, none⟩) hb).trans g1
      have HS : Hid (∀ W, Below W0.heap.size W0 W → _) := fun W hW => (Y0.next hW).all
      have hqi : (0 : Int) ≤ (q : Int) := by omega
      have hql : (q : Int) < (ts.length : Int) := by omega
      clear hnx hyl hyy hX hXd hY hms hml g1 hZ
      go_wp2
      go_region_held3 (fun W => W.cell? ⟨w.heap.size, 0, none⟩ = some (.string FA) ∧ W.cell? ⟨w.heap.size, 1, none⟩ = some (.string SA) ∧ W.cell? ⟨w.heap.size, 2, none⟩ = some (.bool nd) ∧ W.cell? ⟨w.heap.size, 3, none⟩ = some (.string EA) ∧ W.cell? ⟨w.heap.size, 4, none⟩ = some (.bool kp) ∧ W.cell? ⟨w.heap.size, 5, none⟩ = some (.func (.func 44) #[] #[.pointer (some ⟨b, 0, none⟩)])) (first | with_reducible exact HS.out _ R4.bel | with_reducible exact HS.out _ (R3.alloc _).bel | with_reducible exact HS.out _ R3.bel | with_reducible exact HS.out _ R2.bel | with_reducible exact HS.out _ R.drew.bel)
        (first
          | (go_at_call 44; refine (penc1_is b FA SA EA nd kp X Y _ YD.rule (by omega) HY.out).mono ?_; rintro e w2 ⟨rfl, bb⟩; have R2 := R.drew.next bb; clear bb)
          | (go_at_call 75; refine (maybe_is FA SA EA nd kp _ nm Y Z _ (by omega) (by omega) he HZ.out).mono ?_; rintro e w3 ⟨rfl, bb⟩; have R3 := R2.next bb; clear bb)
          | (refine step_append_lies _ (by rfl) _ _ 24 (by rfl) W0.heap.size 9 i0 (.string ⟨#[]⟩) 1 16 Try.underlying24 hi hz0 hz1 hz2 rfl (by decide) (.slice vo ms.length vc) ms.length (strsV ms) (by rfl) (R3.alloc (.cells #[.string Z] 9)).row ⟨w3.heap.size, 0, none⟩ 1 1 [.string Z] (by rfl) rfl news1 (by intro u hu; simp at hu; subst hu; rfl) (by decide) (by unfold maxLen; omega) (by omega) (by have := R3.bel.size; simp; omega) _ rfl ?_; intro g cap w4 hown hgrow hat hlt4; have R4 := R3.snoc HZd.out hgrow hown; clear hown hgrow hat hlt4))
      have HR4 := hide R4
      have hn4 : (ms ++ [it y]).length = ms.length + 1 := by simp
      clear R4
      go_wp2
      go_roundw
      case rel => exact ⟨q + 1, ms ++ [it y], some ⟨g, 0, none⟩, cap, by omega, by go_num, Hnx.out, by have := Hml.out; omega, by rw [hn4], HR4.out⟩
      case measure => simp [intOf]; omega
    · have hqe : q = ts.length := by omega
      have hfull : ts.map it = ms := by rw [← hms, hqe, List.take_length]
      have hmy : ∀ z ∈ ms, z.length ≤ 70000 := fun z hz => by
        rw [← hfull] at hz
        obtain ⟨y, hy, rfl⟩ := List.mem_map.1 hz
        have := it_le (nd := nd) (kp := kp) (e := EA.data.toList) (nm := nm.data.toList) (by rw [← size_list]; exact he) (by rw [← size_list]; exact hnm) (Hts.out y hy)
        rw [← Hit.out]
        omega
      have hjl2 : (joinL SA.data.toList ms).length ≤ 90000000 := by
        have h1 := join_len SA.data.toList 70000 ms hmy
        have h2 : ms.length * (SA.data.toList.length + 70000) ≤ 1000 * 70001 := Nat.mul_le_mul hmb (by rw [← size_list]; omega)
        omega
      have HJj : Hid (J.data.toList = joinL SA.data.toList ms) := by show _ = _; rw [HJ.out, hfull]
      have hJs : J.size ≤ 90000000 := by rw [size_list, HJj.out]; exact hjl2
      have HM := hide R.row
      have HB := hide (b_then Y0.bel R.bel)
      have c1 := (Y0.next R.bel).sty.cell 1 _ rfl
      clear hfull hjl2 hmy hqe hms R hml HJ
      go_wp2_with (go_at_call 76; refine (pjoin_is _ _ ms SA J HM.out (by omega) (by omega) HJj.out).mono ?_; rintro e w5 ⟨rfl, bb⟩)
      go_ret
      exact ⟨rfl, b_then HB.out bb⟩
end Go.Proofs.Ytpfcfadbilaleaa
/-
  WALKS: a style (layer 11): pairs, each by itself.
-/
namespace Go.Proofs.Ytpfcfadbilaleaa
open Go.RowKit

/-- a pair, as an operator has it -/
def itQ (nd kp : Bool) (e : List UInt8) (q : List UInt8 × List UInt8) : List UInt8 := if nd then behL e (encL true q.1) (encL kp q.2) else encL kp q.1 ++ 61 :: encL kp q.2
theorem itq_le {nd kp : Bool} {e : List UInt8} {q : List UInt8 × List UInt8} (he : e.length ≤ 1) (h1 : q.1.length ≤ 10000) (h2 : q.2.length ≤ 10000) : (itQ nd kp e q).length ≤ 70000 :=
  itemp_le (r := ⟨[], [], nd, e, kp⟩) he h1 h2
theorem bx_apart {W W' : World} {pb : Nat} {cs : Array Value} {t : TypeId} {base k : Nat} {v : Value} {ys : List Value} (P : Bx W pb cs t) (ht : t ≠ 9) (hr : W.ownsRow base 9 1 v k ys) (hg : W.grownBy W' v.ownBlock) : Bx W' pb cs t := by
  refine (hg.block pb P.lt ?_).trans P
  rcases hr.2 with ⟨rfl, _⟩ | ⟨g, cap, cur, rfl, _, hgb, _⟩
  · simp [Value.ownBlock]
  · intro e'
    obtain rfl : pb = g := by simpa [Value.ownBlock] using e'
    have := (show W.heap[pb]? = _ from P).symm.trans hgb
    simp at this
    exact ht this.2
set_option maxRecDepth 20000 in
set_option maxHeartbeats 4000000 in
theorem pairs_is (b : Nat) (FA SA EA : ByteArray) (nd kp : Bool) (u : Value) (ts : List (List UInt8 × List UInt8)) (J : ByteArray) (w : World) (R0 : Bx w b #[.string FA, .string SA, .bool nd, .string EA, .bool kp] 37) (T : PairsAt w u ts) (hln : ts.length ≤ 1000) (hts : ∀ y ∈ ts, y.1.length ≤ 10000 ∧ y.2.length ≤ 10000) (he : EA.size ≤ 1) (hsa : SA.size ≤ 1)
    (hJ : J.data.toList = joinL SA.data.toList (ts.map (itQ nd kp EA.data.toList))) :
    Calls Try.prog 54 #[.agg #[.string FA, .string SA, .bool nd, .string EA, .bool kp, .func (.func 44) #[] #[.pointer (some ⟨b, 0, none⟩)]], u] w fun e w' => e = .returned (.string J) ∧ Below w.heap.size w w' := by
  obtain ⟨ta, tc, rfl⟩ := T.form
  have Hts := hide hts
  have HJ := hide hJ
  clear hts hJ
  obtain ⟨i0, hi, hz0, hz1, hz2⟩ := i9
  have Y0 := Sy.made R0
  obtain ⟨W0, hW0⟩ : ∃ W0, w.alloc (.cells #[.string FA, .string SA, .bool nd, .string EA, .bool kp, .func (.func 44) #[] #[.pointer (some ⟨b, 0, none⟩)]] 53) = W0 := ⟨_, rfl⟩
  rw [hW0] at Y0
  have T0 := T.later Y0.bel
  obtain ⟨it, hit⟩ : ∃ it, itQ nd kp EA.data.toList = it := ⟨_, rfl⟩
  rw [hit] at HJ
  have Hit := hide hit
  clear T R0 hit
  go_enter Try.func54, Try.ntmps54
  go_wp2
  clear hW0
  go_loopw [5, 10] (fun o i wr => ∃ (q : Nat) (ms : List (List UInt8)) (vo : Option Addr) (vc : Nat), q ≤ ts.length ∧ i = .int .i64 q ∧ (ts.take q).map it = ms ∧ ms.length = q ∧ o = .slice vo ms.length vc ∧ Sr W0 wr (.slice vo ms.length vc) ms) (fun _ i _ => ts.length - (intOf i).toNat)
  case atStart => exact ⟨0, [], none, 0, Nat.zero_le _, rfl, rfl, rfl, rfl, Sr.nil _⟩
  case round =>
    obtain ⟨q, ms, vo, vc, hq, rfl, hms, hml, rfl, R⟩ := hrel
    have hmb : ms.length ≤ 1000 := by omega
    by_cases hlt : q < ts.length
    · obtain ⟨b', off, cap, e, hb, g1, g2⟩ := T0.at q hlt
      cases e
      have hnx := map_next it ts q hlt
      rw [hms] at hnx
      have hyl := Hts.out _ (List.getElem_mem hlt)
      obtain ⟨y, hyy⟩ : ∃ y, ts[q] = y := ⟨_, rfl⟩
      rw [hyy] at g1 g2 hnx hyl
      obtain ⟨X, hX⟩ : ∃ X : ByteArray, (⟨y.1.toArray⟩ : ByteArray) = X := ⟨_, rfl⟩
      have hXd : X.data.toList = y.1 := by rw [← hX]
      rw [hX] at g1
      obtain ⟨X2, hX2⟩ : ∃ X : ByteArray, (⟨y.2.toArray⟩ : ByteArray) = X := ⟨_, rfl⟩
      have hXd2 : X2.data.toList = y.2 := by rw [← hX2]
      rw [hX2] at g2
      obtain ⟨Y, hY⟩ : ∃ Y : ByteArray, Y.data.toList = encL kp y.2 := ⟨⟨(encL kp y.2).toArray⟩, rfl⟩
      obtain ⟨Z, hZ⟩ : ∃ Z : ByteArray, Z.data.toList = it y := ⟨⟨(it y).toArray⟩, rfl⟩
      have hXs : X.size ≤ 10000 := by rw [size_list, hXd]; exact hyl.1
      have hXs2 : X2.size ≤ 10000 := by rw [size_list, hXd2]; exact hyl.2
      have hYs : Y.size ≤ 30000 := by rw [size_list, hY]; exact enc_le hyl.2
      have HY := hide (show Y.data.toList = encL kp X2.data.toList by rw [hY, hXd2])
      have HZ : Hid (Z.data.toList = if nd then behL EA.data.toList (encL true X.data.toList) Y.data.toList else encL kp X.data.toList ++ 61 :: Y.data.toList) := by
        show Z.data.toList = _
        rw [hZ, ← Hit.out, hY, hXd]; rfl
      have HZd := hide hZ
      have Hnx := hide hnx
      have Hml := hide hml
      have gX := (R.bel.cell (p := ⟨b', off + q * 2, none⟩) hb).trans g1
      have gX2 := (R.bel.cell (p := ⟨b', off + q * 2 + 1, none⟩) hb).trans g2
      have RA := R.alloc (.cells #[.string X, .string X2] 77)
      have P := Bx.made wr #[.string X, .string X2] 77
      obtain ⟨WA, hWA⟩ : ∃ WA, wr.alloc (.cells #[.string X, .string X2] 77) = WA := ⟨_, rfl⟩
      rw [hWA] at RA P
      obtain ⟨pb, hpb⟩ : ∃ pb, wr.heap.size = pb := ⟨_, rfl⟩
      rw [hpb] at P
      have YR := Y0.next RA.bel
      have YD := YR.drew
      have HG : Hid (∀ W, Below W0.heap.size W0 W → Bx W pb #[.string X, .string X2] 77 → W.cell? ⟨w.heap.size, 0, none⟩ = some (.string FA) ∧ W.cell? ⟨w.heap.size, 1, none⟩ = some (.string SA) ∧ W.cell? ⟨w.heap.size, 2, none⟩ = some (.bool nd) ∧ W.cell? ⟨w.heap.size, 3, none⟩ = some (.string EA) ∧ W.cell? ⟨w.heap.size, 4, none⟩ = some (.bool kp) ∧ W.cell? ⟨w.heap.size, 5, none⟩ = some (.func (.func 44) #[] #[.pointer (some ⟨b, 0, none⟩)]) ∧ W.cell? ⟨pb, 0, none⟩ = some (.string X) ∧ W.cell? ⟨pb, 1, none⟩ = some (.string X2)) := fun W hW hP => by
        obtain ⟨h0, h1, h2, h3, h4, h5⟩ := (Y0.next hW).all
        exact ⟨h0, h1, h2, h3, h4, h5, hP.cell 0 _ rfl, hP.cell 1 _ rfl⟩
      have HS : Hid (∀ W, Below WA.heap.size WA W → W.cell? ⟨w.heap.size, 0, none⟩ = some (.string FA) ∧ W.cell? ⟨w.heap.size, 1, none⟩ = some (.string SA) ∧ W.cell? ⟨w.heap.size, 2, none⟩ = some (.bool nd) ∧ W.cell? ⟨w.heap.size, 3, none⟩ = some (.string EA) ∧ W.cell? ⟨w.heap.size, 4, none⟩ = some (.bool kp) ∧ W.cell? ⟨w.heap.size, 5, none⟩ = some (.func (.func 44) #[] #[.pointer (some ⟨b, 0, none⟩)]) ∧ W.cell? ⟨pb, 0, none⟩ = some (.string X) ∧ W.cell? ⟨pb, 1, none⟩ = some (.string X2)) := fun W hW => by
        obtain ⟨h0, h1, h2, h3, h4, h5⟩ := (YR.next hW).all
        exact ⟨h0, h1, h2, h3, h4, h5, (P.next hW).cell 0 _ rfl, (P.next hW).cell 1 _ rfl⟩
      have d0 : Below WA.heap.size WA WA.drew := (Below.refl _ WA).drew
      have hqi : (0 : Int) ≤ (q : Int) := by omega
      have hql : (q : Int) < (ts.length : Int) := by omega
      clear hnx hyl hyy hX hXd hX2 hXd2 hY hms hml g1 g2 hZ
      go_wp2
      go_region_held3 (fun W => W.cell? ⟨w.heap.size, 0, none⟩ = some (.string FA) ∧ W.cell? ⟨w.heap.size, 1, none⟩ = some (.string SA) ∧ W.cell? ⟨w.heap.size, 2, none⟩ = some (.bool nd) ∧ W.cell? ⟨w.heap.size, 3, none⟩ = some (.string EA) ∧ W.cell? ⟨w.heap.size, 4, none⟩ = some (.bool kp) ∧ W.cell? ⟨w.heap.size, 5, none⟩ = some (.func (.func 44) #[] #[.pointer (some ⟨b, 0, none⟩)]) ∧ W.cell? ⟨pb, 0, none⟩ = some (.string X) ∧ W.cell? ⟨pb, 1, none⟩ = some (.string X2)) (first | with_reducible exact HG.out _ R4.bel P4 | with_reducible exact HS.out _ (k3.alloc k3.size _) | with_reducible exact HS.out _ k3 | with_reducible exact HS.out _ k2 | with_reducible exact HS.out _ d0)
        (first
          | (go_at_call 44; refine (penc1_is b FA SA EA nd kp X2 Y _ YD.rule (by omega) HY.out).mono ?_; rintro e w2 ⟨rfl, bb⟩; have R2 := RA.drew.next bb; have k2 := d0.trans bb; have Y2 := YD.next bb; clear bb)
          | (go_at_call 77; refine (pair_is b FA SA EA nd kp X Y Z _ Y2.rule (by omega) (by omega) he HZ.out).mono ?_; rintro e w3 ⟨rfl, bb⟩; have R3 := R2.next bb; have k3 := b_then k2 bb; clear bb)
          | (refine step_append_lies _ (by rfl) _ _ 24 (by rfl) W0.heap.size 9 i0 (.string ⟨#[]⟩) 1 16 Try.underlying24 hi hz0 hz1 hz2 rfl (by decide) (.slice vo ms.length vc) ms.length (strsV ms) (by rfl) (R3.alloc (.cells #[.string Z] 9)).row ⟨w3.heap.size, 0, none⟩ 1 1 [.string Z] (by rfl) rfl news1 (by intro u hu; simp at hu; subst hu; rfl) (by decide) (by unfold maxLen; omega) (by omega) (by have := R3.bel.size; simp; omega) _ rfl ?_; intro g cap w4 hown hgrow hat hlt4; have R4 := R3.snoc HZd.out hgrow hown; have P4 := bx_apart ((P.next k3).later (.cells #[.string Z] 9)) (by decide) (R3.alloc (.cells #[.string Z] 9)).row hgrow; clear hown hgrow hat hlt4))
      have HR4 := hide R4
      have hn4 : (ms ++ [it y]).length = ms.length + 1 := by simp
      clear R4 hWA
      go_wp2
      go_roundw
      case rel => exact ⟨q + 1, ms ++ [it y], some ⟨g, 0, none⟩, cap, by omega, by go_num, Hnx.out, by have := Hml.out; omega, by rw [hn4], HR4.out⟩
      case measure => simp [intOf]; omega
    · have hqe : q = ts.length := by omega
      have hfull : ts.map it = ms := by rw [← hms, hqe, List.take_length]
      have hmy : ∀ z ∈ ms, z.length ≤ 70000 := fun z hz => by
        rw [← hfull] at hz
        obtain ⟨y, hy, rfl⟩ := List.mem_map.1 hz
        have := itq_le (nd := nd) (kp := kp) (e := EA.data.toList) (by rw [← size_list]; exact he) (Hts.out y hy).1 (Hts.out y hy).2
        rw [← Hit.out]
        exact this
      have hjl2 : (joinL SA.data.toList ms).length ≤ 90000000 := by
        have h1 := join_len SA.data.toList 70000 ms hmy
        have h2 : ms.length * (SA.data.toList.length + 70000) ≤ 1000 * 70001 := Nat.mul_le_mul hmb (by rw [← size_list]; omega)
        omega
      have HJj : Hid (J.data.toList = joinL SA.data.toList ms) := by show _ = _; rw [HJ.out, hfull]
      have hJs : J.size ≤ 90000000 := by rw [size_list, HJj.out]; exact hjl2
      have HM := hide R.row
      have HB := hide (b_then Y0.bel R.bel)
      have c1 := (Y0.next R.bel).sty.cell 1 _ rfl
      clear hfull hjl2 hmy hqe hms R hml HJ
      go_wp2_with (go_at_call 76; refine (pjoin_is _ _ ms SA J HM.out (by omega) (by omega) HJj.out).mono ?_; rintro e w5 ⟨rfl, bb⟩)
      go_ret
      exact ⟨rfl, b_then HB.out bb⟩
end Go.Proofs.Ytpfcfadbilaleaa
/-
  WALKS: a style (layer 11): a text, or its prefix.
-/
namespace Go.Proofs.Ytpfcfadbilaleaa
open Go.RowKit
open Go.Proofs.Ytpfcfadbilaleaau (prefL prefL_le prefix_any)
set_option linter.unusedVariables false

set_option maxRecDepth 20000 in
set_option maxHeartbeats 4000000 in
theorem text_no (b : Nat) (FA SA EA : ByteArray) (nd kp : Bool) (nm : ByteArray) (m : Int) (st : Bool) (s J : ByteArray) (w : World) (R0 : Bx w b #[.string FA, .string SA, .bool nd, .string EA, .bool kp] 37) (hs : s.size ≤ 10000) (hnm : nm.size ≤ 10000) (he : EA.size ≤ 1) (hm : m = 0)
    (hJ : J.data.toList = itL nd kp EA.data.toList nm.data.toList s.data.toList) :
    Calls Try.prog 50 #[.agg #[.string FA, .string SA, .bool nd, .string EA, .bool kp, .func (.func 44) #[] #[.pointer (some ⟨b, 0, none⟩)]], .agg #[.string nm, .int .i64 m, .bool st], .string s] w fun e w' => e = .returned (.string J) ∧ Below w.heap.size w w' := by
  subst hm
  obtain ⟨X, hX⟩ : ∃ X : ByteArray, s = X := ⟨_, rfl⟩
  rw [hX] at hJ hs ⊢
  have hXs : X.size ≤ 10000 := hs
  clear hX s
  obtain ⟨Y, hY⟩ : ∃ Y : ByteArray, Y.data.toList = encL kp X.data.toList := ⟨⟨(encL kp X.data.toList).toArray⟩, rfl⟩
  have hYs : Y.size ≤ 30000 := by rw [size_list, hY]; exact enc_le (by rw [← size_list]; exact hXs)
  have HJ : Hid (J.data.toList = if nd then behL EA.data.toList nm.data.toList Y.data.toList else Y.data.toList) := by
    show J.data.toList = _
    rw [hJ, hY]; rfl
  have HY := hide hY
  clear hJ hY
  have Y0 := (Sy.made R0).alloc (.cells #[.string nm, .int .i64 0, .bool st] 23)
  have S0 := Bx.made (w.alloc (.cells #[.string FA, .string SA, .bool nd, .string EA, .bool kp, .func (.func 44) #[] #[.pointer (some ⟨b, 0, none⟩)]] 53)) #[.string nm, .int .i64 0, .bool st] 23
  rw [show (w.alloc (.cells #[.string FA, .string SA, .bool nd, .string EA, .bool kp, .func (.func 44) #[] #[.pointer (some ⟨b, 0, none⟩)]] 53)).heap.size = w.heap.size + 1 by simp] at S0
  obtain ⟨W0, hW0⟩ : ∃ W0, (w.alloc (.cells #[.string FA, .string SA, .bool nd, .string EA, .bool kp, .func (.func 44) #[] #[.pointer (some ⟨b, 0, none⟩)]] 53)).alloc (.cells #[.string nm, .int .i64 0, .bool st] 23) = W0 := ⟨_, rfl⟩
  rw [hW0] at Y0 S0
  obtain ⟨s0, s1, s2⟩ := cells3 S0
  clear R0
  go_enter Try.func50, Try.ntmps50
  go_wp2
  obtain ⟨w1, hw1⟩ : ∃ w1, W0 = w1 := ⟨_, rfl⟩
  rw [hw1] at Y0 S0 ⊢
  have Y1 := Y0
  have S1 := S0
  clear hw1
  have d0 : Below w1.heap.size w1 w1.drew := (Below.refl _ w1).drew
  have YD := Y1.drew
  have HS : Hid (∀ W, Below w1.heap.size w1 W → W.cell? ⟨w.heap.size, 0, none⟩ = some (.string FA) ∧ W.cell? ⟨w.heap.size, 1, none⟩ = some (.string SA) ∧ W.cell? ⟨w.heap.size, 2, none⟩ = some (.bool nd) ∧ W.cell? ⟨w.heap.size, 3, none⟩ = some (.string EA) ∧ W.cell? ⟨w.heap.size, 4, none⟩ = some (.bool kp) ∧ W.cell? ⟨w.heap.size, 5, none⟩ = some (.func (.func 44) #[] #[.pointer (some ⟨b, 0, none⟩)]) ∧ W.cell? ⟨w.heap.size + 1, 0, none⟩ = some (.string nm)) := fun W hW => by
    obtain ⟨h0, h1, h2, h3, h4, h5⟩ := (Y1.next hW).all
    exact ⟨h0, h1, h2, h3, h4, h5, (S1.next hW).cell 0 _ rfl⟩
  go_region_held3 (fun W => W.cell? ⟨w.heap.size, 0, none⟩ = some (.string FA) ∧ W.cell? ⟨w.heap.size, 1, none⟩ = some (.string SA) ∧ W.cell? ⟨w.heap.size, 2, none⟩ = some (.bool nd) ∧ W.cell? ⟨w.heap.size, 3, none⟩ = some (.string EA) ∧ W.cell? ⟨w.heap.size, 4, none⟩ = some (.bool kp) ∧ W.cell? ⟨w.heap.size, 5, none⟩ = some (.func (.func 44) #[] #[.pointer (some ⟨b, 0, none⟩)]) ∧ W.cell? ⟨w.heap.size + 1, 0, none⟩ = some (.string nm)) (first | with_reducible exact HS.out _ k3 | with_reducible exact HS.out _ k2 | with_reducible exact HS.out _ d0)
    (first
      | (go_at_call 44; refine (penc1_is b FA SA EA nd kp X Y _ YD.rule (by omega) HY.out).mono ?_; rintro e w2 ⟨rfl, b2⟩; have k2 := d0.trans b2)
      | (go_at_call 75; refine (maybe_is FA SA EA nd kp _ nm Y J _ (by omega) (by omega) he HJ.out).mono ?_; rintro e w3 ⟨rfl, b3⟩; have k3 := b_then k2 b3))
  all_goals go_wp2
  all_goals go_ret
  all_goals exact ⟨rfl, b_then Y1.bel k3⟩
set_option maxRecDepth 20000 in
set_option maxHeartbeats 4000000 in
theorem text_yes (b : Nat) (FA SA EA : ByteArray) (nd kp : Bool) (nm : ByteArray) (m : Int) (st : Bool) (s J : ByteArray) (w : World) (R0 : Bx w b #[.string FA, .string SA, .bool nd, .string EA, .bool kp] 37) (hs : s.size ≤ 10000) (hnm : nm.size ≤ 10000) (he : EA.size ≤ 1) (hm : ¬ m = 0)
    (hJ : J.data.toList = itL nd kp EA.data.toList nm.data.toList (prefL s.data.toList m)) :
    Calls Try.prog 50 #[.agg #[.string FA, .string SA, .bool nd, .string EA, .bool kp, .func (.func 44) #[] #[.pointer (some ⟨b, 0, none⟩)]], .agg #[.string nm, .int .i64 m, .bool st], .string s] w fun e w' => e = .returned (.string J) ∧ Below w.heap.size w w' := by
  obtain ⟨X, hX⟩ : ∃ X : ByteArray, (⟨(prefL s.data.toList m).toArray⟩ : ByteArray) = X := ⟨_, rfl⟩
  have hXd : X.data.toList = prefL s.data.toList m := by rw [← hX]
  have hXs : X.size ≤ 10000 := by rw [size_list, hXd]; have := prefL_le s.data.toList m; rw [← size_list] at this; omega
  rw [← hXd] at hJ
  have HX := hide hX
  clear hX hXd
  obtain ⟨Y, hY⟩ : ∃ Y : ByteArray, Y.data.toList = encL kp X.data.toList := ⟨⟨(encL kp X.data.toList).toArray⟩, rfl⟩
  have hYs : Y.size ≤ 30000 := by rw [size_list, hY]; exact enc_le (by rw [← size_list]; exact hXs)
  have HJ : Hid (J.data.toList = if nd then behL EA.data.toList nm.data.toList Y.data.toList else Y.data.toList) := by
    show J.data.toList = _
    rw [hJ, hY]; rfl
  have HY := hide hY
  clear hJ hY
  have Y0 := (Sy.made R0).alloc (.cells #[.string nm, .int .i64 m, .bool st] 23)
  have S0 := Bx.made (w.alloc (.cells #[.string FA, .string SA, .bool nd, .string EA, .bool kp, .func (.func 44) #[] #[.pointer (some ⟨b, 0, none⟩)]] 53)) #[.string nm, .int .i64 m, .bool st] 23
  rw [show (w.alloc (.cells #[.string FA, .string SA, .bool nd, .string EA, .bool kp, .func (.func 44) #[] #[.pointer (some ⟨b, 0, none⟩)]] 53)).heap.size = w.heap.size + 1 by simp] at S0
  obtain ⟨W0, hW0⟩ : ∃ W0, (w.alloc (.cells #[.string FA, .string SA, .bool nd, .string EA, .bool kp, .func (.func 44) #[] #[.pointer (some ⟨b, 0, none⟩)]] 53)).alloc (.cells #[.string nm, .int .i64 m, .bool st] 23) = W0 := ⟨_, rfl⟩
  rw [hW0] at Y0 S0
  obtain ⟨s0, s1, s2⟩ := cells3 S0
  clear R0
  go_enter Try.func50, Try.ntmps50
  go_wp2_with (go_at_call 74; refine (prefix_any s m _ (by omega)).mono ?_; rintro e w1 ⟨rfl, bb⟩; rw [HX.out]; have Y1 := Y0.next bb; have S1 := S0.next bb)
  have d0 : Below w1.heap.size w1 w1.drew := (Below.refl _ w1).drew
  have YD := Y1.drew
  have HS : Hid (∀ W, Below w1.heap.size w1 W → W.cell? ⟨w.heap.size, 0, none⟩ = some (.string FA) ∧ W.cell? ⟨w.heap.size, 1, none⟩ = some (.string SA) ∧ W.cell? ⟨w.heap.size, 2, none⟩ = some (.bool nd) ∧ W.cell? ⟨w.heap.size, 3, none⟩ = some (.string EA) ∧ W.cell? ⟨w.heap.size, 4, none⟩ = some (.bool kp) ∧ W.cell? ⟨w.heap.size, 5, none⟩ = some (.func (.func 44) #[] #[.pointer (some ⟨b, 0, none⟩)]) ∧ W.cell? ⟨w.heap.size + 1, 0, none⟩ = some (.string nm)) := fun W hW => by
    obtain ⟨h0, h1, h2, h3, h4, h5⟩ := (Y1.next hW).all
    exact ⟨h0, h1, h2, h3, h4, h5, (S1.next hW).cell 0 _ rfl⟩
  go_region_held3 (fun W => W.cell? ⟨w.heap.size, 0, none⟩ = some (.string FA) ∧ W.cell? ⟨w.heap.size, 1, none⟩ = some (.string SA) ∧ W.cell? ⟨w.heap.size, 2, none⟩ = some (.bool nd) ∧ W.cell? ⟨w.heap.size, 3, none⟩ = some (.string EA) ∧ W.cell? ⟨w.heap.size, 4, none⟩ = some (.bool kp) ∧ W.cell? ⟨w.heap.size, 5, none⟩ = some (.func (.func 44) #[] #[.pointer (some ⟨b, 0, none⟩)]) ∧ W.cell? ⟨w.heap.size + 1, 0, none⟩ = some (.string nm)) (first | with_reducible exact HS.out _ k3 | with_reducible exact HS.out _ k2 | with_reducible exact HS.out _ d0)
    (first
      | (go_at_call 44; refine (penc1_is b FA SA EA nd kp X Y _ YD.rule (by omega) HY.out).mono ?_; rintro e w2 ⟨rfl, b2⟩; have k2 := d0.trans b2)
      | (go_at_call 75; refine (maybe_is FA SA EA nd kp _ nm Y J _ (by omega) (by omega) he HJ.out).mono ?_; rintro e w3 ⟨rfl, b3⟩; have k3 := b_then k2 b3))
  all_goals go_wp2
  all_goals go_ret
  all_goals exact ⟨rfl, b_then Y1.bel k3⟩
end Go.Proofs.Ytpfcfadbilaleaa
