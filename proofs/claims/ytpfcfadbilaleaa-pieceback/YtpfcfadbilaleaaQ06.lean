/-
  TEXTS JOINED: W1, W2, S3, W3, P1.
-/
import Derived.Below
import Derived.BigQuiet
import Derived.Deep.QuietTactic
import Derived.Deep.RegionWith
import Derived.Laws.BytesString
import Derived.Laws.OwnMore
import Derived.Lib.Strings
import Derived.Outline
import Derived.OwnWalk
import Derived.RegionTactic
import Derived.Test.YtpfcfadbilaleaaProg
import Derived.WalkKit
import Derived.WalkLawsBesides
import Derived.WalkSpells
import Derived.Test.YtpfcfadbilaleaaQ03
/-
  WALKS: the reference's classes, Triplet; May2, May, begins, Bad, End (layer 5).
-/
namespace Go.Proofs.Ytpfcfadbilaleaa
open Go.RowKit

theorem hide {p : Prop} (h : p) : Hid p := h
theorem ret_bool {a b : Bool} (h : a = b) : Ending.returned (.bool a) = .returned (.bool b) := by rw [h]
theorem ret_int {k : IntKind} {a b : Int} (h : a = b) : Ending.returned (.int k a) = .returned (.int k b) := by rw [h]
theorem cut_list (s : ByteArray) (k : Nat) : (s.extract k s.size).data.toList = s.data.toList.drop k := by
  rw [← Lib.toList_data, Lib.extract_toList]
  apply List.take_of_length_le
  simp
theorem head_list (s : ByteArray) (k : Nat) : (s.extract 0 k).data.toList = s.data.toList.take k := by
  rw [← Lib.toList_data, Lib.extract_toList]; rfl
theorem size_list (x : ByteArray) : x.size = x.data.toList.length := by simp
theorem list_one (s : ByteArray) (h : 0 < s.size) : s.data.toList = s[0] :: s.data.toList.drop 1 := by
  have e1 : s.data.toList.length = s.size := by simp
  exact (List.drop_eq_getElem_cons (l := s.data.toList) (i := 0) (by omega))
theorem list_none (s : ByteArray) (h : ¬ 0 < s.size) : s.data.toList = [] := by
  have e1 : s.data.toList.length = s.size := by simp
  exact List.eq_nil_of_length_eq_zero (by omega)
theorem list_three (s : ByteArray) (h : 3 ≤ s.size) : s.data.toList = s[0] :: s[1] :: s[2] :: s.data.toList.drop 3 := by
  have e1 : s.data.toList.length = s.size := by simp
  have h0 : s.data.toList.drop 0 = s[0] :: s.data.toList.drop 1 := List.drop_eq_getElem_cons (by omega)
  have h1 : s.data.toList.drop 1 = s[1] :: s.data.toList.drop 2 := List.drop_eq_getElem_cons (by omega)
  have h2 : s.data.toList.drop 2 = s[2] :: s.data.toList.drop 3 := List.drop_eq_getElem_cons (by omega)
  rw [← h2, ← h1, ← h0]; rfl
theorem trip_short (s : ByteArray) (h : ¬ 3 ≤ s.size) : tripB s.data.toList = false := by
  have e1 : s.data.toList.length = s.size := by simp
  match hl : s.data.toList with
  | [] => rfl
  | [_] => rfl
  | [_, _] => rfl
  | _ :: _ :: _ :: _ => rw [hl] at e1; simp at e1; omega
theorem trip_at (s : ByteArray) (h : 3 ≤ s.size) : tripB s.data.toList = (s[0] == 37 && hexN s[1].toNat && hexN s[2].toNat) := by
  rw [list_three s h]; rfl
theorem eq_some (x : ByteArray) (h : 0 < x.size) : x.toList.isEmpty = false := by
  rw [Lib.toList_data, list_one x h]; rfl
theorem eq_none (x : ByteArray) (h : ¬ 0 < x.size) : x.toList.isEmpty = true := by
  rw [Lib.toList_data, list_none x h]; rfl
theorem app_list (a b : ByteArray) : (a ++ b).data.toList = a.data.toList ++ b.data.toList := by
  simp
theorem take_snoc (s : ByteArray) (k : Nat) (h : k < s.size) : s.data.toList.take (k + 1) = s.data.toList.take k ++ [s[k]] := by
  rw [List.take_succ_eq_append_getElem (by simpa using h)]; rfl

def digN' (n : Nat) : Bool := decide (48 ≤ n ∧ n ≤ 57)
def alphN (n : Nat) : Bool := decide (65 ≤ n ∧ n ≤ 90 ∨ 97 ≤ n ∧ n ≤ 122)
set_option maxHeartbeats 400000 in
theorem rdigit_is (c : Int) (b : Bool) (w : World) (h0 : 0 ≤ c) (h : digN' c.toNat = b) : Calls Try.prog 28 #[.int .u8 c] w fun e w' => e = .returned (.bool b) ∧ w' = w := by
  subst h
  go_enter Try.func28, Try.ntmps28
  go_wp2
  all_goals go_ret
  all_goals refine ⟨ret_bool ?_, rfl⟩
  all_goals (unfold digN'; rw [Bool.eq_iff_iff]; simp [*]; try omega)
set_option maxHeartbeats 400000 in
theorem ralpha_is (c : Int) (b : Bool) (w : World) (h0 : 0 ≤ c) (h : alphN c.toNat = b) : Calls Try.prog 27 #[.int .u8 c] w fun e w' => e = .returned (.bool b) ∧ w' = w := by
  subst h
  go_enter Try.func27, Try.ntmps27
  go_wp2
  all_goals go_ret
  all_goals refine ⟨ret_bool ?_, rfl⟩
  all_goals (unfold alphN; rw [Bool.eq_iff_iff]; simp [*]; try omega)
set_option maxHeartbeats 400000 in
theorem rhex_is (c : Int) (b : Bool) (w : World) (h0 : 0 ≤ c) (h : hexN c.toNat = b) : Calls Try.prog 30 #[.int .u8 c] w fun e w' => e = .returned (.bool b) ∧ w' = w := by
  subst h
  obtain ⟨d, hd⟩ : ∃ d, digN' c.toNat = d := ⟨_, rfl⟩
  have e : hexN c.toNat = (d || decide (65 ≤ c ∧ c ≤ 70 ∨ 97 ≤ c ∧ c ≤ 102)) := by rw [← hd]; unfold hexN digN'; rw [Bool.eq_iff_iff]; simp; omega
  rw [e]
  have Hd := hide hd
  clear hd e
  cases d
  all_goals
    go_enter Try.func30, Try.ntmps30
    go_wp2_with (go_at_call 28; refine (rdigit_is _ _ _ h0 Hd.out).mono ?_; rintro e w' ⟨rfl, hw⟩; rw [hw])
    all_goals go_ret
    all_goals refine ⟨ret_bool ?_, rfl⟩
    all_goals first | rfl | (rw [Bool.eq_iff_iff]; simp [*]; try omega)
set_option maxHeartbeats 400000 in
theorem rword_is (c : Int) (b : Bool) (w : World) (h0 : 0 ≤ c) (h : wordN c.toNat = b) : Calls Try.prog 78 #[.int .u8 c] w fun e w' => e = .returned (.bool b) ∧ w' = w := by
  subst h
  obtain ⟨d, hd⟩ : ∃ d, digN' c.toNat = d := ⟨_, rfl⟩
  obtain ⟨a, ha⟩ : ∃ d, alphN c.toNat = d := ⟨_, rfl⟩
  have e : wordN c.toNat = (a || d || (c == 95)) := by rw [← hd, ← ha]; unfold wordN digN' alphN; rw [Bool.eq_iff_iff]; simp; omega
  rw [e]
  have Hd := hide hd
  have Ha := hide ha
  clear hd ha e
  cases a <;> cases d
  all_goals
    go_enter Try.func78, Try.ntmps78
    go_wp2_with (first | (go_at_call 28; refine (rdigit_is _ _ _ h0 Hd.out).mono ?_; rintro e w' ⟨rfl, hw⟩; rw [hw]) | (go_at_call 27; refine (ralpha_is _ _ _ h0 Ha.out).mono ?_; rintro e w' ⟨rfl, hw⟩; rw [hw]))
    all_goals go_ret
    all_goals refine ⟨ret_bool ?_, rfl⟩
    all_goals simp

set_option maxRecDepth 20000 in
set_option maxHeartbeats 1000000 in
theorem rtrip_any (s : ByteArray) (w : World) :
    Calls Try.prog 13 #[.string s] w fun e w' => e = .returned (.bool (tripB s.data.toList)) ∧ w' = w := by
  by_cases h : 3 ≤ s.size
  · have ht := trip_at s h
    have Ht := hide ht
    clear ht
    obtain ⟨x1, h1⟩ : ∃ x, hexN (s[1].toNat : Int).toNat = x := ⟨_, rfl⟩
    obtain ⟨x2, h2⟩ : ∃ x, hexN (s[2].toNat : Int).toNat = x := ⟨_, rfl⟩
    have e1 : hexN s[1].toNat = x1 := by rw [Int.toNat_natCast] at h1; exact h1
    have e2 : hexN s[2].toNat = x2 := by rw [Int.toNat_natCast] at h2; exact h2
    have H1 := hide h1
    have H2 := hide h2
    have E1 := hide e1
    have E2 := hide e2
    clear h1 h2 e1 e2
    have T1 : Hid True := trivial
    cases x1 <;> cases x2
    all_goals
      by_cases h0 : s[0] = 37
      · have h0' : ((s[0].toNat : Int) == 37) = true := by simp [h0]
        have H0 := hide h0
        clear h0
        go_enter Try.func13, Try.ntmps13
        go_wp2_with (first | (go_at_call 30; have z := T1; refine (rhex_is _ _ _ (by omega) H1.out).mono ?_; rintro e w' ⟨rfl, hw⟩; rw [hw]; clear T1 z) | (go_at_call 30; refine (rhex_is _ _ _ (by omega) H2.out).mono ?_; rintro e w' ⟨rfl, hw⟩; rw [hw]))
        all_goals go_ret
        all_goals exact ⟨ret_bool (by rw [Ht.out, H0.out, E1.out, E2.out]; rfl), rfl⟩
      · have h0' : ((s[0].toNat : Int) == 37) = false := by
          have : s[0].toNat ≠ 37 := fun e => h0 (UInt8.toNat_inj.1 e)
          simp; omega
        have H0 := hide h0
        clear h0
        go_enter Try.func13, Try.ntmps13
        go_wp2
        all_goals go_ret
        all_goals exact ⟨ret_bool (by rw [Ht.out]; simp [H0.out]), rfl⟩
  · have ht := trip_short s h
    have Ht := hide ht
    clear ht
    go_enter Try.func13, Try.ntmps13
    go_wp2
    all_goals go_ret
    all_goals exact ⟨ret_bool Ht.out.symm, rfl⟩
theorem rtrip_is (s : ByteArray) (b : Bool) (w : World) (h : tripB s.data.toList = b) : Calls Try.prog 13 #[.string s] w fun e w' => e = .returned (.bool b) ∧ w' = w := by
  subst h; exact rtrip_any s w
end Go.Proofs.Ytpfcfadbilaleaa
/-
  WALKS: the reference's May2, May, begins, Bad, End (layer 5).
-/
namespace Go.Proofs.Ytpfcfadbilaleaa
open Go.RowKit

theorem may2_word (s : ByteArray) (b : Bool) (h : 0 < s.size) (hw : wordN s[0].toNat = true) : mayS b s.data.toList = mayS true (s.extract 1 s.size).data.toList := by
  rw [cut_list]
  have e := mayS_word b (a := s[0]) hw (s.data.toList.drop 1)
  rw [← list_one s h] at e
  exact e
theorem may2_trip (s : ByteArray) (b : Bool) (h : tripB s.data.toList = true) : 3 ≤ s.size ∧ mayS b s.data.toList = mayS true (s.extract 3 s.size).data.toList := by
  have h3 : 3 ≤ s.size := Classical.byContradiction fun h' => by rw [trip_short s h'] at h; cases h
  refine ⟨h3, ?_⟩
  obtain ⟨x, y, r, hl, hx, hy⟩ := trip_is h
  rw [cut_list, hl, mayS_trip b hx hy]
  rfl
theorem may2_point (s : ByteArray) (h : 0 < s.size) (hp : s[0] = 46) : mayS true s.data.toList = mayS false (s.extract 1 s.size).data.toList ∧ mayS false s.data.toList = false := by
  rw [cut_list]
  have e := mayS_point (s.data.toList.drop 1)
  have l := list_one s h
  rw [hp] at l
  rw [← l] at e
  exact e
theorem may2_else (s : ByteArray) (b : Bool) (h : 0 < s.size) (hw : wordN s[0].toNat = false) (ht : tripB s.data.toList = false) (hp : s[0] ≠ 46) : mayS b s.data.toList = false := by
  have l := list_one s h
  rw [l] at ht ⊢
  exact mayS_else b hw ht hp

set_option maxRecDepth 20000 in
set_option maxHeartbeats 1000000 in
theorem may2_any (n : Nat) : ∀ (s : ByteArray) (b : Bool) (w : World), s.size ≤ n →
    Calls Try.prog 55 #[.string s, .bool b] w fun e w' => e = .returned (.bool (mayS b s.data.toList)) ∧ w' = w := by
  induction n with
  | zero =>
    intro s b w hs
    have hne := eq_none s (by omega)
    have Hm : Hid (mayS b s.data.toList = b) := by show mayS b s.data.toList = b; rw [list_none s (by omega), mayS_nil]
    go_enter Try.func55, Try.ntmps55
    go_wp2
    go_ret
    exact ⟨ret_bool Hm.out.symm, rfl⟩
  | succ n ih =>
    intro s b w hs
    by_cases hp : 0 < s.size
    · have hne := eq_some s hp
      have Ih : Hid (∀ (s : ByteArray) (b r : Bool) (w : World), s.size ≤ n → mayS b s.data.toList = r → Calls Try.prog 55 #[.string s, .bool b] w fun e w' => e = .returned (.bool r) ∧ w' = w) := by
        intro s b r w hs hr
        subst hr
        exact ih s b w hs
      have hs1 : (s.extract 1 s.size).size ≤ n := by simp; omega
      have hu := UInt8.toNat_lt s[0]
      clear ih
      obtain ⟨x, hx⟩ : ∃ x, wordN (s[0].toNat : Int).toNat = x := ⟨_, rfl⟩
      have hx' : wordN s[0].toNat = x := by rw [Int.toNat_natCast] at hx; exact hx
      have Hx := hide hx
      clear hx
      cases x with
      | true =>
        have Hm := hide (may2_word s b hp hx')
        clear hx'
        go_enter Try.func55, Try.ntmps55
        go_wp2_with (first | (go_at_call 78; refine (rword_is _ _ _ (by omega) Hx.out).mono ?_; rintro e w' ⟨rfl, hw⟩; rw [hw]) | (go_at_call 55; refine (Ih.out _ true _ _ hs1 Hm.out.symm).mono ?_; rintro e w' ⟨rfl, hw⟩; rw [hw]))
        go_ret
        exact ⟨rfl, rfl⟩
      | false =>
        cases ht : tripB s.data.toList with
        | true =>
          obtain ⟨h3, hm⟩ := may2_trip s b ht
          have Hm := hide hm
          have Ht := hide ht
          have hs3 : (s.extract 3 s.size).size ≤ n := by simp; omega
          clear hx' ht hm
          go_enter Try.func55, Try.ntmps55
          go_wp2_with (first | (go_at_call 78; refine (rword_is _ _ _ (by omega) Hx.out).mono ?_; rintro e w' ⟨rfl, hw⟩; rw [hw]) | (go_at_call 13; refine (rtrip_is _ _ _ Ht.out).mono ?_; rintro e w' ⟨rfl, hw⟩; rw [hw]) | (go_at_call 55; refine (Ih.out _ true _ _ hs3 Hm.out.symm).mono ?_; rintro e w' ⟨rfl, hw⟩; rw [hw]))
          go_ret
          exact ⟨rfl, rfl⟩
        | false =>
          have Ht := hide ht
          by_cases h46 : s[0] = 46
          · have hc : ((s[0].toNat : Int) == 46) = true := by simp [h46]
            obtain ⟨hm1, hm2⟩ := may2_point s hp h46
            have Hm1 := hide hm1
            have Hm2 := hide hm2
            clear hx' ht hm1 hm2 h46
            cases b
            all_goals
              go_enter Try.func55, Try.ntmps55
              go_wp2_with (first | (go_at_call 78; refine (rword_is _ _ _ (by omega) Hx.out).mono ?_; rintro e w' ⟨rfl, hw⟩; rw [hw]) | (go_at_call 13; refine (rtrip_is _ _ _ Ht.out).mono ?_; rintro e w' ⟨rfl, hw⟩; rw [hw]) | (go_at_call 55; refine (Ih.out _ false _ _ hs1 Hm1.out.symm).mono ?_; rintro e w' ⟨rfl, hw⟩; rw [hw]))
              go_ret
              first | exact ⟨rfl, rfl⟩ | exact ⟨ret_bool Hm2.out.symm, rfl⟩
          · have hc : ((s[0].toNat : Int) == 46) = false := by
              have : s[0].toNat ≠ 46 := fun e => h46 (UInt8.toNat_inj.1 e)
              simp; omega
            have Hm := hide (may2_else s b hp hx' ht h46)
            clear hx' ht h46
            go_enter Try.func55, Try.ntmps55
            go_wp2_with (first | (go_at_call 78; refine (rword_is _ _ _ (by omega) Hx.out).mono ?_; rintro e w' ⟨rfl, hw⟩; rw [hw]) | (go_at_call 13; refine (rtrip_is _ _ _ Ht.out).mono ?_; rintro e w' ⟨rfl, hw⟩; rw [hw]))
            go_ret
            exact ⟨ret_bool Hm.out.symm, rfl⟩
    · have hne := eq_none s hp
      have Hm : Hid (mayS b s.data.toList = b) := by show mayS b s.data.toList = b; rw [list_none s hp, mayS_nil]
      clear ih
      go_enter Try.func55, Try.ntmps55
      go_wp2
      go_ret
      exact ⟨ret_bool Hm.out.symm, rfl⟩

set_option maxHeartbeats 400000 in
theorem rmay_is (s : ByteArray) (b : Bool) (w : World) (h : nameB s.data.toList = b) : Calls Try.prog 32 #[.string s] w fun e w' => e = .returned (.bool b) ∧ w' = w := by
  subst h
  go_enter Try.func32, Try.ntmps32
  go_wp2_with (go_at_call 55; refine (may2_any s.size s false _ (Nat.le_refl _)).mono ?_; rintro e w' ⟨rfl, hw⟩; rw [hw])
  go_ret
  exact ⟨rfl, rfl⟩

end Go.Proofs.Ytpfcfadbilaleaa
/-
  WALKS: the reference's Split and Texts (layer 5): slices of texts.
-/
namespace Go.Proofs.Ytpfcfadbilaleaa
open Go.RowKit

/-- texts as cells -/
def strsV (ps : List (List UInt8)) : List Value := ps.map fun p => .string ⟨p.toArray⟩
theorem strs_len (ps : List (List UInt8)) : (strsV ps).length = ps.length := by simp [strsV]
theorem strs_snoc (ps : List (List UInt8)) (p : List UInt8) : strsV (ps ++ [p]) = strsV ps ++ [.string ⟨p.toArray⟩] := by simp [strsV]

/-- a slice value whose elements are these texts -/
def StrsAt (w : World) (v : Value) (ps : List (List UInt8)) : Prop :=
  (ps = [] ∧ ∃ ao cap, v = .slice ao 0 cap) ∨ (0 < ps.length ∧ ∃ b off cap, v = .slice (some ⟨b, off, none⟩) ps.length cap ∧ ∀ k, k < ps.length → w.cell? ⟨b, off + k, none⟩ = some (.string ⟨(ps.getD k []).toArray⟩))
theorem lt_of_cell {w : World} {b o : Nat} {v : Value} (h : w.cell? ⟨b, o, none⟩ = some v) : b < w.heap.size := by
  apply Classical.byContradiction
  intro hn
  have : w.heap[b]? = none := by simp; omega
  simp [World.cell?, this] at h
theorem StrsAt.later {w w' : World} {v : Value} {ps : List (List UInt8)} (h : StrsAt w v ps) (hb : Below w.heap.size w w') : StrsAt w' v ps := by
  rcases h with h | ⟨hp, b, off, cap, rfl, hc⟩
  · exact .inl h
  · exact .inr ⟨hp, b, off, cap, rfl, fun k hk => (hb.cell (p := ⟨b, off + k, none⟩) (lt_of_cell (hc 0 hp))).trans (hc k hk)⟩
theorem StrsAt.of_owns {w : World} {base : Nat} {v : Value} {ps : List (List UInt8)} (h : w.ownsRow base 9 1 v ps.length (strsV ps)) : StrsAt w v ps := by
  rcases h.2 with ⟨rfl, h0⟩ | ⟨g, cap, cur, rfl, _, hg, hn, hm, hs, ht⟩
  · exact .inl ⟨List.eq_nil_of_length_eq_zero h0, _, _, rfl⟩
  · by_cases hp : 0 < ps.length
    · refine .inr ⟨hp, g, 0, cap, rfl, fun k hk => ?_⟩
      rw [Nat.zero_add, World.ownsRow.cellAt h k (by omega)]
      simp [strsV, hk]
    · have : ps = [] := List.eq_nil_of_length_eq_zero (by omega)
      subst this
      exact .inl ⟨rfl, _, _, rfl⟩

theorem info9 : (Try.prog.info? 9).map (fun i => (i.zero, i.size, i.bytes)) = some (some (.string ⟨#[]⟩), 1, 16) := by kernel_rfl
end Go.Proofs.Ytpfcfadbilaleaa
/-
  WALKS: the reference's figures, May, Put (layer 6).
-/
namespace Go.Proofs.Ytpfcfadbilaleaa
open Go.RowKit Go.Lib

/-- bytes of a new block as a text -/
theorem conv_bytes (w : World) (l : List UInt8) (C : Array Value) (n : Nat) (hC : C = (byteCells l).toArray) (hn : n = l.length) :
    (convert 62 9 (.slice (some ⟨w.heap.size, 0, none⟩) n n)).run Try.prog (w.alloc (.cells C 5)) = .ok (.string ⟨l.toArray⟩) (w.alloc (.cells C 5)) := by
  subst hn hC
  refine run_convert_bytes_back _ 62 9 5 ⟨w.heap.size, 0, none⟩ _ l Try.underlying62 Try.underlying5 Try.underlying9 ?_
  intro j hj
  rw [show (⟨w.heap.size, 0, none⟩ : Addr).add j = ⟨w.heap.size, j, none⟩ by simp [Addr.add]; omega, World.cell?_alloc_mark]
  simp [byteCells, hj]
/-- one byte made a text -/
theorem conv_one (w : World) (x : Int) (h0 : 0 ≤ x) (h1 : x ≤ 255) :
    (convert 62 9 (.slice (some ⟨w.heap.size, 0, none⟩) 1 1)).run Try.prog (w.alloc (.cells #[.int .u8 x] 5)) = .ok (.string ⟨#[x.toNat.toUInt8]⟩) (w.alloc (.cells #[.int .u8 x] 5)) := by
  refine conv_bytes w [x.toNat.toUInt8] _ 1 ?_ rfl
  have : x.toNat.toUInt8.toNat = x.toNat := u8_of _ (by omega)
  simp only [byteCells, List.map_cons, List.map_nil, this]
  rw [show ((x.toNat : Nat) : Int) = x by omega]
theorem str_add (a b : ByteArray) (h : a.size + b.size ≤ maxLen) (W : World) : (Op.stringOp .add a b).run Try.prog W = .ok (.string (a ++ b)) W := by
  unfold maxLen at h
  simp [Op.stringOp]
  omega
theorem below_drew {B : Nat} {x y : World} (h : Below B x.drew y) : Below B x y := ⟨h.os, h.tape, h.output, h.size, h.block⟩
theorem arr_ext {a b : ByteArray} (h : a.data.toList = b.data.toList) : a = b := ByteArray.ext (Array.toList_inj.1 h)

/-- a variable as the program has it -/
def spA (nm : ByteArray) (m : Int) (st : Bool) : Sp := ⟨nm.data.toList, m, st⟩
set_option maxHeartbeats 1000000 in
theorem rxmay_any (nm : ByteArray) (m : Int) (st : Bool) (w : World) :
    Calls Try.prog 15 #[.agg #[.string nm, .int .i64 m, .bool st]] w fun e w' => e = .returned (.bool (mayX (spA nm m st))) ∧ Below w.heap.size w w' := by
  have hm : mayX (spA nm m st) = (nameB nm.data.toList && decide (0 ≤ m ∧ m ≤ 9999) && (!st || decide (m = 0))) := rfl
  rw [hm]
  clear hm
  obtain ⟨b, hb⟩ : ∃ b, nameB nm.data.toList = b := ⟨_, rfl⟩
  rw [hb]
  have Hb := hide hb
  clear hb
  cases b <;> cases st
  all_goals
    go_enter Try.func15, Try.ntmps15
    go_wp2_with (go_at_call 32; refine (rmay_is _ _ _ Hb.out).mono ?_; rintro e w' ⟨rfl, hw⟩; rw [hw]; clear hw)
  all_goals
    go_ret
    refine ⟨ret_bool ?_, (Below.refl _ _).alloc (Nat.le_refl _) _⟩
    first
      | rfl
      | (simp; done)
      | (simp; omega)
      | (rw [Bool.eq_iff_iff]; simp; omega)
theorem rxmay_is (nm : ByteArray) (m : Int) (st b : Bool) (w : World) (h : mayX (spA nm m st) = b) :
    Calls Try.prog 15 #[.agg #[.string nm, .int .i64 m, .bool st]] w fun e w' => e = .returned (.bool b) ∧ Below w.heap.size w w' := by
  subst h; exact rxmay_any nm m st w
end Go.Proofs.Ytpfcfadbilaleaa
/-
  WALKS: pct.Digit, pct.Triplet.
-/
namespace Go.Proofs.Ytpfcfadbilaleaa
open Go.RowKit

theorem dig_le (n : Nat) : digN n ≤ 15 := by unfold digN; split <;> (try split) <;> (try split) <;> omega
theorem ret_dig {a b : Int} {x y : Bool} (h : a = b) (k : x = y) : Ending.returned (.tuple #[.int .i64 a, .bool x]) = .returned (.tuple #[.int .i64 b, .bool y]) := by rw [h, k]
set_option maxHeartbeats 1000000 in
theorem dig_any (c : Int) (w : World) (h0 : 0 ≤ c) (h1 : c ≤ 255) :
    Calls Try.prog 59 #[.int .u8 c] w fun e w' => e = .returned (.tuple #[.int .i64 (digN c.toNat), .bool (hexN c.toNat)]) ∧ w' = w := by
  go_enter Try.func59, Try.ntmps59
  go_wp2
  all_goals go_ret2
  all_goals refine ⟨ret_dig ?_ ?_, rfl⟩
  all_goals first | (unfold digN; split <;> (try split) <;> (try split) <;> omega) | (unfold hexN; simp; omega)

theorem dig_is (c : Int) (n : Int) (b : Bool) (w : World) (h0 : 0 ≤ c) (h1 : c ≤ 255) (h : (digN c.toNat : Int) = n) (h' : hexN c.toNat = b) :
    Calls Try.prog 59 #[.int .u8 c] w fun e w' => e = .returned (.tuple #[.int .i64 n, .bool b]) ∧ w' = w := by
  subst h h'; exact dig_any c w h0 h1
set_option maxRecDepth 20000 in
set_option maxHeartbeats 1000000 in
theorem trip_any (s : ByteArray) (w : World) :
    Calls Try.prog 57 #[.string s] w fun e w' => e = .returned (.bool (tripB s.data.toList)) ∧ w' = w := by
  by_cases h : 3 ≤ s.size
  · have ht := trip_at s h
    have Ht := hide ht
    clear ht
    have b1 := UInt8.toNat_lt s[1]
    have b2 := UInt8.toNat_lt s[2]
    have hn : ¬ s.size < 3 := by omega
    obtain ⟨x1, h1⟩ : ∃ x, hexN s[1].toNat = x := ⟨_, rfl⟩
    obtain ⟨x2, h2⟩ : ∃ x, hexN s[2].toNat = x := ⟨_, rfl⟩
    cases x1 <;> cases x2
    all_goals
      have H1 := hide h1
      have H2 := hide h2
      clear h1 h2
      by_cases h0 : s[0] = 37
      · have h0' : ((s[0].toNat : Int) != 37) = false := by simp [h0]
        have H0 := hide h0
        clear h0
        go_enter Try.func57, Try.ntmps57
        go_wp2_with (first | (go_at_call 59; refine (dig_is _ _ true _ (by omega) (by omega) rfl (by rw [Int.toNat_natCast]; exact H1.out)).mono ?_; rintro e w' ⟨rfl, hw⟩; rw [hw]) | (go_at_call 59; refine (dig_is _ _ false _ (by omega) (by omega) rfl (by rw [Int.toNat_natCast]; exact H1.out)).mono ?_; rintro e w' ⟨rfl, hw⟩; rw [hw]) | (go_at_call 59; refine (dig_is _ _ true _ (by omega) (by omega) rfl (by rw [Int.toNat_natCast]; exact H2.out)).mono ?_; rintro e w' ⟨rfl, hw⟩; rw [hw]) | (go_at_call 59; refine (dig_is _ _ false _ (by omega) (by omega) rfl (by rw [Int.toNat_natCast]; exact H2.out)).mono ?_; rintro e w' ⟨rfl, hw⟩; rw [hw]))
        all_goals go_ret
        all_goals exact ⟨ret_bool (by rw [Ht.out, H0.out, H1.out, H2.out]; rfl), rfl⟩
      · have h0' : ((s[0].toNat : Int) != 37) = true := by
          have : s[0].toNat ≠ 37 := fun e => h0 (UInt8.toNat_inj.1 e)
          simp; omega
        have H0 := hide h0
        clear h0
        go_enter Try.func57, Try.ntmps57
        go_wp2
        all_goals go_ret
        all_goals exact ⟨ret_bool (by rw [Ht.out]; simp [H0.out]), rfl⟩
  · have ht := trip_short s h
    have Ht := hide ht
    clear ht
    have hn : s.size < 3 := by omega
    go_enter Try.func57, Try.ntmps57
    go_wp2
    all_goals go_ret
    all_goals exact ⟨ret_bool Ht.out.symm, rfl⟩
theorem ptrip_is (s : ByteArray) (b : Bool) (w : World) (h : tripB s.data.toList = b) : Calls Try.prog 57 #[.string s] w fun e w' => e = .returned (.bool b) ∧ w' = w := by
  subst h; exact trip_any s w
end Go.Proofs.Ytpfcfadbilaleaa
