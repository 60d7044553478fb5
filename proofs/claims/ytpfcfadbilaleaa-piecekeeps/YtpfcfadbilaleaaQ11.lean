/-
  TEXTS JOINED: V2, V3.
-/
import Derived.Test.YtpfcfadbilaleaaQ05
import Derived.Test.YtpfcfadbilaleaaQ06
import Derived.Test.YtpfcfadbilaleaaQ10
/-
  Values in memory; WALKS: the reference's Few (layer 8).
-/
namespace Go.Proofs.Ytpfcfadbilaleaa
open Go.RowKit

/-- pairs, one behind the other, in cells -/
def PairsAt (w : World) (v : Value) (ps : List (List UInt8 × List UInt8)) : Prop :=
  (ps = [] ∧ ∃ ao cap, v = .slice ao 0 cap) ∨ (0 < ps.length ∧ ∃ b off cap, v = .slice (some ⟨b, off, none⟩) ps.length cap ∧ ∀ k (h : k < ps.length), w.cell? ⟨b, off + k * 2, none⟩ = some (.string ⟨ps[k].1.toArray⟩) ∧ w.cell? ⟨b, off + k * 2 + 1, none⟩ = some (.string ⟨ps[k].2.toArray⟩))
theorem PairsAt.form {w : World} {v : Value} {ps : List (List UInt8 × List UInt8)} (h : PairsAt w v ps) : ∃ a cap, v = .slice a ps.length cap := by
  rcases h with ⟨rfl, ao, cap, rfl⟩ | ⟨hp, b, off, cap, rfl, hc⟩
  · exact ⟨_, _, rfl⟩
  · exact ⟨_, _, rfl⟩
theorem PairsAt.later {w w' : World} {v : Value} {ps : List (List UInt8 × List UInt8)} (h : PairsAt w v ps) (hb : Below w.heap.size w w') : PairsAt w' v ps := by
  rcases h with h | ⟨hp, b, off, cap, rfl, hc⟩
  · exact .inl h
  · have hl : b < w.heap.size := lt_of_cell (hc 0 hp).1
    exact .inr ⟨hp, b, off, cap, rfl, fun k hk => ⟨(hb.cell (p := ⟨b, _, none⟩) hl).trans (hc k hk).1, (hb.cell (p := ⟨b, _, none⟩) hl).trans (hc k hk).2⟩⟩
theorem StrsAt.form {w : World} {v : Value} {ps : List (List UInt8)} (h : StrsAt w v ps) : ∃ a cap, v = .slice a ps.length cap := by
  rcases h with ⟨rfl, ao, cap, rfl⟩ | ⟨hp, b, off, cap, rfl, hc⟩
  · exact ⟨_, _, rfl⟩
  · exact ⟨_, _, rfl⟩
/-- a value as an argument, or a result -/
def VlAt (w : World) (x : Value) (v : Vl) : Prop := ∃ sl sp, x = .agg #[.int .i64 v.kind, .string ⟨v.s.toArray⟩, sl, sp] ∧ StrsAt w sl v.l ∧ PairsAt w sp v.p
theorem VlAt.later {w w' : World} {x : Value} {v : Vl} (h : VlAt w x v) (hb : Below w.heap.size w w') : VlAt w' x v := by
  obtain ⟨sl, sp, rfl, h1, h2⟩ := h
  exact ⟨sl, sp, rfl, h1.later hb, h2.later hb⟩
theorem StrsAt.at {w : World} {v : Value} {ps : List (List UInt8)} (h : StrsAt w v ps) (k : Nat) (hk : k < ps.length) : ∃ b off cap, v = .slice (some ⟨b, off, none⟩) ps.length cap ∧ b < w.heap.size ∧ w.cell? ⟨b, off + k, none⟩ = some (.string ⟨ps[k].toArray⟩) := by
  rcases h with ⟨rfl, _⟩ | ⟨hp, b, off, cap, rfl, hc⟩
  · simp at hk
  · have := hc k hk
    have e : ps.getD k [] = ps[k] := by simp [hk]
    rw [e] at this
    exact ⟨b, off, cap, rfl, lt_of_cell this, this⟩
theorem PairsAt.at {w : World} {v : Value} {ps : List (List UInt8 × List UInt8)} (h : PairsAt w v ps) (k : Nat) (hk : k < ps.length) : ∃ b off cap, v = .slice (some ⟨b, off, none⟩) ps.length cap ∧ b < w.heap.size ∧ w.cell? ⟨b, off + k * 2, none⟩ = some (.string ⟨ps[k].1.toArray⟩) ∧ w.cell? ⟨b, off + k * 2 + 1, none⟩ = some (.string ⟨ps[k].2.toArray⟩) := by
  rcases h with ⟨rfl, _⟩ | ⟨hp, b, off, cap, rfl, hc⟩
  · simp at hk
  · obtain ⟨h1, h2⟩ := hc k hk
    exact ⟨b, off, cap, rfl, lt_of_cell h1, h1, h2⟩
end Go.Proofs.Ytpfcfadbilaleaa
/-
  WALKS: the reference's Few (layer 8).
-/
namespace Go.Proofs.Ytpfcfadbilaleaa
open Go.RowKit

def fewL (l : List (List UInt8)) : Bool := (l.take 31).all fun x => decide (x.length ≤ 200)
def fewP (p : List (List UInt8 × List UInt8)) : Bool := (p.take 31).all fun x => decide (x.1.length ≤ 200) && decide (x.2.length ≤ 200)
/-- 30 texts of 200 bytes at most -/
def fewV (v : Vl) : Bool := fewL v.l && fewP v.p && (decide (v.s.length ≤ 200) && decide (v.l.length ≤ 30) && decide (v.p.length ≤ 30))
theorem all_snoc {α : Type} (f : α → Bool) (l : List α) (k : Nat) (h : k < l.length) : (l.take (k + 1)).all f = ((l.take k).all f && f l[k]) := by
  rw [List.take_succ_eq_append_getElem h, List.all_append]
  simp only [List.all_cons, List.all_nil, Bool.and_true]
theorem all_not {α : Type} (f : α → Bool) (l : List α) (k m : Nat) (h : k < l.length) (hm : k < m) (hf : f l[k] = false) : (l.take m).all f = false := by
  cases hl : (l.take m).all f with
  | false => rfl
  | true =>
    have hk : k < (l.take m).length := by simp; omega
    have := List.all_eq_true.1 hl _ (List.getElem_mem hk)
    rw [List.getElem_take, hf] at this; cases this
theorem all_end {α : Type} (f : α → Bool) (l : List α) (k m : Nat) (h : (l.take k).all f = true) (hk : k = m ∨ l.length ≤ k) : (l.take m).all f = true := by
  rcases hk with rfl | hk
  · exact h
  · rw [List.take_of_length_le hk] at h
    rw [List.all_eq_true] at h ⊢
    exact fun x hx => h x (List.mem_of_mem_take hx)
set_option maxRecDepth 20000 in
set_option maxHeartbeats 2000000 in
theorem few_any (x : Value) (v : Vl) (w : World) (H : VlAt w x v) (hl : v.l.length ≤ 9223372036854775807) (hp : v.p.length ≤ 9223372036854775807) (hs : v.s.length ≤ 9223372036854775807) (hlx : ∀ y ∈ v.l, y.length ≤ 9223372036854775807) (hpx : ∀ y ∈ v.p, y.1.length ≤ 9223372036854775807 ∧ y.2.length ≤ 9223372036854775807) :
    Calls Try.prog 21 #[x] w fun e w' => e = .returned (.bool (fewV v)) ∧ Below w.heap.size w w' := by
  obtain ⟨sl, sp, rfl, h1, h2⟩ := H
  obtain ⟨la, lc, rfl⟩ := h1.form
  obtain ⟨pa, pc, rfl⟩ := h2.form
  obtain ⟨S, hS⟩ : ∃ S : ByteArray, (⟨v.s.toArray⟩ : ByteArray) = S := ⟨_, rfl⟩
  have hSs : S.size = v.s.length := by rw [← hS]; simp [ByteArray.size]
  rw [hS]
  clear hS
  have H1 := hide h1
  have H2 := hide h2
  have Hlx := hide hlx
  have Hpx := hide hpx
  clear h1 h2 hlx hpx
  have X0 := Bx.made w #[.int .i64 v.kind, .string S, .slice la v.l.length lc, .slice pa v.p.length pc] 27
  have B0 := (Below.refl w.heap.size w).alloc (Nat.le_refl _) (.cells #[.int .i64 v.kind, .string S, .slice la v.l.length lc, .slice pa v.p.length pc] 27)
  go_enter Try.func21, Try.ntmps21
  go_wp2
  obtain ⟨W1, hW1⟩ : ∃ W, w.alloc (.cells #[.int .i64 v.kind, .string S, .slice la v.l.length lc, .slice pa v.p.length pc] 27) = W := ⟨_, rfl⟩
  have K1 := H1.out.later ((Below.refl _ _).alloc (Nat.le_refl _) (.cells #[.int .i64 v.kind, .string S, .slice la v.l.length lc, .slice pa v.p.length pc] 27))
  have K2 := H2.out.later ((Below.refl _ _).alloc (Nat.le_refl _) (.cells #[.int .i64 v.kind, .string S, .slice la v.l.length lc, .slice pa v.p.length pc] 27))
  rw [hW1] at X0 B0 K1 K2 ⊢
  clear hW1
  have c1 := X0.cell 1 (.string S) rfl
  have c2 := X0.cell 2 (.slice la v.l.length lc) rfl
  have c3 := X0.cell 3 (.slice pa v.p.length pc) rfl
  have HK1 := hide K1
  have HK2 := hide K2
  clear K1 K2 X0
  go_loopw [3] (fun i wr => ∃ k : Nat, k ≤ v.l.length ∧ k ≤ 31 ∧ i = .int .i64 k ∧ (v.l.take k).all (fun x => decide (x.length ≤ 200)) = true ∧ wr = W1) (fun i _ => 31 - (intOf i).toNat)
  case atStart => exact ⟨0, Nat.zero_le _, by omega, rfl, by simp, rfl⟩
  case round =>
    obtain ⟨k, hk, hk31, rfl, hall, hw⟩ := hrel
    subst hw
    by_cases hgo : k < v.l.length ∧ k < 31
    · obtain ⟨hlt, h31⟩ := hgo
      obtain ⟨b, off, cap, e, hb, g1⟩ := HK1.out.at k hlt
      cases e
      have hsn := all_snoc (fun x : List UInt8 => decide (x.length ≤ 200)) v.l k hlt
      rw [hall, Bool.true_and] at hsn
      have hbad := all_not (fun x : List UInt8 => decide (x.length ≤ 200)) v.l k 31 hlt h31
      have hy := Hlx.out _ (List.getElem_mem hlt)
      obtain ⟨y, ey⟩ : ∃ y, v.l[k] = y := ⟨_, rfl⟩
      rw [ey] at g1 hsn hbad hy
      obtain ⟨N, hN⟩ : ∃ N : ByteArray, (⟨y.toArray⟩ : ByteArray) = N := ⟨_, rfl⟩
      have hNs : N.size = y.length := by rw [← hN]; simp [ByteArray.size]
      rw [hN] at g1
      rw [← hNs] at hsn hbad hy
      have Hsn := hide hsn
      have Hbad := hide hbad
      clear hsn hbad ey hN hNs hall
      by_cases h2 : 200 < N.size
      · have hf : fewV v = false := by
          have := Hbad.out (by simp; omega)
          unfold fewV fewL
          rw [this]; rfl
        have Hf := hide hf
        clear hf
        go_wp2
        all_goals go_ret
        all_goals exact ⟨ret_bool Hf.out.symm, B0⟩
      · have hg : (v.l.take (k + 1)).all (fun x => decide (x.length ≤ 200)) = true := by rw [Hsn.out]; simp; omega
        have Hg := hide hg
        clear hg
        go_wp2
        go_roundw
        case rel => exact ⟨k + 1, by omega, by omega, by go_num, Hg.out, by first | rfl | trivial⟩
        case measure => simp [intOf]; omega
    · have hend := all_end (fun x : List UInt8 => decide (x.length ≤ 200)) v.l k 31 hall (by omega)
      have HL : Hid (fewL v.l = true) := hend
      clear hend hall
      by_cases hlt : k < v.l.length
      · have h31 : ¬ k < 31 := fun h => hgo ⟨hlt, h⟩
        clear hgo
        go_wp2
        go_loopw [4] (fun i wq => ∃ m : Nat, m ≤ v.p.length ∧ m ≤ 31 ∧ i = .int .i64 m ∧ (v.p.take m).all (fun x => decide (x.1.length ≤ 200) && decide (x.2.length ≤ 200)) = true ∧ wq = wr) (fun i _ => 31 - (intOf i).toNat)
        case atStart => exact ⟨0, Nat.zero_le _, by omega, rfl, by simp, rfl⟩
        case round =>
          obtain ⟨m, hm, hm31, rfl, hall, hw⟩ := hrel
          subst hw
          by_cases hgo : m < v.p.length ∧ m < 31
          · obtain ⟨hltp, h31p⟩ := hgo
            obtain ⟨b, off, cap, e, hb, g1, g2⟩ := HK2.out.at m hltp
            cases e
            have hsn := all_snoc (fun x : List UInt8 × List UInt8 => decide (x.1.length ≤ 200) && decide (x.2.length ≤ 200)) v.p m hltp
            rw [hall, Bool.true_and] at hsn
            have hbad := all_not (fun x : List UInt8 × List UInt8 => decide (x.1.length ≤ 200) && decide (x.2.length ≤ 200)) v.p m 31 hltp h31p
            have hy := Hpx.out _ (List.getElem_mem hltp)
            obtain ⟨y, ey⟩ : ∃ y, v.p[m] = y := ⟨_, rfl⟩
            rw [ey] at g1 g2 hsn hbad hy
            obtain ⟨N, hN⟩ : ∃ N : ByteArray, (⟨y.1.toArray⟩ : ByteArray) = N := ⟨_, rfl⟩
            obtain ⟨M, hM⟩ : ∃ M : ByteArray, (⟨y.2.toArray⟩ : ByteArray) = M := ⟨_, rfl⟩
            have hNs : N.size = y.1.length := by rw [← hN]; simp [ByteArray.size]
            have hMs : M.size = y.2.length := by rw [← hM]; simp [ByteArray.size]
            rw [hN] at g1
            rw [hM] at g2
            rw [← hNs, ← hMs] at hsn hbad hy
            obtain ⟨hy1, hy2⟩ := hy
            have Hsn := hide hsn
            have Hbad := hide hbad
            clear hsn hbad ey hN hM hNs hMs hall
            by_cases h2 : N.size ≤ 200 ∧ M.size ≤ 200
            · have hg : (v.p.take (m + 1)).all (fun x => decide (x.1.length ≤ 200) && decide (x.2.length ≤ 200)) = true := by rw [Hsn.out]; simp; omega
              have Hg := hide hg
              obtain ⟨h3, h4⟩ := h2
              have h3' : ¬ 200 < N.size := by omega
              have h4' : ¬ 200 < M.size := by omega
              clear hg h3 h4
              go_wp2
              go_roundw
              case rel => exact ⟨m + 1, by omega, by omega, by go_num, Hg.out, by first | rfl | trivial⟩
              case measure => simp [intOf]; omega
            · have hf : fewV v = false := by
                have := Hbad.out (by simp; omega)
                unfold fewV fewP
                rw [this]; simp
              have Hf := hide hf
              by_cases h3 : 200 < N.size
              · clear hf h2
                go_wp2
                all_goals go_ret
                all_goals exact ⟨ret_bool Hf.out.symm, B0⟩
              · have h4 : 200 < M.size := by omega
                clear hf h2
                go_wp2
                all_goals go_ret
                all_goals exact ⟨ret_bool Hf.out.symm, B0⟩
          · have hend := all_end (fun x : List UInt8 × List UInt8 => decide (x.1.length ≤ 200) && decide (x.2.length ≤ 200)) v.p m 31 hall (by omega)
            have hf : fewV v = (decide (v.s.length ≤ 200) && decide (v.l.length ≤ 30) && decide (v.p.length ≤ 30)) := by
              have e2 : fewP v.p = true := hend
              unfold fewV
              rw [HL.out, e2]; rfl
            rw [← hSs] at hf
            have Hf := hide hf
            clear hend hall hf
            by_cases hltp : m < v.p.length
            · have h31p : ¬ m < 31 := fun h => hgo ⟨hltp, h⟩
              clear hgo
              go_wp2
              all_goals go_ret
              all_goals exact ⟨ret_bool (by rw [Hf.out, Bool.eq_iff_iff]; simp; omega), B0⟩
            · clear hgo
              go_wp2
              all_goals go_ret
              all_goals exact ⟨ret_bool (by rw [Hf.out, Bool.eq_iff_iff]; simp; omega), B0⟩
      · clear hgo
        go_wp2
        go_loopw [4] (fun i wq => ∃ m : Nat, m ≤ v.p.length ∧ m ≤ 31 ∧ i = .int .i64 m ∧ (v.p.take m).all (fun x => decide (x.1.length ≤ 200) && decide (x.2.length ≤ 200)) = true ∧ wq = wr) (fun i _ => 31 - (intOf i).toNat)
        case atStart => exact ⟨0, Nat.zero_le _, by omega, rfl, by simp, rfl⟩
        case round =>
          obtain ⟨m, hm, hm31, rfl, hall, hw⟩ := hrel
          subst hw
          by_cases hgo : m < v.p.length ∧ m < 31
          · obtain ⟨hltp, h31p⟩ := hgo
            obtain ⟨b, off, cap, e, hb, g1, g2⟩ := HK2.out.at m hltp
            cases e
            have hsn := all_snoc (fun x : List UInt8 × List UInt8 => decide (x.1.length ≤ 200) && decide (x.2.length ≤ 200)) v.p m hltp
            rw [hall, Bool.true_and] at hsn
            have hbad := all_not (fun x : List UInt8 × List UInt8 => decide (x.1.length ≤ 200) && decide (x.2.length ≤ 200)) v.p m 31 hltp h31p
            have hy := Hpx.out _ (List.getElem_mem hltp)
            obtain ⟨y, ey⟩ : ∃ y, v.p[m] = y := ⟨_, rfl⟩
            rw [ey] at g1 g2 hsn hbad hy
            obtain ⟨N, hN⟩ : ∃ N : ByteArray, (⟨y.1.toArray⟩ : ByteArray) = N := ⟨_, rfl⟩
            obtain ⟨M, hM⟩ : ∃ M : ByteArray, (⟨y.2.toArray⟩ : ByteArray) = M := ⟨_, rfl⟩
            have hNs : N.size = y.1.length := by rw [← hN]; simp [ByteArray.size]
            have hMs : M.size = y.2.length := by rw [← hM]; simp [ByteArray.size]
            rw [hN] at g1
            rw [hM] at g2
            rw [← hNs, ← hMs] at hsn hbad hy
            obtain ⟨hy1, hy2⟩ := hy
            have Hsn := hide hsn
            have Hbad := hide hbad
            clear hsn hbad ey hN hM hNs hMs hall
            by_cases h2 : N.size ≤ 200 ∧ M.size ≤ 200
            · have hg : (v.p.take (m + 1)).all (fun x => decide (x.1.length ≤ 200) && decide (x.2.length ≤ 200)) = true := by rw [Hsn.out]; simp; omega
              have Hg := hide hg
              obtain ⟨h3, h4⟩ := h2
              have h3' : ¬ 200 < N.size := by omega
              have h4' : ¬ 200 < M.size := by omega
              clear hg h3 h4
              go_wp2
              go_roundw
              case rel => exact ⟨m + 1, by omega, by omega, by go_num, Hg.out, by first | rfl | trivial⟩
              case measure => simp [intOf]; omega
            · have hf : fewV v = false := by
                have := Hbad.out (by simp; omega)
                unfold fewV fewP
                rw [this]; simp
              have Hf := hide hf
              by_cases h3 : 200 < N.size
              · clear hf h2
                go_wp2
                all_goals go_ret
                all_goals exact ⟨ret_bool Hf.out.symm, B0⟩
              · have h4 : 200 < M.size := by omega
                clear hf h2
                go_wp2
                all_goals go_ret
                all_goals exact ⟨ret_bool Hf.out.symm, B0⟩
          · have hend := all_end (fun x : List UInt8 × List UInt8 => decide (x.1.length ≤ 200) && decide (x.2.length ≤ 200)) v.p m 31 hall (by omega)
            have hf : fewV v = (decide (v.s.length ≤ 200) && decide (v.l.length ≤ 30) && decide (v.p.length ≤ 30)) := by
              have e2 : fewP v.p = true := hend
              unfold fewV
              rw [HL.out, e2]; rfl
            rw [← hSs] at hf
            have Hf := hide hf
            clear hend hall hf
            by_cases hltp : m < v.p.length
            · have h31p : ¬ m < 31 := fun h => hgo ⟨hltp, h⟩
              clear hgo
              go_wp2
              all_goals go_ret
              all_goals exact ⟨ret_bool (by rw [Hf.out, Bool.eq_iff_iff]; simp; omega), B0⟩
            · clear hgo
              go_wp2
              all_goals go_ret
              all_goals exact ⟨ret_bool (by rw [Hf.out, Bool.eq_iff_iff]; simp; omega), B0⟩
end Go.Proofs.Ytpfcfadbilaleaa
