/-
  WALKS: the reference's Split (layer 5).
-/
import Derived.Test.YthiipiflljgbbaaDoorW3
namespace Go.Proofs.YthiipiflljgbbaaDoor
open Go.RowKit

theorem below_own {B n : Nat} {w W w1 : World} {v : Value} {m : Nat} {xs : List Value} {o : Obj} {t : TypeId} (hB : Below B w W) (hn : B ≤ n) (hw : B ≤ W.heap.size) (hown : W.ownsRow n t 1 v m xs) (hg : (W.alloc o).grownBy w1 v.ownBlock) : Below B w w1 :=
  (hB.alloc hw o).grown hg (by simp; omega) (fun k hk => Nat.le_trans hn (hown.lt k hk).1)

set_option maxRecDepth 20000 in
set_option maxHeartbeats 1000000 in
theorem rsplit_yes (s : ByteArray) (w : World) (hs : s.size ≤ 100000) (hn : nameB s.data.toList = true) :
    Calls Tryd.prog 18 #[.string s] w fun e w' => ∃ v, e = .returned v ∧ StrsAt w' v (splitL s.data.toList) ∧ Below w.heap.size w w' := by
  obtain ⟨i0, hi, hz0, hz1, hz2⟩ := info_parts info9
  have Hsp : Hid (splitL s.data.toList = partsL s.data.toList) := by show splitL s.data.toList = partsL s.data.toList; unfold splitL; rw [if_pos hn]
  have Hn := hide hn
  clear hn
  go_enter Tryd.func18, Tryd.ntmps18
  go_wp2_with (go_at_call 11; refine (rmay_is _ _ _ Hn.out).mono ?_; rintro e w' ⟨rfl, hw⟩; rw [hw])
  go_loopw [3, 4] (fun o i wr => ∃ (k m g cap : Nat) (init : List (List UInt8)) (last : List UInt8), k ≤ s.size ∧ i = .int .i64 k ∧ o = .slice (some ⟨g, 0, none⟩) (m + 1) cap ∧ init.length = m ∧ partsL (s.data.toList.take k) = init ++ [last] ∧ wr.ownsRow w.heap.size 9 1 o (m + 1) (strsV (init ++ [last])) ∧ Below w.heap.size w wr ∧ w.heap.size ≤ wr.heap.size) (fun _ i _ => s.size - (intOf i).toNat)
  case atStart => exact ⟨0, 0, w.heap.size, 1, [], [], Nat.zero_le _, rfl, rfl, rfl, rfl, World.ownsRow_lit w #[.string ⟨#[]⟩] 1 (Nat.le_refl _) (by unfold maxLen; omega) rfl, (Below.refl _ _).alloc (Nat.le_refl _) _, by simp⟩
  case round =>
    obtain ⟨k, m, g, cap, init, last, hk, rfl, rfl, hm, hp, hown, hB, hsz⟩ := hrel
    have hle := parts_last_le _ _ _ hp
    rw [List.length_take] at hle
    by_cases hlt : k < s.size
    · have hnx := part_snoc s k hlt
      rw [hp] at hnx
      by_cases h46 : s[k] = 46
      · have hc : ((s[k].toNat : Int) == 46) = true := by simp [h46]
        have hnx2 : partsL (s.data.toList.take (k + 1)) = (init ++ [last]) ++ [[]] := by rw [hnx, addP, if_pos h46]
        have Hnx := hide hnx2
        have Hp := hide hp
        clear hnx hnx2 hp h46
        go_wp2_with (first | (at_builtin; refine wpList_append_own _ rfl _ _ 26 rfl w.heap.size 9 i0 (.string ⟨#[]⟩) 1 16 Tryd.underlying26 hi hz0 hz1 hz2 rfl (by decide) _ _ _ rfl (hown.alloc _) ⟨wr.heap.size, 0, none⟩ 1 1 [.string ⟨#[]⟩] rfl rfl ?c1 ?c2 ?c3 ?c4 ?c5 ?_))
        case c1 =>
          intro j u hj
          match j, hj with
          | 0, hj => simp at hj; subst hj; simp [Addr.add]
        case c2 => intro u hu; simp at hu; subst hu; rfl
        case c3 => unfold maxLen; omega
        case c4 => omega
        case c5 => simp; omega
        · intro v' w2 hown' hgrow _
          have hB2 := below_own hB (Nat.le_refl _) hsz hown hgrow
          have hsz2 := hB2.size
          have hvs' : ∃ a c', v' = .slice (some ⟨a, 0, none⟩) (m + 1 + 1) c' := by
            rcases hown'.2 with ⟨_, h⟩ | ⟨g, cap, cur, rfl, _⟩
            · omega
            · exact ⟨_, _, rfl⟩
          obtain ⟨va', vc', hv'⟩ := hvs'
          rw [hv'] at hown' ⊢
          have Hown := hide hown'
          clear hown' hgrow hown hv'
          go_wp2
          go_roundw
          case rel => exact ⟨k + 1, m + 1, va', vc', init ++ [last], [], by omega, by go_num, rfl, by simp [hm], Hnx.out, by rw [strs_snoc (init ++ [last])]; exact Hown.out, hB2, hsz2⟩
          case measure => simp [intOf]; omega
      · have hc : ((s[k].toNat : Int) == 46) = false := by
          have : s[k].toNat ≠ 46 := fun e => h46 (UInt8.toNat_inj.1 e)
          simp; omega
        have hnx2 : partsL (s.data.toList.take (k + 1)) = init ++ [last ++ [s[k]]] := by
          rw [hnx, addP, if_neg h46]; simp
        have hcell : wr.cell? ⟨g, m, none⟩ = some (.string ⟨last.toArray⟩) := by
          rw [World.ownsRow.cellAt hown m (by omega), strs_snoc]
          simp [strsV, hm]
        have hfr : wr.frozen? ⟨g, m, none⟩ = false := World.ownsRow.frozenAt hown m
        have hls : (⟨last.toArray⟩ : ByteArray).size ≤ 100000 := by show last.toArray.size ≤ 100000; simp; omega
        have hst := World.ownsRow.stored hown m (.string ((⟨last.toArray⟩ : ByteArray) ++ s.extract k (k + 1)))
        have hset : (strsV (init ++ [last])).set m (.string ((⟨last.toArray⟩ : ByteArray) ++ s.extract k (k + 1))) = strsV (init ++ [last ++ [s[k]]]) := by
          rw [strs_snoc, strs_snoc, arr_app last s k hlt, List.set_append_right _ _ (by simp [strsV, hm])]
          simp [strsV, hm]
        rw [hset] at hst
        have hbg : w.heap.size ≤ g := by
          have := (hown.lt g (by rfl)).1
          exact this
        have Hst := hide hst.1
        have Hnx := hide hnx2
        clear hnx hnx2 hp h46 hst hset
        obtain ⟨L, hL⟩ : ∃ L : ByteArray, L = ⟨last.toArray⟩ := ⟨_, rfl⟩
        rw [← hL] at hcell hls Hst
        clear hL
        go_wp2
        go_region
        go_wp2
        have hB2 := (hB.setCell (p := ⟨g, m, none⟩) hbg (.string (L ++ s.extract k (k + 1))))
        have hown2 := Hst.out
        go_roundw
        case rel => exact ⟨k + 1, m, g, cap, init, last ++ [s[k]], by omega, by go_num, rfl, hm, Hnx.out, hown2.drew, hB2.drew, hB2.size⟩
        case measure => simp [intOf]; omega
    · have he : s.data.toList.take k = s.data.toList := List.take_of_length_le (by rw [← size_list]; omega)
      rw [he] at hp
      have hlen : (init ++ [last]).length = m + 1 := by simp [hm]
      have hA : StrsAt wr (.slice (some ⟨g, 0, none⟩) (m + 1) cap) (init ++ [last]) := StrsAt.of_owns (by rw [hlen]; exact hown)
      have HA := hide hA
      have Hp := hide hp
      clear hp hA he
      go_wp2
      go_ret
      exact ⟨_, rfl, by rw [Hsp.out, Hp.out]; exact HA.out, hB⟩
end Go.Proofs.YthiipiflljgbbaaDoor
