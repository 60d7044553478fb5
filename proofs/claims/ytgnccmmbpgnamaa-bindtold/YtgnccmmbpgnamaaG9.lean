/-
  WALKS: the program's Set (layer 9).
-/
import Derived.Test.YtgnccmmbpgnamaaG8
namespace Go.Proofs.Ytgnccmmbpgnamaa
open Go.RowKit

set_option maxRecDepth 20000 in
set_option maxHeartbeats 4000000 in
theorem pbset_any (v x : Value) (bs cs : List Bd) (s : ByteArray) (u : Vl) (w : World) (h : BindsAt w v bs) (HX : VlAt w x u) (F : Fd bs) (FU : FewV u) (hs : s.size ≤ 200) (hl : bs.length ≤ 99) (hc : setB bs s.data.toList u = cs) :
    Calls Try.prog 23 #[v, .string s, x] w fun e w' => BindsPost w cs e w' := by
  obtain ⟨fs, hpl, hE⟩ := h
  obtain ⟨sl, sp, rfl, g1, g2⟩ := HX
  obtain ⟨la, lc, rfl⟩ := hE.1.form
  obtain ⟨s1, t1, rfl⟩ := g1.form
  obtain ⟨s2, t2, rfl⟩ := g2.form
  have hfl : fs.length ≤ 99 := by
    have := congrArg List.length hpl
    simp [plainE] at this
    omega
  have FN := hide (set_fd F FU (by rw [← size_list]; exact hs) hl)
  obtain ⟨k, hk⟩ : ∃ k, u.kind = k := ⟨_, rfl⟩
  obtain ⟨S, hS⟩ : ∃ S : ByteArray, (⟨u.s.toArray⟩ : ByteArray) = S := ⟨_, rfl⟩
  obtain ⟨m1, hm1⟩ : ∃ m, u.l.length = m := ⟨_, rfl⟩
  obtain ⟨m2, hm2⟩ : ∃ m, u.p.length = m := ⟨_, rfl⟩
  obtain ⟨mf, hmf⟩ : ∃ m, fs.length = m := ⟨_, rfl⟩
  rw [hm1] at g1
  rw [hm2] at g2
  rw [hmf] at hE hfl
  have HC : Hid (cellsE ⟨(s.data.toList, u), .slice s1 m1 t1, .slice s2 m2 t2⟩ = [.string s, .int .i64 k, .string S, .slice s1 m1 t1, .slice s2 m2 t2]) := hide (by rw [← hk, ← hS]; rfl)
  rw [hk, hS, hm1, hm2, hmf]
  have bA := b_alloc w (.cells #[.int .i64 k, .string S, .slice s1 m1 t1, .slice s2 m2 t2] 28)
  have X0 := Bx.made w #[.int .i64 k, .string S, .slice s1 m1 t1, .slice s2 m2 t2] 28
  have hE1 := hE.later bA
  have he1 : EAt (w.alloc (.cells #[.int .i64 k, .string S, .slice s1 m1 t1, .slice s2 m2 t2] 28)) ⟨(s.data.toList, u), .slice s1 m1 t1, .slice s2 m2 t2⟩ := ⟨g1.later bA, g2.later bA⟩
  have hpl2 : plainE ([⟨(s.data.toList, u), .slice s1 m1 t1, .slice s2 m2 t2⟩] ++ fs) = (s.data.toList, u) :: bs := by rw [← hpl]; rfl
  obtain ⟨W1, hW1⟩ : ∃ W1, w.alloc (.cells #[.int .i64 k, .string S, .slice s1 m1 t1, .slice s2 m2 t2] 28) = W1 := ⟨_, rfl⟩
  rw [hW1] at bA X0 hE1 he1
  have R1 := Rw.made he1 HC.out
  have bB := b_alloc W1 (.cells #[.string s, .int .i64 k, .string S, .slice s1 m1 t1, .slice s2 m2 t2] 41)
  have hE2 := hE1.later bB
  have hR : BindsE (W1.alloc (.cells #[.string s, .int .i64 k, .string S, .slice s1 m1 t1, .slice s2 m2 t2] 41)) (.slice (some ⟨W1.heap.size, 0, none⟩) 1 1) [⟨(s.data.toList, u), .slice s1 m1 t1, .slice s2 m2 t2⟩] := ⟨EsAt.of_owns R1.row, R1.val⟩
  obtain ⟨W2, hW2⟩ : ∃ W2, W1.alloc (.cells #[.string s, .int .i64 k, .string S, .slice s1 m1 t1, .slice s2 m2 t2] 41) = W2 := ⟨_, rfl⟩
  rw [hW2] at bB hE2 hR
  have bC := b_alloc W2 (.cells #[.slice (some ⟨W1.heap.size, 0, none⟩) 1 1, .slice la mf lc] 22)
  have XC := Bx.made W2 #[.slice (some ⟨W1.heap.size, 0, none⟩) 1 1, .slice la mf lc] 22
  have HCat := hide (concat_any W2.heap.size (some ⟨W1.heap.size, 0, none⟩) la 1 mf 1 lc [⟨(s.data.toList, u), .slice s1 m1 t1, .slice s2 m2 t2⟩] fs _ (XC.cell 0 _ rfl) (XC.cell 1 _ rfl) (hR.later bC) (hE2.later bC) rfl hmf (by omega) (by omega) (by omega))
  obtain ⟨y0, y1, y2, y3⟩ := cells4 X0
  have B3 := (bA.trans (bB.mono bA.size)).trans (bC.mono (bA.trans (bB.mono bA.size)).size)
  have Hp := hide hpl2
  have Hc := hide hc
  clear hE hE1 hE2 he1 g1 g2 hpl hpl2 F FU hk hS hc X0 R1 hR XC bA bB bC hm1 hm2 hmf
  go_enter Try.func23, Try.ntmps23
  go_wp2_with (first
    | (go_at_call 34; refine HCat.out.mono ?_; rintro e w2 ⟨d, c, rfl, h2, bb⟩; rw [Hp.out] at h2; have B4 := B3.trans (bb.mono B3.size))
    | (go_at_call 18; refine (pbcanon_is _ _ cs _ h2 FN.out Hc.out).mono ?_; rintro e w3 ⟨a3, c3, rfl, h3, b3⟩))
  go_ret
  exact ⟨a3, c3, rfl, h3, B4.trans (b3.mono B4.size)⟩
end Go.Proofs.Ytgnccmmbpgnamaa
