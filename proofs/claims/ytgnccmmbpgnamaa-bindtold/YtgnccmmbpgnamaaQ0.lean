/-
  WALKS: awake (layer 9).
-/
import Derived.Test.YtgnccmmbpgnamaaG9
namespace Go.Proofs.Ytgnccmmbpgnamaa
open Go.RowKit

theorem text_any (s : ByteArray) (w : World) : Calls Try.prog 27 #[.string s] w fun e w' => e = .returned (.agg #[.int .i64 1, .string s, .slice none 0 0, .slice none 0 0]) ∧ Below w.heap.size w w' := by
  have B := b_alloc w (.cells #[.int .i64 1, .string s, .slice none 0 0, .slice none 0 0] 28)
  have X := Bx.made w #[.int .i64 1, .string s, .slice none 0 0, .slice none 0 0] 28
  go_enter Try.func27, Try.ntmps27
  go_wp2
  refine bodyPost_ret (v := .agg #[.int .i64 1, .string s, .slice none 0 0, .slice none 0 0]) (results_cell_row Try.results27 _ _ w.heap.size 28 _ (0, 0) _ rfl X Try.underlying28 rfl (by kernel_rfl)) rfl ⟨rfl, B⟩
theorem EsAt.made (w : World) (es : List Ev) (cs : Array Value) (n c : Nat) (h : cs.toList = rowE es) (hn : es.length = n) (hp : 0 < n) : EsAt (w.alloc (.cells cs 41)) (.slice (some ⟨w.heap.size, 0, none⟩) n c) es := by
  subst hn
  refine .inr ⟨hp, w.heap.size, 0, c, rfl, fun k hk j u hj => ?_⟩
  have hj5 : j < 5 := by
    apply Classical.byContradiction
    intro hge
    rw [List.getElem?_eq_none (by show 5 ≤ j; omega)] at hj
    cases hj
  have := rowE_at es k j hk hj5
  rw [hj, ← h] at this
  rw [Nat.zero_add]
  exact (Bx.made w cs 41).cell (k * 5 + j) u (by rw [← this]; simp)
def txV (c : UInt8) : Vl := ⟨1, [c], [], []⟩
def babE : List Ev := [⟨([98], txV 49), .slice none 0 0, .slice none 0 0⟩, ⟨([97], txV 50), .slice none 0 0, .slice none 0 0⟩, ⟨([98], txV 51), .slice none 0 0, .slice none 0 0⟩]
def babB : List Bd := [([98], txV 49), ([97], txV 50), ([98], txV 51)]
def canB : List Bd := [([97], txV 50), ([98], txV 49)]
theorem bab_canon : canonB babB = canB := (veryB_iff _ _).1 (by decide +kernel)
theorem bab_get : getV babB [98] = txV 49 := (very_iff _ _).1 (by decide +kernel)
theorem bab_is : isV babB [98] = true := by decide +kernel
theorem bab_fd : Fd babB := by
  have h : fewB babB = true := by decide +kernel
  exact fd_of h
theorem can_fd : Fd canB := by rw [← bab_canon]; exact bab_fd.canon
theorem bab_same : sameB babB canB = true := by
  rw [← bab_canon]
  exact sameB_of (canonB_canon babB).symm
theorem tx_at (w : World) (c : UInt8) : EAt w ⟨([98], txV c), .slice none 0 0, .slice none 0 0⟩ := ⟨.inl ⟨rfl, _, _, rfl⟩, .inl ⟨rfl, _, _, rfl⟩⟩
theorem babE_at (w : World) : ∀ e ∈ babE, EAt w e := by
  intro e he
  simp only [babE, List.mem_cons, List.not_mem_nil, or_false] at he
  rcases he with rfl | rfl | rfl <;> exact ⟨.inl ⟨rfl, _, _, rfl⟩, .inl ⟨rfl, _, _, rfl⟩⟩
theorem can_b (v : Value) (w : World) (h : BindsAt w v babB) : Calls Try.prog 18 #[v] w fun e w' => ∃ b off c, e = .returned (.slice (some ⟨b, off, none⟩) 2 c) ∧ BindsAt w' (.slice (some ⟨b, off, none⟩) 2 c) canB ∧ b < w'.heap.size ∧ w'.cell? ⟨b, off, none⟩ = some (.string ⟨#[97]⟩) ∧ w'.cell? ⟨b, off + 5 + 1 + 1, none⟩ = some (.string ⟨#[49]⟩) ∧ Below w.heap.size w w' := by
  refine (pbcanon_is _ _ canB _ h bab_fd bab_canon).mono ?_
  rintro e w' ⟨a, c, rfl, HC, bb⟩
  obtain ⟨b, off, cap, sl, sp, e, hb, c0, _⟩ := HC.at 0 (by decide)
  cases e
  obtain ⟨b', off', cap', sl', sp', e', hb', d0, d1, d2, _⟩ := HC.at 1 (by decide)
  cases e'
  have e1 : off + 1 * 5 + 2 = off + 5 + 1 + 1 := by omega
  rw [e1] at d2
  rw [Nat.zero_mul, Nat.add_zero] at c0
  exact ⟨b, off, _, rfl, HC, hb, c0, d2, bb⟩
theorem get_b (v : Value) (w : World) (h : BindsAt w v babB) : Calls Try.prog 11 #[v, .string ⟨#[98]⟩] w fun e w' => ∃ a c a' c', e = .returned (.tuple #[.agg #[.int .i64 1, .string ⟨#[49]⟩, .slice a 0 c, .slice a' 0 c'], .bool true]) ∧ Below w.heap.size w w' := by
  refine (pget_any _ babB ⟨#[98]⟩ (txV 49) true _ h bab_fd bab_get bab_is).mono ?_
  rintro e w6 ⟨ga, gc, gp, gd, rfl, _, _, b6, _, _⟩
  exact ⟨ga, gc, gp, gd, rfl, b6⟩
set_option maxRecDepth 20000 in
set_option maxHeartbeats 4000000 in
theorem awake_any (w : World) : Calls Try.prog 9 #[] w fun e w' => e = .returned (.bool true) ∧ Below w.heap.size w w' := by
  have T1 : Hid True := trivial
  have T2 : Hid True := trivial
  have T3 : Hid True := trivial
  go_enter Try.func9, Try.ntmps9
  go_wp2_with (first
    | (have z := T1; go_at_call 27; refine (text_any _ _).mono ?_; rintro e w1 ⟨rfl, b1⟩; clear T1 z)
    | (have z := T2; go_at_call 27; refine (text_any _ _).mono ?_; rintro e w2 ⟨rfl, b2⟩; clear T2 z)
    | (have z := T3; go_at_call 27; refine (text_any _ _).mono ?_; rintro e w3 ⟨rfl, b3⟩; clear T3 z; have HA : BindsAt (w3.alloc (.cells #[.string ⟨#[98]⟩, .int .i64 1, .string ⟨#[49]⟩, .slice none 0 0, .slice none 0 0, .string ⟨#[97]⟩, .int .i64 1, .string ⟨#[50]⟩, .slice none 0 0, .slice none 0 0, .string ⟨#[98]⟩, .int .i64 1, .string ⟨#[51]⟩, .slice none 0 0, .slice none 0 0] 41)) (.slice (some ⟨w3.heap.size, 0, none⟩) 3 3) babB := ⟨babE, rfl, EsAt.made w3 babE _ 3 3 rfl rfl (by decide), babE_at _⟩; have B3 := b1.trans ((b2.trans (b3.mono b2.size)).mono b1.size); have B4 := B3.alloc B3.size (.cells #[.string ⟨#[98]⟩, .int .i64 1, .string ⟨#[49]⟩, .slice none 0 0, .slice none 0 0, .string ⟨#[97]⟩, .int .i64 1, .string ⟨#[50]⟩, .slice none 0 0, .slice none 0 0, .string ⟨#[98]⟩, .int .i64 1, .string ⟨#[51]⟩, .slice none 0 0, .slice none 0 0] 41))
    | (go_at_call 18; refine (can_b _ _ HA).mono ?_; rintro e w5 ⟨kb, ko, kc, rfl, HC, hkb, k0, k7, b5⟩)
    | (go_at_call 11; refine (get_b _ _ (HA.later b5)).mono ?_; rintro e w6 ⟨ga, gc, gp, gd, rfl, b6⟩; have b7 := b6.alloc b6.size (.cells #[.int .i64 1, .string ⟨#[49]⟩, .slice ga 0 gc, .slice gp 0 gd] 28); have l0 := (b7.cell (p := ⟨kb, ko, none⟩) hkb).trans k0; have l7 := (b7.cell (p := ⟨kb, ko + 5 + 1 + 1, none⟩) hkb).trans k7; have X := Bx.made w6 #[.int .i64 1, .string ⟨#[49]⟩, .slice ga 0 gc, .slice gp 0 gd] 28; have x1 := X.cell 1 (.string ⟨#[49]⟩) rfl)
    | (go_at_call 20; refine (psame_any _ _ babB canB true _ ((HA.later b5).later b7) (HC.later b7) bab_fd can_fd bab_same).mono ?_; rintro e w8 ⟨rfl, b8⟩))
  go_ret
  exact ⟨rfl, B4.trans ((b5.trans ((b7.trans (b8.mono b7.size)).mono b5.size)).mono B4.size)⟩
end Go.Proofs.Ytgnccmmbpgnamaa
