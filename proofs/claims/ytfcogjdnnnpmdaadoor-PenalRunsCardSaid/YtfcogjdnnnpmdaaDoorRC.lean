/- Penal: a book: New, Players, Mark. -/
import Derived.Test.YtfcogjdnnnpmdaaDoorRB
import Derived.Test.YtfcogjdnnnpmdaaDoorN6
namespace Go.Proofs.YtfcogjdnnnpmdaaDoor
open Go.RowKit
set_option maxRecDepth 20000

/-- A book in block B, over the rack in block R. -/
abbrev BkRow (w : World) (B R : Nat) : Prop := w.heap[B]? = some (.cells #[.pointer (some ⟨R, 0, none⟩)] 67 (0, 0))
/-- What Get answers of x. -/
abbrev GetsM (w : World) (R x : Nat) (l s u : Int) (t : Bool) : Prop := ∀ W, Below w.heap.size w W → Calls Tryd.prog 33 #[.pointer (some ⟨R, 0, none⟩), .int .u32 (x : Int)] W fun r w' => r = .returned (.tuple #[mV l s u, .bool t]) ∧ Below W.heap.size W w'

set_option maxHeartbeats 1000000 in
theorem bnew (w : World) : Calls Tryd.prog 17 #[.int .i64 3] w fun r w' => ∃ B R : Nat, r = .returned (.pointer (some ⟨B, 0, none⟩)) ∧ w.heap.size ≤ R ∧ w.heap.size ≤ B ∧ BkRow w' B R ∧ IsR w' R 3 (.slice none 0 0) (.slice none 0 0) [] [] ∧ Below w.heap.size w w' := by
  go_enter Tryd.func17, Tryd.ntmps17
  go_wp2_with fail
  refine (new_any _ _).mono ?_
  rintro r w1 ⟨rfl, h1, hb1⟩
  have H1 := Lib.hid h1
  clear h1
  go_wp2_with fail
  go_ret
  exact ⟨w1.heap.size, w.heap.size, rfl, Nat.le_refl _, hb1.size, heap_alloc_new w1 _, H1.out.after ((Below.refl _ _).alloc (Nat.le_refl _) _), hb1.alloc hb1.size _⟩
set_option maxHeartbeats 1000000 in
theorem bplayers (B R : Nat) (most : Int) (vi vt : Value) (ids : List Nat) (ths : List Mk) (w : World) (hB : BkRow w B R) (h : IsR w R most vi vt ids ths) (hl : ids.length ≤ 1000) :
    Calls Tryd.prog 26 #[.pointer (some ⟨B, 0, none⟩)] w fun r w' => ∃ v', r = .returned v' ∧ w'.ownsRow w.heap.size 36 1 v' ids.length (un ids) ∧ Below w.heap.size w w' := by
  have HC := Lib.hid (ids_any R most vi vt ids ths w h hl)
  have c0 := cell_of_one hB
  clear h hl
  go_enter Tryd.func26, Tryd.ntmps26
  go_wp2_with fail
  refine HC.out.mono ?_
  rintro r w1 ⟨v', rfl, h1, h2⟩
  have H1 := Lib.hid h1
  clear h1
  go_wp2
  go_ret
  exact ⟨v', rfl, H1.out, h2⟩
set_option maxHeartbeats 1000000 in
theorem bmark (B R x : Nat) (l s u now : Int) (t : Bool) (w : World) (hB : BkRow w B R) (hG : GetsM w R x l s u t) (hl : inI l) (hs : inI s) (hu : inI u) (hn : inI now) :
    Calls Tryd.prog 23 #[.pointer (some ⟨B, 0, none⟩), .int .u32 (x : Int), .int .i64 now] w fun r w' => r = .returned (mV (atL l s now) (atS l s now) (atU l s u now)) ∧ Below w.heap.size w w' := by
  have HG := Lib.hid hG
  have HA : Hid (∀ W, Calls Tryd.prog 10 #[mV l s u, .int .i64 now] W fun r w' => r = .returned (mV (atL l s now) (atS l s now) (atU l s u now)) ∧ Below W.heap.size W w') := fun W => at_any l s u now W hl hs hu hn
  have c0 := cell_of_one hB
  have hBl := lt_of_block hB
  obtain ⟨w0, hw0⟩ : ∃ w0, w0 = w.alloc (.cells (mC 0 0 0) 24) := ⟨_, rfl⟩
  have HB0 : Hid (Below w.heap.size w w0) := by rw [hw0]; exact (Below.refl _ _).alloc (Nat.le_refl _) _
  have H0 := Lib.hid hw0
  have hq0 : w0.heap[w.heap.size]? = some (.cells (mC 0 0 0) 24 (0, 0)) := by rw [hw0]; exact heap_alloc_new w _
  have HQ0 := Lib.hid hq0
  clear hG hw0 hq0
  go_enter Tryd.func23, Tryd.ntmps23
  go_wp2_with fail
  rw [← H0.out]
  refine (HG.out _ HB0.out).mono ?_
  rintro r w1 ⟨rfl, hb1⟩
  have HQ1 := Lib.hid (((Below.refl _ w1).alloc (Nat.le_refl _) (.cells (mC l s u) 24)).block w.heap.size (lt_of_block ((hb1.block _ (lt_of_block HQ0.out)).trans HQ0.out)) |>.trans ((hb1.block _ (lt_of_block HQ0.out)).trans HQ0.out))
  have HB1 : Hid (Below w.heap.size w (w1.alloc (.cells (mC l s u) 24))) := (HB0.out.trans (hb1.mono HB0.out.size)).alloc (Nat.le_trans HB0.out.size hb1.size) _
  clear hb1
  go_wp2_with fail
  refine (HA.out _).mono ?_
  rintro r w2 ⟨rfl, hb2⟩
  have hq2 := (hb2.block _ (lt_of_block HQ1.out)).trans HQ1.out
  have b0 : w2.cell? ⟨w.heap.size, 0, none⟩ = some (.int .i64 0) := by rw [cell_of_row w2 _ _ _ _ _ hq2]; rfl
  have b1 : w2.cell? ⟨w.heap.size, 1, none⟩ = some (.int .i64 0) := by rw [cell_of_row w2 _ _ _ _ _ hq2]; rfl
  have b2 : w2.cell? ⟨w.heap.size, 2, none⟩ = some (.int .i64 0) := by rw [cell_of_row w2 _ _ _ _ _ hq2]; rfl
  have bf : ∀ i, w2.frozen? ⟨w.heap.size, i, none⟩ = false := fun i => frozen_of_row w2 _ i _ _ hq2
  obtain ⟨L, hL⟩ : ∃ L, L = atL l s now := ⟨_, rfl⟩
  obtain ⟨S, hS⟩ : ∃ S, S = atS l s now := ⟨_, rfl⟩
  obtain ⟨U, hU⟩ : ∃ U, U = atU l s u now := ⟨_, rfl⟩
  rw [← hL, ← hS, ← hU]
  have HT := Lib.hid (three (.int .i64 L) (.int .i64 S) (.int .i64 U) hq2)
  have HTB := Lib.hid (three_below (.int .i64 L) (.int .i64 S) (.int .i64 U) (HB1.out.trans (hb2.mono HB1.out.size)) (Nat.le_refl w.heap.size))
  have HE := Lib.hid (And.intro hL (And.intro hS hU))
  clear hb2 hq2 hL hS hU
  go_wp2
  obtain ⟨e0, e1, e2, _⟩ := HT.out
  exact bodyPost_ret (v := mV L S U) (by simp [results, Tryd.results23, go_sem, e0, e1, e2]) rfl ⟨by rw [HE.out.1, HE.out.2.1, HE.out.2.2], HTB.out⟩
set_option maxHeartbeats 1000000 in
theorem bbanned (B x : Nat) (L S U now : Int) (w : World) (hM : Calls Tryd.prog 23 #[.pointer (some ⟨B, 0, none⟩), .int .u32 (x : Int), .int .i64 now] w fun r w' => r = .returned (mV L S U) ∧ Below w.heap.size w w') (hu : inI U) (hn : inI now) (hz : btw now U = 0) :
    Calls Tryd.prog 24 #[.pointer (some ⟨B, 0, none⟩), .int .u32 (x : Int), .int .i64 now] w fun r w' => r = .returned (.bool false) ∧ Below w.heap.size w w' := by
  have HM := Lib.hid hM
  have HL : Hid (∀ W, Calls Tryd.prog 14 #[mV L S U, .int .i64 now] W fun r w' => r = .returned (.int .i64 0) ∧ Below W.heap.size W w') := fun W => by
    have h := left_any L S U now W hu hn
    rw [hz] at h
    exact h
  clear hM
  go_enter Tryd.func24, Tryd.ntmps24
  go_wp2_with fail
  refine HM.out.mono ?_
  rintro r w1 ⟨rfl, hb1⟩
  go_wp2_with fail
  refine (HL.out _).mono ?_
  rintro r w2 ⟨rfl, hb2⟩
  go_wp2_with fail
  go_ret
  exact ⟨rfl, hb1.trans (hb2.mono hb1.size)⟩
theorem own_ne {w : World} {R : Nat} {most : Int} {vi vt : Value} {ids : List Nat} {ths : List Mk} (h : IsR w R most vi vt ids ths) {b : Nat} (hb : w.heap[b]? = some (.cells (mC 0 0 0) 24 (0, 0))) {p : Nat} {M s u : Int} (hp : ths[p]? = some (M, s, u)) (hM : M ≠ 0) : vt.ownBlock ≠ some b := by
  rcases h.rto.2 with ⟨rfl, _⟩ | ⟨g, cap, cur, rfl, _, hh, hnc, _, hcs, ht⟩
  · intro e
    cases e
  · intro e
    have e : g = b := Option.some.inj e
    subst e
    rw [hb] at hh
    injection hh with hh
    injection hh with hcur
    subst hcur
    have h3 : 3 = cap * 3 := hcs
    have hpl := (List.getElem?_eq_some_iff.1 hp).1
    have hpe := (List.getElem?_eq_some_iff.1 hp).2
    have hl := h.len
    have h1 : ids.length = 1 := by omega
    have hp0 : p = 0 := by omega
    subst hp0
    have hg := (mz_get ths 0 hpl).1
    rw [← ht, h1, hpe] at hg
    simp at hg
    exact hM hg.symm
theorem IsR.three {w : World} {R b : Nat} {most : Int} {vi vt x y z : Value} {ids : List Nat} {ths : List Mk} (h : IsR w R most vi vt ids ths) (h1 : R ≠ b) (h2 : vi.ownBlock ≠ some b) (h3 : vt.ownBlock ≠ some b) : IsR (((w.setCell ⟨b, 0, none⟩ x).setCell ⟨b, 1, none⟩ y).setCell ⟨b, 2, none⟩ z) R most vi vt ids ths := by
  have hoth : ∀ k, k ≠ b → (((w.setCell ⟨b, 0, none⟩ x).setCell ⟨b, 1, none⟩ y).setCell ⟨b, 2, none⟩ z).heap[k]? = w.heap[k]? := fun k hk => by
    rw [Below.heap_setCell _ _ _ _ hk, Below.heap_setCell _ _ _ _ hk, Below.heap_setCell _ _ _ _ hk]
  exact ⟨(hoth R h1).trans h.row, own_after h.rio fun k hk => hoth k (fun e => h2 (by rw [hk, e])), own_after h.rto fun k hk => hoth k (fun e => h3 (by rw [hk, e])), h.len, h.up, h.ok⟩
end Go.Proofs.YtfcogjdnnnpmdaaDoor
