/- Party: the law's own and the document's Same. -/
import Derived.Test.YtjlpmdokmfmdiaaE2
namespace Go.Proofs.Ytjlpmdokmfmdiaa.P
open Go.RowKit
set_option maxRecDepth 20000
set_option linter.unusedVariables false
set_option linter.unusedSimpArgs false

theorem S32.of_fl {w : World} {R : Nat} {vi : Value} {s : Sl} {l : List Nat} (h : Fl w R vi s l) : S32 w (.slice s.a s.n s.c) l := ⟨s.a, s.c, by rw [h.1], h.rn⟩
set_option maxHeartbeats 4000000 in
theorem own_any (x l : Nat) (m v : Sl) (w : World) :
    Calls Try.prog 61 #[.agg (dC x l m v)] w fun r w' => r = .returned (.agg (dC x l m v)) ∧ Below w.heap.size w w' := by
  obtain ⟨X, hX⟩ : ∃ X, X = w.heap.size := ⟨_, rfl⟩
  obtain ⟨Y, hY⟩ : ∃ Y, Y = w.heap.size + 1 := ⟨_, rfl⟩
  obtain ⟨w0, hw0⟩ : ∃ w0, w0 = (w.alloc (.cells #[.int .u32 (x : Int), .int .u32 (l : Int), .slice m.a m.n m.c, .slice v.a v.n v.c] 36)).alloc (.cells #[.int .u32 0, .int .u32 0, .slice none 0 0, .slice none 0 0] 124) := ⟨_, rfl⟩
  have hb0 : Below w.heap.size w w0 := by rw [hw0]; exact ((Below.refl _ _).alloc (Nat.le_refl _) _).alloc (by simp) _
  have hp0 : w0.heap[X]? = some (.cells #[.int .u32 (x : Int), .int .u32 (l : Int), .slice m.a m.n m.c, .slice v.a v.n v.c] 36 (0, 0)) := by
    rw [hw0, hX]
    exact (Below.heap_alloc _ _ _ (by simp)).trans (heap_alloc_new w _)
  have hq0 : w0.heap[Y]? = some (.cells #[.int .u32 0, .int .u32 0, .slice none 0 0, .slice none 0 0] 124 (0, 0)) := by
    have h := heap_alloc_new (w.alloc (.cells #[.int .u32 (x : Int), .int .u32 (l : Int), .slice m.a m.n m.c, .slice v.a v.n v.c] 36)) (.cells #[.int .u32 0, .int .u32 0, .slice none 0 0, .slice none 0 0] 124)
    rw [World.size_alloc] at h
    rw [hw0, hY]
    exact h
  have H0 := Lib.hid hw0
  have HB0 := Lib.hid hb0
  have HP0 := Lib.hid hp0
  have HQ0 := Lib.hid hq0
  have HXX := Lib.hid hX
  have HYY := Lib.hid hY
  have z0 := cell_of_row w0 X 0 _ _ _ hp0
  have z1 := cell_of_row w0 X 1 _ _ _ hp0
  have z2 := cell_of_row w0 X 2 _ _ _ hp0
  have z3 := cell_of_row w0 X 3 _ _ _ hp0
  simp at z0 z1 z2 z3
  have y0 := cell_of_row w0 Y 0 _ _ _ hq0
  have y1 := cell_of_row w0 Y 1 _ _ _ hq0
  have y2 := cell_of_row w0 Y 2 _ _ _ hq0
  have y3 := cell_of_row w0 Y 3 _ _ _ hq0
  simp at y0 y1 y2 y3
  have yf : ∀ i, w0.frozen? ⟨Y, i, none⟩ = false := fun i => frozen_of_row _ _ i _ _ hq0
  have HT := Lib.hid (four_cells (.int .u32 (x : Int)) (.int .u32 (l : Int)) (.slice m.a m.n m.c) (.slice v.a v.n v.c) hq0)
  have HB9 := Lib.hid (four_below (k := w.heap.size) (.int .u32 (x : Int)) (.int .u32 (l : Int)) (.slice m.a m.n m.c) (.slice v.a v.n v.c) hb0 (by omega : w.heap.size ≤ Y))
  clear hw0 hb0 hp0 hq0 hX hY
  go_enter Try.func61, Try.ntmps61
  go_upto_region 1 with (fail)
  rw [← H0.out, ← HYY.out, ← HXX.out]
  go_wp2
  obtain ⟨e0, e1, e2, e3⟩ := HT.out
  exact bodyPost_ret (v := .agg (dC x l m v)) (by simp [results, Try.results61, go_sem, e0, e1, e2, e3]) rfl ⟨rfl, HB9.out⟩
set_option maxHeartbeats 4000000 in
theorem same_any (R : Nat) (vi : Value) (x l : Nat) (m v m2 v2 : Sl) (L1 L2 : List Nat) (w : World) (f1 : Fl w R vi m L1) (f2 : Fl w R vi v L2) (g1 : Fl w R vi m2 L1) (g2 : Fl w R vi v2 L2) (h1 : L1.length ≤ 100) (h2 : L2.length ≤ 100) :
    Calls Try.prog 60 #[.agg (dC x l m v), .agg (dC x l m2 v2)] w fun r w' => r = .returned (.bool true) ∧ Below w.heap.size w w' := by
  obtain ⟨X, hX⟩ : ∃ X, X = w.heap.size := ⟨_, rfl⟩
  obtain ⟨Y, hY⟩ : ∃ Y, Y = w.heap.size + 1 := ⟨_, rfl⟩
  obtain ⟨w0, hw0⟩ : ∃ w0, w0 = (w.alloc (.cells #[.int .u32 (x : Int), .int .u32 (l : Int), .slice m.a m.n m.c, .slice v.a v.n v.c] 124)).alloc (.cells #[.int .u32 (x : Int), .int .u32 (l : Int), .slice m2.a m2.n m2.c, .slice v2.a v2.n v2.c] 124) := ⟨_, rfl⟩
  have hb0 : Below w.heap.size w w0 := by rw [hw0]; exact ((Below.refl _ _).alloc (Nat.le_refl _) _).alloc (by simp) _
  have hp0 : w0.heap[X]? = some (.cells #[.int .u32 (x : Int), .int .u32 (l : Int), .slice m.a m.n m.c, .slice v.a v.n v.c] 124 (0, 0)) := by
    rw [hw0, hX]
    exact (Below.heap_alloc _ _ _ (by simp)).trans (heap_alloc_new w _)
  have hq0 : w0.heap[Y]? = some (.cells #[.int .u32 (x : Int), .int .u32 (l : Int), .slice m2.a m2.n m2.c, .slice v2.a v2.n v2.c] 124 (0, 0)) := by
    have h := heap_alloc_new (w.alloc (.cells #[.int .u32 (x : Int), .int .u32 (l : Int), .slice m.a m.n m.c, .slice v.a v.n v.c] 124)) (.cells #[.int .u32 (x : Int), .int .u32 (l : Int), .slice m2.a m2.n m2.c, .slice v2.a v2.n v2.c] 124)
    rw [World.size_alloc] at h
    rw [hw0, hY]
    exact h
  have H0 := Lib.hid hw0
  have HB0 := Lib.hid hb0
  have HP0 := Lib.hid hp0
  have HQ0 := Lib.hid hq0
  have HXX := Lib.hid hX
  have HYY := Lib.hid hY
  have z0 := cell_of_row w0 X 0 _ _ _ hp0
  have z1 := cell_of_row w0 X 1 _ _ _ hp0
  have z2 := cell_of_row w0 X 2 _ _ _ hp0
  have z3 := cell_of_row w0 X 3 _ _ _ hp0
  simp at z0 z1 z2 z3
  have y0 := cell_of_row w0 Y 0 _ _ _ hq0
  have y1 := cell_of_row w0 Y 1 _ _ _ hq0
  have y2 := cell_of_row w0 Y 2 _ _ _ hq0
  have y3 := cell_of_row w0 Y 3 _ _ _ hq0
  simp at y0 y1 y2 y3
  have HS1 := Lib.hid (same_eq (.slice m.a m.n m.c) (.slice m2.a m2.n m2.c) L1 w0 (by omega) (.of_fl (f1.after hb0)) (.of_fl (g1.after hb0)))
  have HF : Hid (Fl w0 R vi v L2 ∧ Fl w0 R vi v2 L2 ∧ L2.length ≤ 100) := ⟨f2.after hb0, g2.after hb0, h2⟩
  clear hw0 hb0 hp0 hq0 hX hY f1 f2 g1 g2 h1 h2
  go_enter Try.func60, Try.ntmps60
  go_upto_region 1 with (fail)
  rw [← H0.out, ← HYY.out, ← HXX.out]
  go_wp2_with fail
  refine HS1.out.mono ?_
  rintro r w1 ⟨rfl, hb1⟩
  have hp1 := (hb1.block _ (lt_of_block HP0.out)).trans HP0.out
  have hq1 := (hb1.block _ (lt_of_block HQ0.out)).trans HQ0.out
  clear z0 z1 z2 z3 y0 y1 y2 y3
  have z0 := cell_of_row w1 X 0 _ _ _ hp1
  have z1 := cell_of_row w1 X 1 _ _ _ hp1
  have z2 := cell_of_row w1 X 2 _ _ _ hp1
  have z3 := cell_of_row w1 X 3 _ _ _ hp1
  simp at z0 z1 z2 z3
  have y0 := cell_of_row w1 Y 0 _ _ _ hq1
  have y1 := cell_of_row w1 Y 1 _ _ _ hq1
  have y2 := cell_of_row w1 Y 2 _ _ _ hq1
  have y3 := cell_of_row w1 Y 3 _ _ _ hq1
  simp at y0 y1 y2 y3
  have HS2 := Lib.hid (same_eq (.slice v.a v.n v.c) (.slice v2.a v2.n v2.c) L2 w1 (by have := HF.out.2.2; omega) (.of_fl (HF.out.1.after hb1)) (.of_fl (HF.out.2.1.after hb1)))
  have HB1 : Hid (Below w.heap.size w w1) := HB0.out.trans (hb1.mono HB0.out.size)
  clear hp1 hq1 hb1
  go_wp2_with fail
  refine HS2.out.mono ?_
  rintro r w2 ⟨rfl, hb2⟩
  have HB2 : Hid (Below w.heap.size w w2) := HB1.out.trans (hb2.mono HB1.out.size)
  clear hb2
  go_wp2
  go_ret
  exact ⟨rfl, HB2.out⟩
end Go.Proofs.Ytjlpmdokmfmdiaa.P
