/- Fill: awake. -/
import Derived.Test.YtccabdhfnjlbdaaFE
namespace Go.Proofs.Ytccabdhfnjlbdaa
open Go.RowKit
set_option maxRecDepth 20000
set_option linter.unusedVariables false

def aM : Mo := ⟨2, 10, 0, 10, 1⟩
def aL : List Tk := [⟨1, 1505, 0⟩]
def aR : List Rw := [⟨1, 1, 1500, 10⟩, ⟨2, 2, 1500, 10⟩]
theorem a_find : findR aM 0 aR aL = (0, 1, true) := by decide +kernel

set_option maxHeartbeats 4000000 in
theorem fawake (w : World) : Calls Try.prog 17 #[] w fun r w' => r = .returned (.bool true) ∧ Below w.heap.size w w' := by
  obtain ⟨w0, hw0⟩ : ∃ w0, w0 = w.alloc (.cells (mCells 2 10 0 10 1) 35) := ⟨_, rfl⟩
  have hb0 : Below w.heap.size w w0 := by rw [hw0]; exact (Below.refl _ _).alloc (Nat.le_refl _) _
  have hq0 : w0.heap[w.heap.size]? = some (.cells (mCells 2 10 0 10 1) 35 (0, 0)) := by rw [hw0]; exact heap_alloc_new w _
  have hs0 : w0.heap.size = w.heap.size + 1 := by rw [hw0]; simp
  obtain ⟨w1, hw1⟩ : ∃ w1, w1 = w0.alloc (.cells #[.int .u32 1] 41) := ⟨_, rfl⟩
  have hb1 : Below w0.heap.size w0 w1 := by rw [hw1]; exact (Below.refl _ _).alloc (Nat.le_refl _) _
  have hq1 : w1.heap[w0.heap.size]? = some (.cells #[.int .u32 1] 41 (0, 0)) := by rw [hw1]; exact heap_alloc_new w0 _
  have hs1 : w1.heap.size = w0.heap.size + 1 := by rw [hw1]; simp
  obtain ⟨w2, hw2⟩ : ∃ w2, w2 = w1.alloc (.cells #[.int .i64 1, .slice (some ⟨w0.heap.size, 0, none⟩) 1 1, .int .i64 1500, .int .i64 10] 55) := ⟨_, rfl⟩
  have hb2 : Below w1.heap.size w1 w2 := by rw [hw2]; exact (Below.refl _ _).alloc (Nat.le_refl _) _
  have hq2 : w2.heap[w1.heap.size]? = some (.cells #[.int .i64 1, .slice (some ⟨w0.heap.size, 0, none⟩) 1 1, .int .i64 1500, .int .i64 10] 55 (0, 0)) := by rw [hw2]; exact heap_alloc_new w1 _
  have hs2 : w2.heap.size = w1.heap.size + 1 := by rw [hw2]; simp
  obtain ⟨w3, hw3⟩ : ∃ w3, w3 = w2.alloc (.cells #[.int .u32 2, .int .u32 3] 41) := ⟨_, rfl⟩
  have hb3 : Below w2.heap.size w2 w3 := by rw [hw3]; exact (Below.refl _ _).alloc (Nat.le_refl _) _
  have hq3 : w3.heap[w2.heap.size]? = some (.cells #[.int .u32 2, .int .u32 3] 41 (0, 0)) := by rw [hw3]; exact heap_alloc_new w2 _
  have hs3 : w3.heap.size = w2.heap.size + 1 := by rw [hw3]; simp
  obtain ⟨w4, hw4⟩ : ∃ w4, w4 = w3.alloc (.cells #[.int .i64 2, .slice (some ⟨w2.heap.size, 0, none⟩) 2 2, .int .i64 1500, .int .i64 10] 55) := ⟨_, rfl⟩
  have hb4 : Below w3.heap.size w3 w4 := by rw [hw4]; exact (Below.refl _ _).alloc (Nat.le_refl _) _
  have hq4 : w4.heap[w3.heap.size]? = some (.cells #[.int .i64 2, .slice (some ⟨w2.heap.size, 0, none⟩) 2 2, .int .i64 1500, .int .i64 10] 55 (0, 0)) := by rw [hw4]; exact heap_alloc_new w3 _
  have hs4 : w4.heap.size = w3.heap.size + 1 := by rw [hw4]; simp
  obtain ⟨w5, hw5⟩ : ∃ w5, w5 = w4.alloc (.cells #[.int .u32 4] 41) := ⟨_, rfl⟩
  have hb5 : Below w4.heap.size w4 w5 := by rw [hw5]; exact (Below.refl _ _).alloc (Nat.le_refl _) _
  have hq5 : w5.heap[w4.heap.size]? = some (.cells #[.int .u32 4] 41 (0, 0)) := by rw [hw5]; exact heap_alloc_new w4 _
  have hs5 : w5.heap.size = w4.heap.size + 1 := by rw [hw5]; simp
  obtain ⟨w6, hw6⟩ : ∃ w6, w6 = w5.alloc (.cells #[.int .u32 0, .int .i64 0, .slice (some ⟨w4.heap.size, 0, none⟩) 1 1, .int .i64 1505, .int .i64 0] 44) := ⟨_, rfl⟩
  have hb6 : Below w5.heap.size w5 w6 := by rw [hw6]; exact (Below.refl _ _).alloc (Nat.le_refl _) _
  have hq6 : w6.heap[w5.heap.size]? = some (.cells #[.int .u32 0, .int .i64 0, .slice (some ⟨w4.heap.size, 0, none⟩) 1 1, .int .i64 1505, .int .i64 0] 44 (0, 0)) := by rw [hw6]; exact heap_alloc_new w5 _
  have hs6 : w6.heap.size = w5.heap.size + 1 := by rw [hw6]; simp
  obtain ⟨w7, hw7⟩ : ∃ w7, w7 = w6.alloc (.cells #[.int .i64 1, .slice (some ⟨w0.heap.size, 0, none⟩) 1 1, .int .i64 1500, .int .i64 10, .int .i64 2, .slice (some ⟨w2.heap.size, 0, none⟩) 2 2, .int .i64 1500, .int .i64 10] 55) := ⟨_, rfl⟩
  have hb7 : Below w6.heap.size w6 w7 := by rw [hw7]; exact (Below.refl _ _).alloc (Nat.le_refl _) _
  have hq7 : w7.heap[w6.heap.size]? = some (.cells #[.int .i64 1, .slice (some ⟨w0.heap.size, 0, none⟩) 1 1, .int .i64 1500, .int .i64 10, .int .i64 2, .slice (some ⟨w2.heap.size, 0, none⟩) 2 2, .int .i64 1500, .int .i64 10] 55 (0, 0)) := by rw [hw7]; exact heap_alloc_new w6 _
  have hs7 : w7.heap.size = w6.heap.size + 1 := by rw [hw7]; simp
  have hq0_1 := (hb1.block _ (lt_of_block hq0)).trans hq0
  have hq0_2 := (hb2.block _ (lt_of_block hq0_1)).trans hq0_1
  have hq0_3 := (hb3.block _ (lt_of_block hq0_2)).trans hq0_2
  have hq0_4 := (hb4.block _ (lt_of_block hq0_3)).trans hq0_3
  have hq0_5 := (hb5.block _ (lt_of_block hq0_4)).trans hq0_4
  have hq0_6 := (hb6.block _ (lt_of_block hq0_5)).trans hq0_5
  have hq0_7 := (hb7.block _ (lt_of_block hq0_6)).trans hq0_6
  have hq1_2 := (hb2.block _ (lt_of_block hq1)).trans hq1
  have hq1_3 := (hb3.block _ (lt_of_block hq1_2)).trans hq1_2
  have hq1_4 := (hb4.block _ (lt_of_block hq1_3)).trans hq1_3
  have hq1_5 := (hb5.block _ (lt_of_block hq1_4)).trans hq1_4
  have hq1_6 := (hb6.block _ (lt_of_block hq1_5)).trans hq1_5
  have hq1_7 := (hb7.block _ (lt_of_block hq1_6)).trans hq1_6
  have hq2_3 := (hb3.block _ (lt_of_block hq2)).trans hq2
  have hq2_4 := (hb4.block _ (lt_of_block hq2_3)).trans hq2_3
  have hq2_5 := (hb5.block _ (lt_of_block hq2_4)).trans hq2_4
  have hq2_6 := (hb6.block _ (lt_of_block hq2_5)).trans hq2_5
  have hq2_7 := (hb7.block _ (lt_of_block hq2_6)).trans hq2_6
  have hq3_4 := (hb4.block _ (lt_of_block hq3)).trans hq3
  have hq3_5 := (hb5.block _ (lt_of_block hq3_4)).trans hq3_4
  have hq3_6 := (hb6.block _ (lt_of_block hq3_5)).trans hq3_5
  have hq3_7 := (hb7.block _ (lt_of_block hq3_6)).trans hq3_6
  have hq4_5 := (hb5.block _ (lt_of_block hq4)).trans hq4
  have hq4_6 := (hb6.block _ (lt_of_block hq4_5)).trans hq4_5
  have hq4_7 := (hb7.block _ (lt_of_block hq4_6)).trans hq4_6
  have hq5_6 := (hb6.block _ (lt_of_block hq5)).trans hq5
  have hq5_7 := (hb7.block _ (lt_of_block hq5_6)).trans hq5_6
  have hq6_7 := (hb7.block _ (lt_of_block hq6)).trans hq6
  have hT : Ts w7 w7.heap.size (some ⟨w5.heap.size, 0, none⟩) aL := fun _ => ⟨w5.heap.size, 0, rfl, lt_of_block hq6_7, fun i t ht => by
    have hi : i < 1 := (List.getElem?_eq_some_iff.1 ht).1
    obtain rfl : i = 0 := by omega
    simp [aL] at ht
    subst ht
    exact ⟨0, 0, _, 1, cell_of_row w7 _ _ _ _ _ hq6_7, cell_of_row w7 _ _ _ _ _ hq6_7, cell_of_row w7 _ _ _ _ _ hq6_7, cell_of_row w7 _ _ _ _ _ hq6_7, cell_of_row w7 _ _ _ _ _ hq6_7⟩⟩
  have hR : Rs w7 w7.heap.size (some ⟨w6.heap.size, 0, none⟩) aR := fun _ => ⟨w6.heap.size, 0, rfl, lt_of_block hq7, fun i t ht => by
    have hi : i < 2 := (List.getElem?_eq_some_iff.1 ht).1
    obtain rfl | rfl : i = 0 ∨ i = 1 := by omega
    · simp [aR] at ht
      subst ht
      exact ⟨_, 1, cell_of_row w7 _ _ _ _ _ hq7, cell_of_row w7 _ _ _ _ _ hq7, cell_of_row w7 _ _ _ _ _ hq7, cell_of_row w7 _ _ _ _ _ hq7⟩
    · simp [aR] at ht
      subst ht
      exact ⟨_, 2, cell_of_row w7 _ _ _ _ _ hq7, cell_of_row w7 _ _ _ _ _ hq7, cell_of_row w7 _ _ _ _ _ hq7, cell_of_row w7 _ _ _ _ _ hq7⟩⟩
  have HF := Lib.hid (find_any aM 0 (some ⟨w5.heap.size, 0, none⟩) 1 1 aL (some ⟨w6.heap.size, 0, none⟩) 2 2 aR w7 rfl hT (by decide) (fun t ht => by
    simp [aL] at ht
    subst ht
    exact ⟨by decide, by unfold In64; simp only; omega⟩) rfl hR (by decide) (by decide) ⟨by omega, by omega⟩)
  rw [a_find] at HF
  have HB7 : Hid (Below w.heap.size w w7) := (((((((hb0.trans (hb1.mono (by omega))).trans (hb2.mono (by omega))).trans (hb3.mono (by omega))).trans (hb4.mono (by omega))).trans (hb5.mono (by omega))).trans (hb6.mono (by omega))).trans (hb7.mono (by omega)))
  have c0 := cell_of_row w4 w.heap.size 0 _ _ _ hq0_4
  have c1 := cell_of_row w4 w.heap.size 1 _ _ _ hq0_4
  have c2 := cell_of_row w4 w.heap.size 2 _ _ _ hq0_4
  have c3 := cell_of_row w4 w.heap.size 3 _ _ _ hq0_4
  have c4 := cell_of_row w4 w.heap.size 4 _ _ _ hq0_4
  have d0 := cell_of_row w6 w1.heap.size 0 _ _ _ hq2_6
  have d1 := cell_of_row w6 w1.heap.size 1 _ _ _ hq2_6
  have d2 := cell_of_row w6 w1.heap.size 2 _ _ _ hq2_6
  have d3 := cell_of_row w6 w1.heap.size 3 _ _ _ hq2_6
  have e0 := cell_of_row w6 w3.heap.size 0 _ _ _ hq4_6
  have e1 := cell_of_row w6 w3.heap.size 1 _ _ _ hq4_6
  have e2 := cell_of_row w6 w3.heap.size 2 _ _ _ hq4_6
  have e3 := cell_of_row w6 w3.heap.size 3 _ _ _ hq4_6
  simp at c0 c1 c2 c3 c4 d0 d1 d2 d3 e0 e1 e2 e3
  rw [hs1, hw6, hw5] at d0 d1 d2 d3
  rw [hs3, hw6, hw5] at e0 e1 e2 e3
  have hs6b : w6.heap.size = w4.heap.size + 2 := by omega
  rw [hs5, hs6b] at HF
  have H0 := Lib.hid hw0
  have H1 := Lib.hid hw1
  have H2 := Lib.hid hw2
  have H3 := Lib.hid hw3
  have H4 := Lib.hid hw4
  have H5 := Lib.hid hw5
  have H6 := Lib.hid hw6
  have H7 := Lib.hid hw7
  clear hw0 hb0 hq0 hw1 hb1 hq1 hw2 hb2 hq2 hw3 hb3 hq3 hw4 hb4 hq4 hw5 hb5 hq5 hw6 hb6 hq6 hw7 hb7 hq7 hq0_1 hq0_2 hq0_3 hq0_4 hq0_5 hq0_6 hq0_7 hq1_2 hq1_3 hq1_4 hq1_5 hq1_6 hq1_7 hq2_3 hq2_4 hq2_5 hq2_6 hq2_7 hq3_4 hq3_5 hq3_6 hq3_7 hq4_5 hq4_6 hq4_7 hq5_6 hq5_7 hq6_7 hT hR
  have HS0 := Lib.hid hs0
  have HS1 := Lib.hid hs1
  have HS2 := Lib.hid hs2
  have HS3 := Lib.hid hs3
  have HS4 := Lib.hid hs4
  have HS5 := Lib.hid hs5
  have HS6 := Lib.hid hs6
  have HS7 := Lib.hid hs7
  clear hs0 hs1 hs2 hs3 hs4 hs5 hs6 hs7 hs6b
  go_enter Try.func17, Try.ntmps17
  go_upto_region 2 with (fail)
  rw [← H0.out]
  go_upto_region 3 with (fail)
  rw [← H1.out, ← H2.out]
  go_upto_region 4 with (fail)
  rw [← H3.out, ← H4.out]
  go_wp2_with fail
  rw [← H5.out, ← H6.out, ← H7.out]
  refine HF.out.mono ?_
  rintro r w8 ⟨rfl, hb⟩
  have HB8 : Hid (Below w.heap.size w w8) := HB7.out.trans (hb.mono HB7.out.size)
  clear hb
  go_wp2
  go_ret
  exact ⟨rfl, HB8.out⟩
end Go.Proofs.Ytccabdhfnjlbdaa
