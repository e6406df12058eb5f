/- Ready: ReadyNil's walk. -/
import Derived.Test.YtemjmnpclknfaaaQD
namespace Go.Proofs.Ytemjmnpclknfaaa.P
open Go.RowKit
set_option maxRecDepth 20000
set_option linter.unusedVariables false
set_option linter.unusedSimpArgs false

set_option maxHeartbeats 8000000 in
theorem nil_walk (e : Ac) (w : World) (hR : Ra w e) : Calls Try.prog 6 #[.agg (aC e)] w fun r w' => r = .returned (.bool true) ∧ Below w.heap.size w w' := by
  obtain ⟨d, id, p, a, c, ps, t⟩ := e
  have hpl : ps.length ≤ 9223372036854775807 := hR.2.2.2.2.1
  obtain ⟨n, hn⟩ : ∃ n, n = ps.length := ⟨_, rfl⟩
  simp only [aC]
  rw [← hn] at hpl ⊢
  clear hR hn
  obtain ⟨P, hP⟩ : ∃ P, P = w.heap.size := ⟨_, rfl⟩
  obtain ⟨w0, hw0⟩ : ∃ w0, w0 = w.alloc (.cells #[.int .u8 d, .int .u32 (id : Int), .int .u32 (p : Int), .slice a n c, .int .i64 t] 29) := ⟨_, rfl⟩
  have hb0 : Below w.heap.size w w0 := by rw [hw0]; exact (Below.refl _ _).alloc (Nat.le_refl _) _
  have hq0 : w0.heap[P]? = some (.cells #[.int .u8 d, .int .u32 (id : Int), .int .u32 (p : Int), .slice a n c, .int .i64 t] 29 (0, 0)) := by rw [hw0, hP]; exact heap_alloc_new w _
  have HPC : Hid (∀ W, Below w0.heap.size w0 W → W.cell? ⟨P, 1, none⟩ = some (.int .u32 (id : Int)) ∧ W.cell? ⟨P, 2, none⟩ = some (.int .u32 (p : Int)) ∧ W.cell? ⟨P, 3, none⟩ = some (.slice a n c) ∧ W.cell? ⟨P, 4, none⟩ = some (.int .i64 t)) := fun W hW => by
    have e := (hW.block _ (lt_of_block hq0)).trans hq0
    exact ⟨cell_of_row W P 1 _ _ _ e, cell_of_row W P 2 _ _ _ e, cell_of_row W P 3 _ _ _ e, cell_of_row W P 4 _ _ _ e⟩
  have HB0 := Lib.hid hb0
  have H0 := Lib.hid hw0
  have HP := Lib.hid hP
  obtain ⟨p1, p2, p3, p4⟩ := HPC.out w0 (Below.refl _ _)
  clear hw0 hb0 hq0 hP
  by_cases h12 : 12 < n
  · go_enter Try.func6, Try.ntmps6
    go_upto_region 1 with (fail)
    rw [← H0.out, ← HP.out]
    go_wp2
    go_ret
    exact ⟨rfl, HB0.out⟩
  have HB00 : Hid (Below w0.heap.size w0 w0) := Below.refl _ _
  go_enter Try.func6, Try.ntmps6
  go_upto_region 1 with (fail)
  rw [← H0.out, ← HP.out]
  go_wp2_with fail
  refine (acc_nil p w0).mono ?_
  rintro r v1 ⟨rfl, hbv⟩
  obtain ⟨X1, hX1⟩ : ∃ X, X = v1.heap.size := ⟨_, rfl⟩
  obtain ⟨w1, hw1⟩ : ∃ w1, w1 = v1.alloc (.cells #[.int .u32 0, .slice none 0 0, .slice none 0 0, .int .i64 0] 33) := ⟨_, rfl⟩
  have hba : Below v1.heap.size v1 w1 := by rw [hw1]; exact (Below.refl _ _).alloc (Nat.le_refl _) _
  have hqa : w1.heap[X1]? = some (.cells #[.int .u32 0, .slice none 0 0, .slice none 0 0, .int .i64 0] 33 (0, 0)) := by rw [hw1, hX1]; exact heap_alloc_new v1 _
  have hbb := hbv.trans (hba.mono hbv.size)
  have HB11 : Hid (Below w0.heap.size w0 w1) := HB00.out.trans (hbb.mono HB00.out.size)
  have HX1 : Hid (∀ W, Below w1.heap.size w1 W → W.cell? ⟨X1, 0, none⟩ = some (.int .u32 0)) := fun W hW => by
    have e := (hW.block _ (lt_of_block hqa)).trans hqa
    exact cell_of_row W X1 0 _ _ _ e
  have HS1 : Hid (w0.heap.size ≤ w1.heap.size) := HB11.out.size
  have HE1 := Lib.hid hw1
  have HG1 := Lib.hid hX1
  clear p1 p2 p3 p4 hw1 hX1 hba hqa hbv hbb
  obtain ⟨p1, p2, p3, p4⟩ := HPC.out w1 HB11.out
  go_upto_region 5 with (fail)
  rw [← HE1.out, ← HG1.out]
  go_wp2_with fail
  refine (decline_nil p w1).mono ?_
  rintro r v2 ⟨rfl, hbv⟩
  obtain ⟨X2, hX2⟩ : ∃ X, X = v2.heap.size := ⟨_, rfl⟩
  obtain ⟨w2, hw2⟩ : ∃ w2, w2 = v2.alloc (.cells #[.int .u32 0, .slice none 0 0, .slice none 0 0, .int .i64 0] 33) := ⟨_, rfl⟩
  have hba : Below v2.heap.size v2 w2 := by rw [hw2]; exact (Below.refl _ _).alloc (Nat.le_refl _) _
  have hqa : w2.heap[X2]? = some (.cells #[.int .u32 0, .slice none 0 0, .slice none 0 0, .int .i64 0] 33 (0, 0)) := by rw [hw2, hX2]; exact heap_alloc_new v2 _
  have hbb := hbv.trans (hba.mono hbv.size)
  have HB22 : Hid (Below w0.heap.size w0 w2) := HB11.out.trans (hbb.mono HB11.out.size)
  have HX2 : Hid (∀ W, Below w2.heap.size w2 W → W.cell? ⟨X2, 0, none⟩ = some (.int .u32 0)) := fun W hW => by
    have e := (hW.block _ (lt_of_block hqa)).trans hqa
    exact cell_of_row W X2 0 _ _ _ e
  have HS2 : Hid (w0.heap.size ≤ w2.heap.size) := HB22.out.size
  have HX1 : Hid (∀ W, Below w2.heap.size w2 W → W.cell? ⟨X1, 0, none⟩ = some (.int .u32 0)) := fun W hW => HX1.out W (hbb.trans (hW.mono hbb.size))
  have HE2 := Lib.hid hw2
  have HG2 := Lib.hid hX2
  clear p1 p2 p3 p4 hw2 hX2 hba hqa hbv hbb
  obtain ⟨p1, p2, p3, p4⟩ := HPC.out w2 HB22.out
  go_upto_region 6 with (fail)
  rw [← HE2.out, ← HG2.out]
  go_wp2_with fail
  refine (close_nil id w2).mono ?_
  rintro r v3 ⟨rfl, hbv⟩
  obtain ⟨X3, hX3⟩ : ∃ X, X = v3.heap.size := ⟨_, rfl⟩
  obtain ⟨w3, hw3⟩ : ∃ w3, w3 = v3.alloc (.cells #[.int .u32 0, .slice none 0 0, .slice none 0 0, .int .i64 0] 33) := ⟨_, rfl⟩
  have hba : Below v3.heap.size v3 w3 := by rw [hw3]; exact (Below.refl _ _).alloc (Nat.le_refl _) _
  have hqa : w3.heap[X3]? = some (.cells #[.int .u32 0, .slice none 0 0, .slice none 0 0, .int .i64 0] 33 (0, 0)) := by rw [hw3, hX3]; exact heap_alloc_new v3 _
  have hbb := hbv.trans (hba.mono hbv.size)
  have HB33 : Hid (Below w0.heap.size w0 w3) := HB22.out.trans (hbb.mono HB22.out.size)
  have HX3 : Hid (∀ W, Below w3.heap.size w3 W → W.cell? ⟨X3, 0, none⟩ = some (.int .u32 0)) := fun W hW => by
    have e := (hW.block _ (lt_of_block hqa)).trans hqa
    exact cell_of_row W X3 0 _ _ _ e
  have HS3 : Hid (w0.heap.size ≤ w3.heap.size) := HB33.out.size
  have HX1 : Hid (∀ W, Below w3.heap.size w3 W → W.cell? ⟨X1, 0, none⟩ = some (.int .u32 0)) := fun W hW => HX1.out W (hbb.trans (hW.mono hbb.size))
  have HX2 : Hid (∀ W, Below w3.heap.size w3 W → W.cell? ⟨X2, 0, none⟩ = some (.int .u32 0)) := fun W hW => HX2.out W (hbb.trans (hW.mono hbb.size))
  have HE3 := Lib.hid hw3
  have HG3 := Lib.hid hX3
  clear p1 p2 p3 p4 hw3 hX3 hba hqa hbv hbb
  obtain ⟨p1, p2, p3, p4⟩ := HPC.out w3 HB33.out
  go_upto_region 7 with (fail)
  rw [← HE3.out, ← HG3.out]
  go_wp2_with fail
  refine (check_nil id w3).mono ?_
  rintro r v4 ⟨rfl, hbv⟩
  obtain ⟨X4, hX4⟩ : ∃ X, X = v4.heap.size := ⟨_, rfl⟩
  obtain ⟨w4, hw4⟩ : ∃ w4, w4 = v4.alloc (.cells #[.int .u32 0, .slice none 0 0, .slice none 0 0, .int .i64 0] 33) := ⟨_, rfl⟩
  have hba : Below v4.heap.size v4 w4 := by rw [hw4]; exact (Below.refl _ _).alloc (Nat.le_refl _) _
  have hqa : w4.heap[X4]? = some (.cells #[.int .u32 0, .slice none 0 0, .slice none 0 0, .int .i64 0] 33 (0, 0)) := by rw [hw4, hX4]; exact heap_alloc_new v4 _
  have hbb := hbv.trans (hba.mono hbv.size)
  have HB44 : Hid (Below w0.heap.size w0 w4) := HB33.out.trans (hbb.mono HB33.out.size)
  have HX4 : Hid (∀ W, Below w4.heap.size w4 W → W.cell? ⟨X4, 0, none⟩ = some (.int .u32 0)) := fun W hW => by
    have e := (hW.block _ (lt_of_block hqa)).trans hqa
    exact cell_of_row W X4 0 _ _ _ e
  have HS4 : Hid (w0.heap.size ≤ w4.heap.size) := HB44.out.size
  have HX1 : Hid (∀ W, Below w4.heap.size w4 W → W.cell? ⟨X1, 0, none⟩ = some (.int .u32 0)) := fun W hW => HX1.out W (hbb.trans (hW.mono hbb.size))
  have HX2 : Hid (∀ W, Below w4.heap.size w4 W → W.cell? ⟨X2, 0, none⟩ = some (.int .u32 0)) := fun W hW => HX2.out W (hbb.trans (hW.mono hbb.size))
  have HX3 : Hid (∀ W, Below w4.heap.size w4 W → W.cell? ⟨X3, 0, none⟩ = some (.int .u32 0)) := fun W hW => HX3.out W (hbb.trans (hW.mono hbb.size))
  have HE4 := Lib.hid hw4
  have HG4 := Lib.hid hX4
  clear p1 p2 p3 p4 hw4 hX4 hba hqa hbv hbb
  obtain ⟨p1, p2, p3, p4⟩ := HPC.out w4 HB44.out
  go_upto_region 8 with (fail)
  rw [← HE4.out, ← HG4.out]
  have x1 := HX1.out w4 (Below.refl _ _)
  have x2 := HX2.out w4 (Below.refl _ _)
  have x3 := HX3.out w4 (Below.refl _ _)
  have x4 := HX4.out w4 (Below.refl _ _)
  go_wp2_with fail
  refine (open_nil id t a n c w4).mono ?_
  rintro r w5 ⟨rfl, rfl⟩
  go_wp2_with fail
  refine (of_nil p w4).mono ?_
  rintro r w6 ⟨rfl, hb6⟩
  have HB6 : Hid (Below w0.heap.size w0 w6) := HB44.out.trans (hb6.mono HB44.out.size)
  clear hb6
  go_wp2_with fail
  refine (rids_nil w6).mono ?_
  rintro r w7 ⟨rfl, rfl⟩
  go_wp2_with fail
  refine (awake_any w6).mono ?_
  rintro r w8 ⟨rfl, hb8⟩
  have HB8 : Hid (Below w.heap.size w w8) := HB0.out.trans ((HB6.out.trans (hb8.mono HB6.out.size)).mono HB0.out.size)
  clear hb8
  go_wp2
  go_ret
  exact ⟨rfl, HB8.out⟩
end Go.Proofs.Ytemjmnpclknfaaa.P
