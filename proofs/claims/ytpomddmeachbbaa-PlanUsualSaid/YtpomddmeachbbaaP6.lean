/- Plan: awake. -/
import Derived.Test.YtpomddmeachbbaaP4
import Derived.Test.YtpomddmeachbbaaP5
namespace Go.Proofs.Ytpomddmeachbbaa
open Go.RowKit
set_option maxRecDepth 20000

set_option maxHeartbeats 4000000 in
theorem pawake (w : World) : Calls Try.prog 18 #[] w fun r w' => r = .returned (.bool true) ∧ Below w.heap.size w w' := by
  obtain ⟨w0, hw0⟩ : ∃ w0, w0 = w.alloc (.cells (mCells 1 100 50 300 10) 35) := ⟨_, rfl⟩
  have hb0 : Below w.heap.size w w0 := by rw [hw0]; exact (Below.refl _ _).alloc (Nat.le_refl _) _
  have hp0 : w0.heap[w.heap.size]? = some (.cells (mCells 1 100 50 300 10) 35 (0, 0)) := by rw [hw0]; exact heap_alloc_new w _
  have HCE : Hid (∀ W, Below w0.heap.size w0 W → W.cell? ⟨w.heap.size, 0, none⟩ = some (.int .i64 1) ∧ W.cell? ⟨w.heap.size, 1, none⟩ = some (.int .i64 100) ∧ W.cell? ⟨w.heap.size, 2, none⟩ = some (.int .i64 50) ∧ W.cell? ⟨w.heap.size, 3, none⟩ = some (.int .i64 300) ∧ W.cell? ⟨w.heap.size, 4, none⟩ = some (.int .i64 10)) := fun W hW => by
    have e2 := (hW.block _ (lt_of_block hp0)).trans hp0
    exact ⟨cell_of_row W _ 0 _ _ _ e2, cell_of_row W _ 1 _ _ _ e2, cell_of_row W _ 2 _ _ _ e2, cell_of_row W _ 3 _ _ _ e2, cell_of_row W _ 4 _ _ _ e2⟩
  have H0 := Lib.hid hw0
  have HB0 := Lib.hid hb0
  have HW1 : Hid (∀ W, Calls Try.prog 19 #[mV 1 100 50 300 10, .int .i64 9] W fun r w' => r = .returned (.int .i64 100) ∧ Below W.heap.size W w') := fun W => window_any 1 100 50 300 10 9 W (by decide)
  have HW2 : Hid (∀ W, Calls Try.prog 19 #[mV 1 100 50 300 10, .int .i64 25] W fun r w' => r = .returned (.int .i64 200) ∧ Below W.heap.size W w') := fun W => window_any 1 100 50 300 10 25 W (by decide)
  have HW3 : Hid (∀ W, Calls Try.prog 19 #[mV 1 100 50 300 10, .int .i64 1000] W fun r w' => r = .returned (.int .i64 300) ∧ Below W.heap.size W w') := fun W => window_any 1 100 50 300 10 1000 W (by decide)
  have HU1 : Hid (∀ W, Calls Try.prog 22 #[.slice none 0 0] W fun r w' => ∃ B c', r = .returned (.agg (usualC.cells (.slice B 0 c'))) ∧ Ms w' w'.heap.size B [] ∧ Below W.heap.size W w') := fun W => usual_any none 0 0 [] W rfl (fun h => by simp at h) (by decide)
  have HU2 : Hid (∀ W G, W.heap[G]? = some (.cells (mCells 1 100 50 300 10) 35 (0, 0)) → Calls Try.prog 22 #[.slice (some ⟨G, 0, none⟩) 1 1] W fun r w' => ∃ B c', r = .returned (.agg (usualC.cells (.slice B 1 c'))) ∧ Ms w' w'.heap.size B [⟨1, 100, 50, 300, 10⟩] ∧ Below W.heap.size W w') := fun W G hG =>
    usual_any (some ⟨G, 0, none⟩) 1 1 [⟨1, 100, 50, 300, 10⟩] W rfl (fun _ => ⟨G, 0, rfl, lt_of_block hG, fun i m hm => by
      obtain ⟨rfl, rfl⟩ : i = 0 ∧ (⟨1, 100, 50, 300, 10⟩ : Md) = m := by
        rcases i with _ | i
        · simp at hm; exact ⟨rfl, hm⟩
        · simp at hm
      exact ⟨cell_of_row W _ 0 _ _ _ hG, cell_of_row W _ 1 _ _ _ hG, cell_of_row W _ 2 _ _ _ hG, cell_of_row W _ 3 _ _ _ hG, cell_of_row W _ 4 _ _ _ hG⟩⟩) (by decide)
  obtain ⟨us, hus⟩ : ∃ us, us = usualC := ⟨_, rfl⟩
  rw [← hus] at HU1 HU2
  have HC1 : Hid (∀ W B c, Ms W W.heap.size B [] → Calls Try.prog 13 #[.agg (us.cells (.slice B 0 c))] W fun r w' => r = .returned (.string ⟨#[77, 111, 100, 101, 115]⟩) ∧ Below W.heap.size W w') := fun W B c hM => by
    rw [hus]; exact cwrong_any usualC B 0 c [] W rfl hM (by decide)
  have HC2 : Hid (∀ W B c, Ms W W.heap.size B [⟨1, 100, 50, 300, 10⟩] → Calls Try.prog 13 #[.agg (us.cells (.slice B 1 c))] W fun r w' => r = .returned (.string ⟨#[]⟩) ∧ Below W.heap.size W w') := fun W B c hM => by
    rw [hus]; exact cwrong_any usualC B 1 c [⟨1, 100, 50, 300, 10⟩] W rfl hM (by decide)
  obtain ⟨c0, c1, c2, c3, c4⟩ := HCE.out w0 (Below.refl _ _)
  clear hw0 hb0 hp0 hus
  go_enter Try.func18, Try.ntmps18
  go_upto_region 2 with (fail)
  rw [← H0.out]
  go_wp2_with fail
  refine (HW1.out w0).mono ?_
  rintro r w1 ⟨rfl, hb⟩
  have HB1 := Lib.hid hb
  clear hb c0 c1 c2 c3 c4
  obtain ⟨c0, c1, c2, c3, c4⟩ := HCE.out w1 HB1.out
  go_wp2_with fail
  refine (HW2.out w1).mono ?_
  rintro r w2 ⟨rfl, hb⟩
  have HB2 := Lib.hid (HB1.out.trans (hb.mono HB1.out.size))
  clear hb c0 c1 c2 c3 c4
  obtain ⟨c0, c1, c2, c3, c4⟩ := HCE.out w2 HB2.out
  go_wp2_with fail
  refine (HW3.out w2).mono ?_
  rintro r w3 ⟨rfl, hb⟩
  have HB3 := Lib.hid (HB2.out.trans (hb.mono HB2.out.size))
  clear hb c0 c1 c2 c3 c4
  obtain ⟨c0, c1, c2, c3, c4⟩ := HCE.out w3 HB3.out
  go_wp2_with fail
  refine (HU1.out w3).mono ?_
  rintro r w4 ⟨B4, c', rfl, hM4, hb⟩
  have HB4 := Lib.hid (HB3.out.trans (hb.mono HB3.out.size))
  clear hb c0 c1 c2 c3 c4
  go_wp2_with fail
  refine (HC1.out w4 B4 c' hM4).mono ?_
  rintro r w5 ⟨rfl, hb⟩
  have HB5 := Lib.hid (HB4.out.trans (hb.mono HB4.out.size))
  clear hb hM4
  obtain ⟨c0, c1, c2, c3, c4⟩ := HCE.out w5 HB5.out
  go_wp2_with fail
  have hba : Below w5.heap.size w5 (w5.alloc (.cells (mCells 1 100 50 300 10) 35)) := (Below.refl _ _).alloc (Nat.le_refl _) _
  refine (HU2.out _ w5.heap.size (heap_alloc_new w5 _)).mono ?_
  rintro r w6 ⟨B6, c6, rfl, hM6, hb⟩
  have HB6 := Lib.hid ((HB5.out.trans (hba.mono HB5.out.size)).trans (hb.mono (Nat.le_trans HB5.out.size hba.size)))
  clear hb hba c0 c1 c2 c3 c4
  go_wp2_with fail
  refine (HC2.out w6 B6 c6 hM6).mono ?_
  rintro r w7 ⟨rfl, hb⟩
  have HB7 := Lib.hid (HB6.out.trans (hb.mono HB6.out.size))
  clear hb hM6
  go_wp2
  go_ret
  exact ⟨rfl, HB0.out.trans (HB7.out.mono HB0.out.size)⟩
end Go.Proofs.Ytpomddmeachbbaa
