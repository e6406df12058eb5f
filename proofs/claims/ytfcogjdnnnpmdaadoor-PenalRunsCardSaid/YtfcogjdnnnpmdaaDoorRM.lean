/- The document's HitOne where it does not go through. -/
import Derived.Test.YtfcogjdnnnpmdaaDoorRL
namespace Go.Proofs.YtfcogjdnnnpmdaaDoor.D
open Go.RowKit
set_option maxRecDepth 20000

set_option linter.unusedSimpArgs false in
set_option maxHeartbeats 2000000 in
theorem hitone_id (A : Option Addr) (n c x : Nat) (most now : Int) (w : World) (hno : ¬(1 ≤ x ∧ x ≤ 2147483647)) :
    Calls Tryd.prog 19 #[.slice A n c, .int .i64 most, .int .u32 (x : Int), .int .i64 now] w fun r w' => r = .returned (.tuple #[.slice A n c, mV 0 0 0, .int .i64 14]) ∧ Below w.heap.size w w' := by
  have HRI := Lib.hid (right_doc x)
  have hd : decide (1 ≤ x ∧ x ≤ 2147483647) = false := by rw [decide_eq_false_iff_not]; exact hno
  rw [hd] at HRI
  obtain ⟨w0, hw0⟩ : ∃ w0, w0 = w.alloc (.cells (mC 0 0 0) 23) := ⟨_, rfl⟩
  have HB0 : Hid (Below w.heap.size w w0) := by rw [hw0]; exact (Below.refl _ _).alloc (Nat.le_refl _) _
  have HQ0 : Hid (w0.heap[w.heap.size]? = some (.cells (mC 0 0 0) 23 (0, 0))) := by rw [hw0]; exact heap_alloc_new w _
  have H0 := Lib.hid hw0
  have HT := Lib.hid (three (.int .i64 0) (.int .i64 0) (.int .i64 0) HQ0.out)
  have HTB := Lib.hid (three_below (.int .i64 0) (.int .i64 0) (.int .i64 0) HB0.out (Nat.le_refl w.heap.size))
  have b0 : (w0).cell? ⟨w.heap.size, 0, none⟩ = some (.int .i64 0) := by rw [cell_of_row _ _ _ _ _ _ HQ0.out]; rfl
  have b1 : (w0).cell? ⟨w.heap.size, 1, none⟩ = some (.int .i64 0) := by rw [cell_of_row _ _ _ _ _ _ HQ0.out]; rfl
  have b2 : (w0).cell? ⟨w.heap.size, 2, none⟩ = some (.int .i64 0) := by rw [cell_of_row _ _ _ _ _ _ HQ0.out]; rfl
  have bf : ∀ i, (w0).frozen? ⟨w.heap.size, i, none⟩ = false := fun i => frozen_of_row _ _ i _ _ HQ0.out
  clear hno hd hw0
  go_enter Tryd.func19, Tryd.ntmps19
  go_wp2_with fail
  rw [← H0.out]
  refine (HRI.out w0).mono ?_
  rintro r w9 ⟨rfl, h9⟩
  subst h9
  go_wp2
  obtain ⟨e0, e1, e2, _⟩ := HT.out
  exact bodyPost_ret (v := .tuple #[.slice A n c, mV 0 0 0, .int .i64 14]) (by simp [results, Tryd.results19, go_sem, e0, e1, e2]) rfl ⟨rfl, HTB.out⟩

set_option linter.unusedSimpArgs false in
set_option maxHeartbeats 2000000 in
theorem hitone_full (A : Option Addr) (n c x : Nat) (most : Int) (now : Int) (w : World) (hok : 1 ≤ x ∧ x ≤ 2147483647) (hfull : most ≤ (n : Int))
    (hF : ∀ W, Below w.heap.size w W → Calls Tryd.prog 22 #[.slice A n c, .int .u32 (x : Int)] W fun r w' => r = .returned (.tuple #[mV 0 0 0, .bool false]) ∧ Below W.heap.size W w') :
    Calls Tryd.prog 19 #[.slice A n c, .int .i64 most, .int .u32 (x : Int), .int .i64 now] w fun r w' => r = .returned (.tuple #[.slice A n c, mV 0 0 0, .int .i64 10]) ∧ Below w.heap.size w w' := by
  have HF := Lib.hid hF
  have HRI := Lib.hid (right_doc x)
  have hd : decide (1 ≤ x ∧ x ≤ 2147483647) = true := by rw [decide_eq_true_iff]; exact hok
  rw [hd] at HRI
  obtain ⟨w0, hw0⟩ : ∃ w0, w0 = w.alloc (.cells (mC 0 0 0) 23) := ⟨_, rfl⟩
  have HB0 : Hid (Below w.heap.size w w0) := by rw [hw0]; exact (Below.refl _ _).alloc (Nat.le_refl _) _
  have HQ0 : Hid (w0.heap[w.heap.size]? = some (.cells (mC 0 0 0) 23 (0, 0))) := by rw [hw0]; exact heap_alloc_new w _
  have H0 := Lib.hid hw0
  have hge : (n : Int) ≥ most := hfull
  clear hF hok hd hw0
  go_enter Tryd.func19, Tryd.ntmps19
  go_wp2_with fail
  rw [← H0.out]
  refine (HRI.out w0).mono ?_
  rintro r w9 ⟨rfl, h9⟩
  subst h9
  go_wp2_with fail
  refine (HF.out _ HB0.out).mono ?_
  rintro r w1 ⟨rfl, hb1⟩
  have hm1 : w.heap.size < w1.heap.size := lt_of_block ((hb1.block _ (lt_of_block HQ0.out)).trans HQ0.out)
  have HQR : Hid ((w1.alloc (.cells (mC 0 0 0) 23)).heap[w.heap.size]? = some (.cells (mC 0 0 0) 23 (0, 0))) := (Below.heap_alloc _ _ _ hm1).trans ((hb1.block _ (lt_of_block HQ0.out)).trans HQ0.out)
  have HB1 : Hid (Below w.heap.size w (w1.alloc (.cells (mC 0 0 0) 23))) := (HB0.out.trans (hb1.mono HB0.out.size)).alloc (Nat.le_of_lt hm1) _
  have HT := Lib.hid (three (.int .i64 0) (.int .i64 0) (.int .i64 0) HQR.out)
  have HTB := Lib.hid (three_below (.int .i64 0) (.int .i64 0) (.int .i64 0) HB1.out (Nat.le_refl w.heap.size))
  have b0 : (w1.alloc (.cells (mC 0 0 0) 23)).cell? ⟨w.heap.size, 0, none⟩ = some (.int .i64 0) := by rw [cell_of_row _ _ _ _ _ _ HQR.out]; rfl
  have b1 : (w1.alloc (.cells (mC 0 0 0) 23)).cell? ⟨w.heap.size, 1, none⟩ = some (.int .i64 0) := by rw [cell_of_row _ _ _ _ _ _ HQR.out]; rfl
  have b2 : (w1.alloc (.cells (mC 0 0 0) 23)).cell? ⟨w.heap.size, 2, none⟩ = some (.int .i64 0) := by rw [cell_of_row _ _ _ _ _ _ HQR.out]; rfl
  have bf : ∀ i, (w1.alloc (.cells (mC 0 0 0) 23)).frozen? ⟨w.heap.size, i, none⟩ = false := fun i => frozen_of_row _ _ i _ _ HQR.out
  clear hb1 hm1
  go_wp2
  obtain ⟨e0, e1, e2, _⟩ := HT.out
  exact bodyPost_ret (v := .tuple #[.slice A n c, mV 0 0 0, .int .i64 10]) (by simp [results, Tryd.results19, go_sem, e0, e1, e2]) rfl ⟨rfl, HTB.out⟩
end Go.Proofs.YtfcogjdnnnpmdaaDoor.D
