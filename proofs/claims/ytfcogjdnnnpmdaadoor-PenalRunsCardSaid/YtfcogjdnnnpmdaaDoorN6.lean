/- Penal: awake. -/
import Derived.Test.YtfcogjdnnnpmdaaDoorN5
namespace Go.Proofs.YtfcogjdnnnpmdaaDoor
open Go.RowKit
set_option maxRecDepth 20000

theorem inI_mk {x : Int} (h1 : -9223372036854775808 ≤ x) (h2 : x ≤ 9223372036854775807) : inI x := ⟨h1, h2⟩
set_option maxHeartbeats 1000000 in
theorem nawake (w : World) (hlw : Lw w) (hz : 0 < w.heap.size) : Calls Tryd.prog 16 #[] w fun r w' => r = .returned (.bool true) ∧ Below w.heap.size w w' := by
  have HH1 : Hid (∀ W, Below w.heap.size w W → Calls Tryd.prog 12 #[mV 0 0 0, .int .i64 100] W fun r w' => r = .returned (mV 1 100 160) ∧ Below W.heap.size W w') := fun W hb => by
    have h := hit_any 0 0 0 100 W (hlw.below hb hz) (Nat.lt_of_lt_of_le hz hb.size) (inI_mk (by omega) (by omega)) (inI_mk (by omega) (by omega)) (inI_mk (by omega) (by omega)) (inI_mk (by omega) (by omega))
    have e1 : hitL 0 0 100 = 1 := by decide +kernel
    have e2 : hitU 0 0 0 100 = 160 := by decide +kernel
    rw [e1, e2] at h
    exact h
  have HH2 : Hid (∀ W, Below w.heap.size w W → Calls Tryd.prog 12 #[mV 1 100 160, .int .i64 120] W fun r w' => r = .returned (mV 2 120 420) ∧ Below W.heap.size W w') := fun W hb => by
    have h := hit_any 1 100 160 120 W (hlw.below hb hz) (Nat.lt_of_lt_of_le hz hb.size) (inI_mk (by omega) (by omega)) (inI_mk (by omega) (by omega)) (inI_mk (by omega) (by omega)) (inI_mk (by omega) (by omega))
    have e1 : hitL 1 100 120 = 2 := by decide +kernel
    have e2 : hitU 1 100 160 120 = 420 := by decide +kernel
    rw [e1, e2] at h
    exact h
  have HH3 : Hid (∀ W, Calls Tryd.prog 10 #[mV 2 120 420, .int .i64 10120] W fun r w' => r = .returned (mV 1 10120 420) ∧ Below W.heap.size W w') := fun W => by
    have h := at_any 2 120 420 10120 W (inI_mk (by omega) (by omega)) (inI_mk (by omega) (by omega)) (inI_mk (by omega) (by omega)) (inI_mk (by omega) (by omega))
    have e1 : atL 2 120 10120 = 1 := by decide +kernel
    have e2 : atS 2 120 10120 = 10120 := by decide +kernel
    have e3 : atU 2 120 420 10120 = 420 := by decide +kernel
    rw [e1, e2, e3] at h
    exact h
  have HBr : Hid (Below w.heap.size w w) := Below.refl _ _
  have hfld : ∀ W, (Instr.field 24 (mV 1 10120 420) 0).run Tryd.prog W = .ok (.int .i64 1) W := fun _ => by kernel_rfl
  clear hlw
  go_enter Tryd.func16, Tryd.ntmps16
  go_wp2_with fail
  refine (HH1.out _ HBr.out).mono ?_
  rintro e w1 ⟨rfl, hb1⟩
  have HB1 := Lib.hid hb1
  clear hb1
  go_wp2_with fail
  obtain ⟨w2, hw2⟩ : ∃ w2, w2 = w1.alloc (.cells (mC 1 100 160) 24) := ⟨_, rfl⟩
  rw [← hw2]
  have hq2 : w2.heap[w1.heap.size]? = some (.cells (mC 1 100 160) 24 (0, 0)) := by rw [hw2]; exact heap_alloc_new w1 _
  have HB2 : Hid (Below w.heap.size w w2) := by rw [hw2]; exact HB1.out.alloc HB1.out.size _
  have HQ2 := Lib.hid hq2
  clear hw2 hq2
  refine (HH2.out _ HB2.out).mono ?_
  rintro e w3 ⟨rfl, hb3⟩
  have HQ3 : Hid (w3.heap[w1.heap.size]? = some (.cells (mC 1 100 160) 24 (0, 0))) := (hb3.block _ (lt_of_block HQ2.out)).trans HQ2.out
  have HB3 : Hid (Below w.heap.size w w3) := HB2.out.trans (hb3.mono HB2.out.size)
  clear hb3
  go_upto_region 3 with (fail)
  obtain ⟨w4, hw4⟩ : ∃ w4, w4 = w3.alloc (.cells (mC 2 120 420) 24) := ⟨_, rfl⟩
  rw [← hw4]
  have hq4 : w4.heap[w3.heap.size]? = some (.cells (mC 2 120 420) 24 (0, 0)) := by rw [hw4]; exact heap_alloc_new w3 _
  have hq5 : w4.heap[w1.heap.size]? = some (.cells (mC 1 100 160) 24 (0, 0)) := by rw [hw4]; exact (Below.heap_alloc _ _ _ (lt_of_block HQ3.out)).trans HQ3.out
  have HB4 : Hid (Below w.heap.size w w4) := by rw [hw4]; exact HB3.out.alloc HB3.out.size _
  have c0 := cell_of_row w4 w1.heap.size 0 _ _ _ hq5
  have c1 := cell_of_row w4 w1.heap.size 1 _ _ _ hq5
  have c2 := cell_of_row w4 w1.heap.size 2 _ _ _ hq5
  have d0 := cell_of_row w4 w3.heap.size 0 _ _ _ hq4
  have d1 := cell_of_row w4 w3.heap.size 1 _ _ _ hq4
  have d2 := cell_of_row w4 w3.heap.size 2 _ _ _ hq4
  simp at c0 c1 c2 d0 d1 d2
  clear hw4 hq4 hq5
  go_wp2_with fail
  refine (HH3.out _).mono ?_
  rintro e w5 ⟨rfl, hb5⟩
  have HB5 : Hid (Below w.heap.size w w5) := HB4.out.trans (hb5.mono HB4.out.size)
  clear hb5 c0 c1 c2 d0 d1 d2
  go_wp2_with fail
  go_ret
  exact ⟨rfl, HB5.out⟩
end Go.Proofs.YtfcogjdnnnpmdaaDoor
