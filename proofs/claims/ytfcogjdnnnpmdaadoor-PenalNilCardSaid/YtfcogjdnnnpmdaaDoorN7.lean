/- Penal: without a book; PenalNil's walk. -/
import Derived.Test.YtfcogjdnnnpmdaaDoorN8
namespace Go.Proofs.YtfcogjdnnnpmdaaDoor
open Go.RowKit
set_option maxRecDepth 20000

set_option maxHeartbeats 400000 in
theorem nilHit (p : Value) (now : Int) (w : World) : Calls Tryd.prog 18 #[.pointer none, p, .int .i64 now] w fun r w' => r = .returned (.tuple #[mV 0 0 0, .int .i64 10]) ∧ Below w.heap.size w w' := by
  go_enter Tryd.func18, Tryd.ntmps18
  go_wp2_with fail
  have c0 : (w.alloc (.cells (mC 0 0 0) 24)).cell? ⟨w.heap.size, 0, none⟩ = some (.int .i64 0) := by rw [cell_of_row _ _ _ _ _ _ (heap_alloc_new w _)]; rfl
  have c1 : (w.alloc (.cells (mC 0 0 0) 24)).cell? ⟨w.heap.size, 1, none⟩ = some (.int .i64 0) := by rw [cell_of_row _ _ _ _ _ _ (heap_alloc_new w _)]; rfl
  have c2 : (w.alloc (.cells (mC 0 0 0) 24)).cell? ⟨w.heap.size, 2, none⟩ = some (.int .i64 0) := by rw [cell_of_row _ _ _ _ _ _ (heap_alloc_new w _)]; rfl
  exact bodyPost_ret (v := .tuple #[mV 0 0 0, .int .i64 10]) (by simp [results, Tryd.results18, go_sem, c0, c1, c2]) rfl ⟨rfl, (Below.refl _ _).alloc (Nat.le_refl _) _⟩
set_option maxHeartbeats 400000 in
theorem nilMark (p : Value) (now : Int) (w : World) : Calls Tryd.prog 23 #[.pointer none, p, .int .i64 now] w fun r w' => r = .returned (mV 0 0 0) ∧ Below w.heap.size w w' := by
  go_enter Tryd.func23, Tryd.ntmps23
  go_wp2_with fail
  have c0 : (w.alloc (.cells (mC 0 0 0) 24)).cell? ⟨w.heap.size, 0, none⟩ = some (.int .i64 0) := by rw [cell_of_row _ _ _ _ _ _ (heap_alloc_new w _)]; rfl
  have c1 : (w.alloc (.cells (mC 0 0 0) 24)).cell? ⟨w.heap.size, 1, none⟩ = some (.int .i64 0) := by rw [cell_of_row _ _ _ _ _ _ (heap_alloc_new w _)]; rfl
  have c2 : (w.alloc (.cells (mC 0 0 0) 24)).cell? ⟨w.heap.size, 2, none⟩ = some (.int .i64 0) := by rw [cell_of_row _ _ _ _ _ _ (heap_alloc_new w _)]; rfl
  exact bodyPost_ret (v := mV 0 0 0) (by simp [results, Tryd.results23, go_sem, c0, c1, c2]) rfl ⟨rfl, (Below.refl _ _).alloc (Nat.le_refl _) _⟩
set_option maxHeartbeats 400000 in
theorem nilBanned (p : Value) (now : Int) (w : World) : Calls Tryd.prog 24 #[.pointer none, p, .int .i64 now] w fun r w' => r = .returned (.bool false) ∧ w' = w := by
  go_enter Tryd.func24, Tryd.ntmps24
  go_wp2_with fail
  go_ret
  exact ⟨rfl, rfl⟩
set_option maxHeartbeats 400000 in
theorem nilPlayers (w : World) : Calls Tryd.prog 26 #[.pointer none] w fun r w' => r = .returned (.slice none 0 0) ∧ w' = w := by
  go_enter Tryd.func26, Tryd.ntmps26
  go_wp2_with fail
  go_ret
  exact ⟨rfl, rfl⟩
set_option maxHeartbeats 400000 in
theorem nilSweep (now : Int) (w : World) : Calls Tryd.prog 21 #[.pointer none, .int .i64 now] w fun r w' => r = .returned (.int .i64 0) ∧ w' = w := by
  go_enter Tryd.func21, Tryd.ntmps21
  go_wp2_with fail
  refine (nilPlayers _).mono ?_
  rintro e w1 ⟨rfl, rfl⟩
  go_wp2_with fail
  refine wp_loop_rounds 1 ?_
  rw [rounds_succ]
  go_wp2_with fail
  go_ret
  exact ⟨rfl, rfl⟩

set_option maxHeartbeats 1000000 in
theorem nil_walk (p now : Int) (w : World) (hlw : Lw w) (hz : 0 < w.heap.size) (_hp : 0 ≤ p ∧ p ≤ 4294967295) (_hn : -9223372036854775808 ≤ now ∧ now ≤ 9223372036854775807) :
    Calls Tryd.prog 5 #[.int .u32 p, .int .i64 now] w fun r w' => r = .returned (.bool true) ∧ Below w.heap.size w w' := by
  have HW : Hid (∀ W, Below w.heap.size w W → Calls Tryd.prog 16 #[] W fun r w' => r = .returned (.bool true) ∧ Below W.heap.size W w') := fun W hb => nawake W (hlw.below hb hz) (Nat.lt_of_lt_of_le hz hb.size)
  clear hlw
  go_enter Tryd.func5, Tryd.ntmps5
  go_wp2_with fail
  refine (nilHit _ _ _).mono ?_
  rintro e w1 ⟨rfl, hb1⟩
  have HB1 := Lib.hid hb1
  clear hb1
  go_upto_region 3 with (fail)
  obtain ⟨w2, hw2⟩ : ∃ w2, w2 = w1.alloc (.cells (mC 0 0 0) 24) := ⟨_, rfl⟩
  rw [← hw2]
  have hq2 : w2.heap[w1.heap.size]? = some (.cells (mC 0 0 0) 24 (0, 0)) := by rw [hw2]; exact heap_alloc_new w1 _
  have HB2 : Hid (Below w.heap.size w w2) := by rw [hw2]; exact HB1.out.alloc HB1.out.size _
  have c0 := cell_of_row w2 w1.heap.size 0 _ _ _ hq2
  have c1 := cell_of_row w2 w1.heap.size 1 _ _ _ hq2
  have c2 := cell_of_row w2 w1.heap.size 2 _ _ _ hq2
  simp at c0 c1 c2
  clear hw2 hq2
  go_wp2_with fail
  refine (nilMark _ _ _).mono ?_
  rintro e w3 ⟨rfl, hb3⟩
  have HB3 : Hid (Below w.heap.size w w3) := HB2.out.trans (hb3.mono HB2.out.size)
  clear hb3 c0 c1 c2
  go_wp2_with fail
  refine (nilBanned _ _ _).mono ?_
  rintro e w4 ⟨rfl, rfl⟩
  go_wp2_with fail
  refine (nilSweep _ _).mono ?_
  rintro e w5 ⟨rfl, rfl⟩
  go_wp2_with fail
  refine (nilPlayers _).mono ?_
  rintro e w6 ⟨rfl, rfl⟩
  go_wp2_with fail
  refine (HW.out _ HB3.out).mono ?_
  rintro e w7 ⟨rfl, hb7⟩
  go_wp2_with fail
  go_ret
  exact ⟨rfl, HB3.out.trans (hb7.mono HB3.out.size)⟩
end Go.Proofs.YtfcogjdnnnpmdaaDoor
