/- Penal: a mark at a time, the program's. -/
import Derived.Test.YtfcogjdnnnpmdaaDoorN1
namespace Go.Proofs.YtfcogjdnnnpmdaaDoor
open Go.RowKit
set_option maxRecDepth 20000

theorem btw_bd (f t : Int) (hf : inI f) (ht : inI t) : 0 ≤ btw f t ∧ btw f t ≤ 18446744073709551615 ∧ (f < t → f + btw f t = t) ∧ (t ≤ f → btw f t = 0) := by
  unfold btw
  obtain ⟨h1, h2⟩ := hf
  obtain ⟨h3, h4⟩ := ht
  refine ⟨?_, ?_, fun h => ?_, fun h => ?_⟩
  · split <;> omega
  · split <;> omega
  · rw [if_neg (by omega)]; omega
  · rw [if_pos h]

set_option maxHeartbeats 2000000 in
theorem at_any (l s u now : Int) (w : World) (hl : inI l) (hs : inI s) (hu : inI u) (hn : inI now) :
    Calls Tryd.prog 10 #[mV l s u, .int .i64 now] w fun r w' => r = .returned (mV (atL l s now) (atS l s now) (atU l s u now)) ∧ Below w.heap.size w w' := by
  obtain ⟨w0, hw0⟩ : ∃ w0, w0 = (w.alloc (.cells (mC l s u) 24)).alloc (.cells (mC 0 0 0) 24) := ⟨_, rfl⟩
  have hb0 : Below w.heap.size w w0 := by rw [hw0]; exact ((Below.refl _ _).alloc (Nat.le_refl _) _).alloc (by simp) _
  have hp0 : w0.heap[w.heap.size]? = some (.cells (mC l s u) 24 (0, 0)) := by rw [hw0]; exact (Below.heap_alloc _ _ _ (by simp)).trans (heap_alloc_new w _)
  have hq0 : w0.heap[w.heap.size + 1]? = some (.cells (mC 0 0 0) 24 (0, 0)) := by
    have := heap_alloc_new (w.alloc (.cells (mC l s u) 24)) (.cells (mC 0 0 0) 24)
    rw [World.size_alloc] at this
    rw [hw0]; exact this
  have f0 : ∀ i, w0.frozen? ⟨w.heap.size, i, none⟩ = false := fun i => frozen_of_row w0 _ i _ _ hp0
  have f1 : ∀ i, w0.frozen? ⟨w.heap.size + 1, i, none⟩ = false := fun i => frozen_of_row w0 _ i _ _ hq0
  have c0 := cell_of_row w0 w.heap.size 0 _ _ _ hp0
  have c1 := cell_of_row w0 w.heap.size 1 _ _ _ hp0
  have c2 := cell_of_row w0 w.heap.size 2 _ _ _ hp0
  have d0 := cell_of_row w0 (w.heap.size + 1) 0 _ _ _ hq0
  have d1 := cell_of_row w0 (w.heap.size + 1) 1 _ _ _ hq0
  have d2 := cell_of_row w0 (w.heap.size + 1) 2 _ _ _ hq0
  simp at c0 c1 c2 d0 d1 d2
  have HBW : Hid (∀ W, Calls Tryd.prog 28 #[.int .i64 s, .int .i64 now] W fun r w' => r = .returned (.int .u64 (btw s now)) ∧ w' = W) := fun W => between_any s now W hs hn
  have hbb := btw_bd s now hs hn
  have hL := lvl_bd l
  have hL3 : (l < 0 ∧ lvl l = 0) ∨ (¬ l < 0 ∧ 6 < l ∧ lvl l = 6) ∨ (¬ l < 0 ∧ ¬ 6 < l ∧ lvl l = l) := by
    unfold lvl
    by_cases h1 : l < 0
    · left; exact ⟨h1, by rw [if_pos h1]⟩
    · by_cases h2 : 6 < l
      · right; left; exact ⟨h1, h2, by rw [if_neg h1, if_pos h2]⟩
      · right; right; exact ⟨h1, h2, by rw [if_neg h1, if_neg h2]⟩
  obtain ⟨d, hd⟩ : ∃ d, dwn s now = d := ⟨_, rfl⟩
  have hd2 : btw s now / 10000 = d := hd
  have hin : inI (s + d * 10000) := by
    obtain ⟨e1, e2, e3, e4⟩ := hbb
    obtain ⟨g1, g2⟩ := hs
    obtain ⟨g3, g4⟩ := hn
    unfold inI
    by_cases h : s < now
    · have := e3 h; omega
    · have := e4 (by omega); omega
  obtain ⟨hin1, hin2⟩ := hin
  have hd0 : 0 ≤ d := by omega
  unfold atL atS atU
  rw [hd]
  generalize lvl l = L at *
  generalize btw s now = b at *
  obtain ⟨hl1, hl2⟩ := hl
  obtain ⟨hs1, hs2⟩ := hs
  obtain ⟨hu1, hu2⟩ := hu
  obtain ⟨hn1, hn2⟩ := hn
  obtain ⟨hL0, hL6⟩ := hL
  obtain ⟨hb1, hb2, -, -⟩ := hbb
  have H0 := Lib.hid hw0
  have HB0 := Lib.hid hb0
  clear hw0 hp0 hq0 hb0 hd
  have vu : IntKind.u64.wrap L = L := by rw [uw]; omega
  have vd : IntKind.i64.wrap d = d := IntWalk.i64_in _ (by omega)
  have bel : Hid (Below w.heap.size w w0) := HB0.out
  by_cases hlt : d < L <;> rcases hL3 with ⟨k1, rfl⟩ | ⟨k1, k2, rfl⟩ | ⟨k1, k2, rfl⟩
  · exfalso; omega
  all_goals first | simp only [if_pos hlt] | simp only [if_neg hlt]
  all_goals
    by_cases hun : u ≤ now
    all_goals
      try first | simp only [if_pos hun] | simp only [if_neg hun]
      go_enter Tryd.func10, Tryd.ntmps10
      go_upto_region 1 with (fail)
      rw [← H0.out]
      go_wp2_with fail
      refine (HBW.out _).mono ?_
      rintro e w1 ⟨rfl, rfl⟩
      go_wp2_with fail
      refine bodyPost_ret (v := mV _ _ _) ?_ rfl ⟨rfl, ?_⟩
      · simp [results, Tryd.results10, go_sem, d0, d1, d2]
      · repeat (first | with_reducible exact bel.out | with_reducible refine Below.setCell ?_ (by simp) _)

set_option maxHeartbeats 400000 in
theorem left_any (l s u now : Int) (w : World) (hu : inI u) (hn : inI now) :
    Calls Tryd.prog 14 #[mV l s u, .int .i64 now] w fun r w' => r = .returned (.int .i64 (min (btw now u) 9223372036854775807)) ∧ Below w.heap.size w w' := by
  obtain ⟨w0, hw0⟩ : ∃ w0, w0 = w.alloc (.cells (mC l s u) 24) := ⟨_, rfl⟩
  have hb0 : Below w.heap.size w w0 := by rw [hw0]; exact (Below.refl _ _).alloc (Nat.le_refl _) _
  have hp0 : w0.heap[w.heap.size]? = some (.cells (mC l s u) 24 (0, 0)) := by rw [hw0]; exact heap_alloc_new w _
  have c0 := cell_of_row w0 w.heap.size 0 _ _ _ hp0
  have c1 := cell_of_row w0 w.heap.size 1 _ _ _ hp0
  have c2 := cell_of_row w0 w.heap.size 2 _ _ _ hp0
  simp at c0 c1 c2
  have HBW : Hid (∀ W, Calls Tryd.prog 28 #[.int .i64 now, .int .i64 u] W fun r w' => r = .returned (.int .u64 (btw now u)) ∧ w' = W) := fun W => between_any now u W hn hu
  have hbb := btw_bd now u hn hu
  generalize btw now u = b at *
  obtain ⟨hb1, hb2, -, -⟩ := hbb
  have H0 := Lib.hid hw0
  have HB0 := Lib.hid hb0
  clear hw0 hp0 hb0
  by_cases h : 9223372036854775807 < b
  · rw [show min b 9223372036854775807 = 9223372036854775807 by omega]
    go_enter Tryd.func14, Tryd.ntmps14
    go_upto_region 1 with (fail)
    rw [← H0.out]
    go_wp2_with fail
    refine (HBW.out _).mono ?_
    rintro e w1 ⟨rfl, rfl⟩
    go_wp2_with fail
    go_ret
    exact ⟨rfl, HB0.out⟩
  · rw [show min b 9223372036854775807 = b by omega]
    have vd : IntKind.i64.wrap b = b := IntWalk.i64_in _ (by omega)
    go_enter Tryd.func14, Tryd.ntmps14
    go_upto_region 1 with (fail)
    rw [← H0.out]
    go_wp2_with fail
    refine (HBW.out _).mono ?_
    rintro e w1 ⟨rfl, rfl⟩
    go_wp2_with fail
    go_ret
    exact ⟨rfl, HB0.out⟩
/-- A mark of the document as the program's. -/
theorem own_any (l s u : Int) (w : World) : Calls Tryd.prog 9 #[mV l s u] w fun r w' => r = .returned (mV l s u) ∧ Below w.heap.size w w' := by
  obtain ⟨w0, hw0⟩ : ∃ w0, w0 = (w.alloc (.cells (mC l s u) 23)).alloc (.cells (mC 0 0 0) 24) := ⟨_, rfl⟩
  have hb0 : Below w.heap.size w w0 := by rw [hw0]; exact ((Below.refl _ _).alloc (Nat.le_refl _) _).alloc (by simp) _
  have hp0 : w0.heap[w.heap.size]? = some (.cells (mC l s u) 23 (0, 0)) := by rw [hw0]; exact (Below.heap_alloc _ _ _ (by simp)).trans (heap_alloc_new w _)
  have hq0 : w0.heap[w.heap.size + 1]? = some (.cells (mC 0 0 0) 24 (0, 0)) := by
    have := heap_alloc_new (w.alloc (.cells (mC l s u) 23)) (.cells (mC 0 0 0) 24)
    rw [World.size_alloc] at this
    rw [hw0]; exact this
  have f1 : ∀ i, w0.frozen? ⟨w.heap.size + 1, i, none⟩ = false := fun i => frozen_of_row w0 _ i _ _ hq0
  have c0 := cell_of_row w0 w.heap.size 0 _ _ _ hp0
  have c1 := cell_of_row w0 w.heap.size 1 _ _ _ hp0
  have c2 := cell_of_row w0 w.heap.size 2 _ _ _ hp0
  have d0 := cell_of_row w0 (w.heap.size + 1) 0 _ _ _ hq0
  have d1 := cell_of_row w0 (w.heap.size + 1) 1 _ _ _ hq0
  have d2 := cell_of_row w0 (w.heap.size + 1) 2 _ _ _ hq0
  simp at c0 c1 c2 d0 d1 d2
  have H0 := Lib.hid hw0
  have bel := Lib.hid hb0
  clear hw0 hp0 hq0 hb0
  go_enter Tryd.func9, Tryd.ntmps9
  go_upto_region 1 with (fail)
  rw [← H0.out]
  go_wp2_with fail
  refine bodyPost_ret (v := mV _ _ _) ?_ rfl ⟨rfl, ?_⟩
  · simp [results, Tryd.results9, go_sem, d0, d1, d2]
  · repeat (first | with_reducible exact bel.out | with_reducible refine Below.setCell ?_ (by simp) _)
end Go.Proofs.YtfcogjdnnnpmdaaDoor
