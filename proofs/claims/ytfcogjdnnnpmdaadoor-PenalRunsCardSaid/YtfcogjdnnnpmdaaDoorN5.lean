/- Penal: behind a hit, the document's; how much of a ban is left; awake. -/
import Derived.Test.YtfcogjdnnnpmdaaDoorN4
namespace Go.Proofs.YtfcogjdnnnpmdaaDoor
open Go.RowKit
set_option maxRecDepth 20000

abbrev ladV : Array Value := #[.int .i64 60, .int .i64 300, .int .i64 900, .int .i64 3600, .int .i64 14400, .int .i64 86400]
theorem ladV_cell (w : World) (k : Nat) (hk : k < 6) : (w.alloc (.cells ladV 2)).cell? ⟨w.heap.size, k, none⟩ = some (.int .i64 (ladAt k)) := by
  rw [cell_of_row _ _ _ _ _ _ (heap_alloc_new w _)]
  have e : ladV = (ladZ.map (Value.int .i64)).toArray := rfl
  have hl : k < ladZ.length := hk
  rw [e]
  simp [ladAt, hl]

set_option linter.unusedSimpArgs false in
set_option maxHeartbeats 1000000 in
theorem rleft_any (l s u now : Int) (w : World) (hu : inI u) (hn : inI now) :
    Calls Tryd.prog 15 #[mV l s u, .int .i64 now] w fun r w' => r = .returned (.int .i64 (min (btw now u) 9223372036854775807)) ∧ Below w.heap.size w w' := by
  obtain ⟨w0, hw0⟩ : ∃ w0, w0 = w.alloc (.cells (mC l s u) 23) := ⟨_, rfl⟩
  have hb0 : Below w.heap.size w w0 := by rw [hw0]; exact (Below.refl _ _).alloc (Nat.le_refl _) _
  have hp0 : w0.heap[w.heap.size]? = some (.cells (mC l s u) 23 (0, 0)) := by rw [hw0]; exact heap_alloc_new w _
  have c0 := cell_of_row w0 w.heap.size 0 _ _ _ hp0
  have c1 := cell_of_row w0 w.heap.size 1 _ _ _ hp0
  have c2 := cell_of_row w0 w.heap.size 2 _ _ _ hp0
  simp at c0 c1 c2
  have H0 := Lib.hid hw0
  have HB0 := Lib.hid hb0
  clear hw0 hp0 hb0
  obtain ⟨hu1, hu2⟩ := hu
  obtain ⟨hn1, hn2⟩ := hn
  unfold btw
  by_cases h : u ≤ now
  · rw [if_pos h, show min (0 : Int) 9223372036854775807 = 0 by decide]
    go_enter Tryd.func15, Tryd.ntmps15
    go_upto_region 1 with (fail)
    rw [← H0.out]
    go_wp2_with fail
    go_ret
    exact ⟨rfl, HB0.out⟩
  · rw [if_neg h]
    by_cases h2 : now < 0
    · by_cases h3 : 9223372036854775807 + now < u
      · rw [show min (u - now) 9223372036854775807 = 9223372036854775807 by omega]
        go_enter Tryd.func15, Tryd.ntmps15
        go_upto_region 1 with (fail)
        rw [← H0.out]
        go_wp2_with fail
        try go_quiet (fail)
        go_wp2_with fail
        go_ret
        exact ⟨rfl, by first | exact HB0.out | exact below_drewN HB0.out _⟩
      · rw [show min (u - now) 9223372036854775807 = u - now by omega]
        go_enter Tryd.func15, Tryd.ntmps15
        go_upto_region 1 with (fail)
        rw [← H0.out]
        go_wp2_with fail
        try go_quiet (fail)
        go_wp2_with fail
        go_ret
        exact ⟨rfl, by first | exact HB0.out | exact below_drewN HB0.out _⟩
    · rw [show min (u - now) 9223372036854775807 = u - now by omega]
      go_enter Tryd.func15, Tryd.ntmps15
      go_upto_region 1 with (fail)
      rw [← H0.out]
      go_wp2_with fail
      try go_quiet (fail)
      go_wp2_with fail
      go_ret
      exact ⟨rfl, by first | exact HB0.out | exact below_drewN HB0.out _⟩

set_option linter.unusedSimpArgs false in
set_option maxHeartbeats 1000000 in
theorem rhit_core (l s u now L S U M B R : Int) (w : World) (hA : ∀ W, Calls Tryd.prog 11 #[mV l s u, .int .i64 now] W fun r w' => r = .returned (mV L S U) ∧ Below W.heap.size W w') (hL : 0 ≤ L ∧ L ≤ 6) (hn : inI now) (hM : M = upL L) (hB : B = ban M now) (hR : (U < B ∧ R = B) ∨ (¬ U < B ∧ R = U)) :
    Calls Tryd.prog 13 #[mV l s u, .int .i64 now] w fun r w' => r = .returned (mV M now R) ∧ Below w.heap.size w w' := by
  obtain ⟨w0, hw0⟩ : ∃ w0, w0 = (w.alloc (.cells (mC l s u) 23)).alloc (.cells (mC 0 0 0) 23) := ⟨_, rfl⟩
  have hb0 : Below w.heap.size w w0 := by rw [hw0]; exact ((Below.refl _ _).alloc (Nat.le_refl _) _).alloc (by simp) _
  have hp0 : w0.heap[w.heap.size]? = some (.cells (mC l s u) 23 (0, 0)) := by rw [hw0]; exact (Below.heap_alloc _ _ _ (by simp)).trans (heap_alloc_new w _)
  have hq0 : w0.heap[w.heap.size + 1]? = some (.cells (mC 0 0 0) 23 (0, 0)) := by
    have := heap_alloc_new (w.alloc (.cells (mC l s u) 23)) (.cells (mC 0 0 0) 23)
    rw [World.size_alloc] at this
    rw [hw0]; exact this
  have c0 := cell_of_row w0 w.heap.size 0 _ _ _ hp0
  have c1 := cell_of_row w0 w.heap.size 1 _ _ _ hp0
  have c2 := cell_of_row w0 w.heap.size 2 _ _ _ hp0
  simp at c0 c1 c2
  have hM1 : 1 ≤ M ∧ M ≤ 6 := by rw [hM]; unfold upL; split <;> omega
  obtain ⟨j, hj⟩ : ∃ j : Nat, M - 1 = (j : Int) := ⟨(M - 1).toNat, by omega⟩
  have hj6 : j < 6 := by omega
  have HLV : Hid (∀ W, Calls Tryd.prog 29 #[.int .i64 (L + 1)] W fun r w' => r = .returned (.int .i64 M) ∧ w' = W) := fun W => by
    have e : M = lvl (L + 1) := by rw [hM]; unfold upL lvl; rw [if_neg (show ¬ L + 1 < 0 by omega)]
    rw [e]
    exact level_any _ W
  have HAD : Hid (∀ W, Calls Tryd.prog 30 #[.int .i64 now, .int .i64 (ladAt j)] W fun r w' => r = .returned (.int .i64 B) ∧ w' = W) := fun W => by
    have e : B = sadd now (ladAt j) := by rw [hB]; unfold ban; rw [show (M - 1).toNat = j by omega]
    rw [e]
    have := ladAt_bd j hj6
    exact radd_any now (ladAt j) W hn (by omega) (by omega)
  have HLC : Hid (∀ W : World, (W.alloc (.cells ladV 2)).cell? ⟨W.heap.size, j, none⟩ = some (.int .i64 (ladAt j))) := fun W => ladV_cell W j hj6
  generalize ladAt j = la at HLC HAD
  have HA := Lib.hid hA
  have H0 := Lib.hid hw0
  have HB0 := Lib.hid hb0
  have HP0 := Lib.hid hp0
  have HQ0 := Lib.hid hq0
  clear hA hw0 hp0 hq0 hb0 hB hM
  obtain ⟨hL0, hL6⟩ := hL
  go_enter Tryd.func13, Tryd.ntmps13
  go_upto_region 1 with (fail)
  rw [← H0.out]
  go_wp2_with fail
  refine (HA.out _).mono ?_
  rintro e w1 ⟨rfl, hb1⟩
  have hp1 : w1.heap[w.heap.size]? = some (.cells (mC l s u) 23 (0, 0)) := (hb1.block _ (lt_of_block HP0.out)).trans HP0.out
  have HQ1 : Hid (w1.heap[w.heap.size + 1]? = some (.cells (mC 0 0 0) 23 (0, 0))) := (hb1.block _ (lt_of_block HQ0.out)).trans HQ0.out
  have HB1 : Hid (Below w.heap.size w w1) := HB0.out.trans (hb1.mono HB0.out.size)
  have f0 : ∀ i, w1.frozen? ⟨w.heap.size, i, none⟩ = false := fun i => frozen_of_row w1 _ i _ _ hp1
  clear c0 c1 c2
  have c0 := cell_of_row w1 w.heap.size 0 _ _ _ hp1
  have c1 := cell_of_row w1 w.heap.size 1 _ _ _ hp1
  have c2 := cell_of_row w1 w.heap.size 2 _ _ _ hp1
  simp at c0 c1 c2
  have HP1 := Lib.hid hp1
  clear hp1 hb1
  go_wp2_with fail
  refine (HLV.out _).mono ?_
  rintro e w2 ⟨rfl, rfl⟩
  go_upto_region 4 with (fail)
  obtain ⟨w2, hw2⟩ : ∃ w2, w2 = ((((w1.setCell ⟨w.heap.size, 0, none⟩ (.int .i64 L)).setCell ⟨w.heap.size, 1, none⟩ (.int .i64 S)).setCell ⟨w.heap.size, 2, none⟩ (.int .i64 U)).setCell ⟨w.heap.size, 0, none⟩ (.int .i64 M)).setCell ⟨w.heap.size, 1, none⟩ (.int .i64 now) := ⟨_, rfl⟩
  rw [← hw2]
  have hp2 : w2.heap[w.heap.size]? = some (.cells (mC M now U) 23 (0, 0)) := by
    have e1 := heap_setCell_same w1 w.heap.size 0 _ 23 (.int .i64 L) HP1.out
    have e2 := heap_setCell_same _ w.heap.size 1 _ 23 (.int .i64 S) e1
    have e3 := heap_setCell_same _ w.heap.size 2 _ 23 (.int .i64 U) e2
    have e4 := heap_setCell_same _ w.heap.size 0 _ 23 (.int .i64 M) e3
    have e5 := heap_setCell_same _ w.heap.size 1 _ 23 (.int .i64 now) e4
    rw [hw2, e5]
    rfl
  have hq2 : w2.heap[w.heap.size + 1]? = some (.cells (mC 0 0 0) 23 (0, 0)) := by
    rw [hw2]
    have hne : w.heap.size + 1 ≠ w.heap.size := by omega
    rw [Below.heap_setCell _ _ _ _ hne, Below.heap_setCell _ _ _ _ hne, Below.heap_setCell _ _ _ _ hne, Below.heap_setCell _ _ _ _ hne, Below.heap_setCell _ _ _ _ hne]
    exact HQ1.out
  have HB2 : Hid (Below w.heap.size w w2) := by
    rw [hw2]
    exact ((((HB1.out.setCell (Nat.le_refl _) _).setCell (Nat.le_refl _) _).setCell (Nat.le_refl _) _).setCell (Nat.le_refl _) _).setCell (Nat.le_refl _) _
  clear hw2 c0 c1 c2 f0
  have c0 := cell_of_row w2 w.heap.size 0 _ _ _ hp2
  have c1 := cell_of_row w2 w.heap.size 1 _ _ _ hp2
  have c2 := cell_of_row w2 w.heap.size 2 _ _ _ hp2
  have d0 := cell_of_row w2 (w.heap.size + 1) 0 _ _ _ hq2
  have d1 := cell_of_row w2 (w.heap.size + 1) 1 _ _ _ hq2
  have d2 := cell_of_row w2 (w.heap.size + 1) 2 _ _ _ hq2
  have f0 : ∀ i, w2.frozen? ⟨w.heap.size, i, none⟩ = false := fun i => frozen_of_row w2 _ i _ _ hp2
  have f1 : ∀ i, w2.frozen? ⟨w.heap.size + 1, i, none⟩ = false := fun i => frozen_of_row w2 _ i _ _ hq2
  simp at c0 c1 c2 d0 d1 d2
  have hsz : w.heap.size + 1 < w2.heap.size := lt_of_block hq2
  have hlc := HLC.out w2
  have hbl : Below w2.heap.size w2 (w2.alloc (.cells ladV 2)) := (Below.refl _ _).alloc (Nat.le_refl _) _
  have hs0 : w.heap.size < w2.heap.size := by omega
  have x0 := (hbl.cell (p := ⟨w.heap.size, 0, none⟩) hs0).trans c0
  have x1 := (hbl.cell (p := ⟨w.heap.size, 1, none⟩) hs0).trans c1
  have x2 := (hbl.cell (p := ⟨w.heap.size, 2, none⟩) hs0).trans c2
  have y0 := (hbl.cell (p := ⟨w.heap.size + 1, 0, none⟩) hsz).trans d0
  have y1 := (hbl.cell (p := ⟨w.heap.size + 1, 1, none⟩) hsz).trans d1
  have y2 := (hbl.cell (p := ⟨w.heap.size + 1, 2, none⟩) hsz).trans d2
  have f2 : ∀ i, (w2.alloc (.cells ladV 2)).frozen? ⟨w.heap.size, i, none⟩ = false := fun i => (hbl.frozen (p := ⟨w.heap.size, i, none⟩) hs0).trans (f0 i)
  have f3 : ∀ i, (w2.alloc (.cells ladV 2)).frozen? ⟨w.heap.size + 1, i, none⟩ = false := fun i => (hbl.frozen (p := ⟨w.heap.size + 1, i, none⟩) hsz).trans (f1 i)
  have HB3 : Hid (Below w.heap.size w (w2.alloc (.cells ladV 2))) := HB2.out.alloc HB2.out.size _
  clear hp2 hq2 hbl c0 c1 c2 d0 d1 d2 f0 f1
  obtain ⟨w3, hw3⟩ : ∃ w3, w3 = w2.alloc (.cells ladV 2) := ⟨_, rfl⟩
  have H3 := Lib.hid hw3
  clear hw3
  rcases hR with ⟨h1, rfl⟩ | ⟨h1, rfl⟩
  all_goals
    go_wp2_with fail
    rw [← H3.out]
    have X0 : w3.cell? ⟨w.heap.size, 0, none⟩ = some (.int .i64 M) := by rw [H3.out]; exact x0
    have X1 : w3.cell? ⟨w.heap.size, 1, none⟩ = some (.int .i64 now) := by rw [H3.out]; exact x1
    have X2 := x2
    rw [← H3.out] at X2
    have Y0 : w3.cell? ⟨w.heap.size + 1, 0, none⟩ = some (.int .i64 0) := by rw [H3.out]; exact y0
    have Y1 : w3.cell? ⟨w.heap.size + 1, 1, none⟩ = some (.int .i64 0) := by rw [H3.out]; exact y1
    have Y2 : w3.cell? ⟨w.heap.size + 1, 2, none⟩ = some (.int .i64 0) := by rw [H3.out]; exact y2
    have F2 : ∀ i, w3.frozen? ⟨w.heap.size, i, none⟩ = false := by rw [H3.out]; exact f2
    have F3 : ∀ i, w3.frozen? ⟨w.heap.size + 1, i, none⟩ = false := by rw [H3.out]; exact f3
    have HB4 : Hid (Below w.heap.size w w3) := by rw [H3.out]; exact HB3.out
    clear x0 x1 x2 y0 y1 y2 f2 f3 HB3
    refine (HAD.out _).mono ?_
    rintro e w4 ⟨rfl, rfl⟩
    go_wp2_with fail
    refine bodyPost_ret (v := mV _ _ _) ?_ rfl ⟨rfl, ?_⟩
    · simp [results, Tryd.results13, go_sem, Y0, Y1, Y2]
    · repeat (first | with_reducible exact HB4.out | with_reducible refine Below.setCell ?_ (by simp) _)
theorem rhit_any (l s u now : Int) (w : World) (hs : inI s) (hu : inI u) (hn : inI now) :
    Calls Tryd.prog 13 #[mV l s u, .int .i64 now] w fun r w' => r = .returned (mV (hitL l s now) now (hitU l s u now)) ∧ Below w.heap.size w w' := by
  have hL := atL_bd l s now (dwn_nonneg s now hs hn)
  refine rhit_core l s u now (atL l s now) (atS l s now) (atU l s u now) (hitL l s now) (ban (hitL l s now) now) (hitU l s u now) w (fun W => rat_any l s u now W hs hu hn) hL hn rfl rfl ?_
  unfold hitU
  omega
end Go.Proofs.YtfcogjdnnnpmdaaDoor
