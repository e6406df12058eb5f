/- Penal: a mark at a time, the document's. -/
import Derived.Test.YtfcogjdnnnpmdaaDoorN3
import Derived.Deep.LoopGhost
namespace Go.Proofs.YtfcogjdnnnpmdaaDoor
open Go.RowKit
set_option maxRecDepth 20000

set_option linter.unusedSimpArgs false in
set_option maxHeartbeats 4000000 in
theorem rat_any (l s u now : Int) (w : World) (hs : inI s) (hu : inI u) (hn : inI now) :
    Calls Tryd.prog 11 #[mV l s u, .int .i64 now] w fun r w' => r = .returned (mV (atL l s now) (atS l s now) (atU l s u now)) ∧ Below w.heap.size w w' := by
  obtain ⟨w0, hw0⟩ : ∃ w0, w0 = (w.alloc (.cells (mC l s u) 23)).alloc (.cells (mC 0 0 0) 23) := ⟨_, rfl⟩
  have hb0 : Below w.heap.size w w0 := by rw [hw0]; exact ((Below.refl _ _).alloc (Nat.le_refl _) _).alloc (by simp) _
  have hp0 : w0.heap[w.heap.size]? = some (.cells (mC l s u) 23 (0, 0)) := by rw [hw0]; exact (Below.heap_alloc _ _ _ (by simp)).trans (heap_alloc_new w _)
  have hq0 : w0.heap[w.heap.size + 1]? = some (.cells (mC 0 0 0) 23 (0, 0)) := by
    have := heap_alloc_new (w.alloc (.cells (mC l s u) 23)) (.cells (mC 0 0 0) 23)
    rw [World.size_alloc] at this
    rw [hw0]; exact this
  have f0 : ∀ i, w0.frozen? ⟨w.heap.size, i, none⟩ = false := fun i => frozen_of_row w0 _ i _ _ hp0
  have c0 := cell_of_row w0 w.heap.size 0 _ _ _ hp0
  have c1 := cell_of_row w0 w.heap.size 1 _ _ _ hp0
  have c2 := cell_of_row w0 w.heap.size 2 _ _ _ hp0
  simp at c0 c1 c2
  have hbb := btw_bd s now hs hn
  have hd0 := dwn_nonneg s now hs hn
  have hL := lvl_bd l
  have HLV : Hid (∀ W, Calls Tryd.prog 29 #[.int .i64 l] W fun r w' => r = .returned (.int .i64 (lvl l)) ∧ w' = W) := fun W => level_any l W
  obtain ⟨d, hd⟩ : ∃ d, dwn s now = d := ⟨_, rfl⟩
  have hdm : btw s now = d * 10000 + btw s now % 10000 ∧ 0 ≤ btw s now % 10000 ∧ btw s now % 10000 < 10000 := by
    have e : btw s now / 10000 = d := hd
    omega
  unfold atL atS atU
  rw [hd] at hd0 ⊢
  generalize lvl l = L at *
  generalize btw s now = b at *
  obtain ⟨N, hN⟩ : ∃ N : Nat, (N : Int) = min d L := ⟨(min d L).toNat, by omega⟩
  have hN6 : N ≤ 6 := by omega
  have HNN : Hid ((N : Int) = min d L) := hN
  have HS := Lib.hid hs
  have HN := Lib.hid hn
  have HBB : Hid (0 ≤ b ∧ b ≤ 18446744073709551615 ∧ (s < now → s + b = now) ∧ (now ≤ s → b = 0)) := hbb
  have HDM := Lib.hid hdm
  have HL := Lib.hid hL
  have HD0 := Lib.hid hd0
  have H0 := Lib.hid hw0
  have HB0 := Lib.hid hb0
  have HP0 := Lib.hid hp0
  have HQ0 := Lib.hid hq0
  obtain ⟨R1, hR1⟩ : ∃ R, R = (if d < L then L - d else 0) := ⟨_, rfl⟩
  obtain ⟨R2, hR2⟩ : ∃ R, R = (if d < L then s + d * 10000 else 0) := ⟨_, rfl⟩
  obtain ⟨R3, hR3⟩ : ∃ R, R = (if d < L then u else if u ≤ now then 0 else u) := ⟨_, rfl⟩
  rw [← hR1, ← hR2, ← hR3]
  have HR1 := Lib.hid hR1
  have HR2 := Lib.hid hR2
  have HR3 := Lib.hid hR3
  clear hw0 hp0 hq0 hb0 hd hs hn hbb hdm hN hd0 hR1 hR2 hR3
  obtain ⟨hL0, hL6⟩ := hL
  obtain ⟨hu1, hu2⟩ := hu
  go_enter Tryd.func11, Tryd.ntmps11
  go_upto_region 1 with (fail)
  rw [← H0.out]
  go_wp2_with fail
  refine (HLV.out _).mono ?_
  rintro e w1 ⟨rfl, rfl⟩
  go_wp2_with fail
  go_loopg [] N (fun g wr => ∃ j : Nat, j + g = N ∧ Hid (wr.heap[w.heap.size]? = some (.cells (mC (L - j) (s + j * 10000) u) 23 (0, 0))) ∧ Hid (wr.heap[w.heap.size + 1]? = some (.cells (mC 0 0 0) 23 (0, 0))) ∧ Hid (Below w.heap.size w wr))
  case atStart =>
    refine ⟨0, by omega, ?_, ?_, ?_⟩
    · have h := heap_setCell_same w1 w.heap.size 0 _ 23 (.int .i64 L) HP0.out
      simpa [Hid] using h
    · exact (Below.heap_setCell _ _ _ _ (by show w.heap.size + 1 ≠ w.heap.size; omega)).trans HQ0.out
    · exact HB0.out.setCell (Nat.le_refl _) _
  case round =>
    clear c0 c1 c2 f0
    obtain ⟨j, hjg, hP, hQ, hB⟩ := hrel
    obtain ⟨x, hx⟩ : ∃ x, x = L - (j : Int) := ⟨_, rfl⟩
    obtain ⟨y, hy⟩ : ∃ y, y = s + (j : Int) * 10000 := ⟨_, rfl⟩
    rw [← hx, ← hy] at hP
    have c0 := cell_of_row wr w.heap.size 0 _ _ _ hP.out
    have c1 := cell_of_row wr w.heap.size 1 _ _ _ hP.out
    have c2 := cell_of_row wr w.heap.size 2 _ _ _ hP.out
    simp at c0 c1 c2
    have f0 : ∀ i, wr.frozen? ⟨w.heap.size, i, none⟩ = false := fun i => frozen_of_row wr _ i _ _ hP.out
    have hyI : inI y := by
      have h1 := HNN.out
      obtain ⟨g1, g2⟩ := HS.out
      obtain ⟨g3, g4⟩ := HN.out
      obtain ⟨e1, e2, e3, e4⟩ := HBB.out
      obtain ⟨m1, m2, m3⟩ := HDM.out
      unfold inI
      by_cases h : s < now
      · have := e3 h; omega
      · have := e4 (by omega); omega
    have HADD : Hid (∀ W, Calls Tryd.prog 30 #[.int .i64 y, .int .i64 10000] W fun r w' => r = .returned (.int .i64 (sadd y 10000)) ∧ w' = W) := fun W => radd_any y 10000 W hyI (by omega) (by omega)
    by_cases hg0 : gk = 0
    · have hjN : j = N := by omega
      have hways : (x = 0 ∧ d ≥ L) ∨ (0 < x ∧ d < L ∧ x = L - d ∧ y = s + d * 10000 ∧ (¬ y < now ∨ (y < now ∧ ¬ sadd y 10000 ≤ now) ∨ (y < now ∧ sadd y 10000 ≤ now ∧ sadd y 10000 - 10000 ≠ y))) := by
        have h1 := HNN.out
        obtain ⟨g1, g2⟩ := HS.out
        obtain ⟨g3, g4⟩ := HN.out
        obtain ⟨e1, e2, e3, e4⟩ := HBB.out
        obtain ⟨m1, m2, m3⟩ := HDM.out
        unfold sadd
        by_cases hdl : d < L
        · right
          refine ⟨by omega, hdl, by omega, by omega, ?_⟩
          by_cases h : s < now
          · have := e3 h
            by_cases q1 : y < now
            · right
              split <;> omega
            · left; exact q1
          · have := e4 (by omega)
            left; omega
        · left; omega
      have q5 := hQ.out
      have d0 := cell_of_row wr (w.heap.size + 1) 0 _ _ _ q5
      have d1 := cell_of_row wr (w.heap.size + 1) 1 _ _ _ q5
      have d2 := cell_of_row wr (w.heap.size + 1) 2 _ _ _ q5
      have f1 : ∀ i, wr.frozen? ⟨w.heap.size + 1, i, none⟩ = false := fun i => frozen_of_row wr _ i _ _ q5
      simp at d0 d1 d2
      have HSI : Hid (inI (sadd y 10000)) := (sadd_bd y 10000 hyI (by omega) (by omega)).1
      have hz3 : -9223372036854775808 ≤ sadd y 10000 - 10000 := by
        obtain ⟨e1, e2⟩ := hyI
        unfold sadd
        split <;> omega
      obtain ⟨z, hz⟩ : ∃ z, z = sadd y 10000 := ⟨_, rfl⟩
      rw [← hz] at HADD hways HSI hz3
      have hzI := HSI.out
      obtain ⟨hz1, hz2⟩ := hzI
      obtain ⟨hy1, hy2⟩ := hyI
      have vz : IntKind.i64.wrap (z - 10000) = z - 10000 ∨ True := .inr trivial
      clear hz hjg hx hjN hg0 q5 vz
      rcases hways with ⟨g1, g2⟩ | ⟨g1, g2, g3, g4, g5⟩
      · have e1 : R1 = 0 := by rw [HR1.out, if_neg (by omega)]
        have e2 : R2 = 0 := by rw [HR2.out, if_neg (by omega)]
        have HE3 : Hid (R3 = if u ≤ now then 0 else u) := by show _ = _; rw [HR3.out, if_neg (by omega)]
        subst e1 e2
        subst g1
        have x0 : decide ((0 : Int) < 0) = false := by decide
        clear hy g2
        by_cases hun : u ≤ now
        · have e3 : R3 = 0 := by rw [HE3.out, if_pos hun]
          subst e3
          go_wp2_with fail
          go_quiet (fail)
          go_wp2_with fail
          refine bodyPost_ret (v := mV _ _ _) ?_ rfl ⟨rfl, ?_⟩
          · simp [results, Tryd.results11, go_sem, d0, d1, d2]
          · repeat (first | with_reducible exact below_drewN hB.out _ | with_reducible exact hB.out | with_reducible refine Below.setCell ?_ (by simp) _)
        · have e3 : R3 = u := by rw [HE3.out, if_neg hun]
          subst e3
          go_wp2_with fail
          go_quiet (fail)
          go_wp2_with fail
          refine bodyPost_ret (v := mV _ _ _) ?_ rfl ⟨rfl, ?_⟩
          · simp [results, Tryd.results11, go_sem, d0, d1, d2]
          · repeat (first | with_reducible exact below_drewN hB.out _ | with_reducible exact hB.out | with_reducible refine Below.setCell ?_ (by simp) _)
      · have e1 : x = R1 := by rw [HR1.out, if_pos g2, g3]
        have e2 : y = R2 := by rw [HR2.out, if_pos g2, g4]
        have e3 : u = R3 := by rw [HR3.out, if_pos g2]
        subst e1 e2 e3
        have x0 : (x == 0) = false := by simp; omega
        clear hy g2 g3 g4
        rcases g5 with h1 | ⟨h1, h2⟩ | ⟨h1, h2, h3⟩
        · have q1 : decide (y < now) = false := by simpa using h1
          clear h1
          go_wp2_with fail
          go_quiet (fail)
          go_wp2_with fail
          refine bodyPost_ret (v := mV _ _ _) ?_ rfl ⟨rfl, ?_⟩
          · simp [results, Tryd.results11, go_sem, d0, d1, d2]
          · repeat (first | with_reducible exact below_drewN hB.out _ | with_reducible exact hB.out | with_reducible refine Below.setCell ?_ (by simp) _)
        · have q1 : decide (z ≤ now) = false := by simpa using h2
          clear h2
          go_wp2_with fail
          go_quiet ((go_at_call 30; exact Calls.quiet_of_same (HADD.out _)))
          go_wp2_with fail
          refine bodyPost_ret (v := mV _ _ _) ?_ rfl ⟨rfl, ?_⟩
          · simp [results, Tryd.results11, go_sem, d0, d1, d2]
          · repeat (first | with_reducible exact below_drewN hB.out _ | with_reducible exact hB.out | with_reducible refine Below.setCell ?_ (by simp) _)
        · have v1 : IntKind.i64.wrap (z - 10000) = z - 10000 := IntWalk.i64_in _ (by omega)
          have q1 : (z - 10000 == y) = false := by simpa using h3
          clear h3
          go_wp2_with fail
          go_quiet ((go_at_call 30; exact Calls.quiet_of_same (HADD.out _)))
          go_wp2_with fail
          refine bodyPost_ret (v := mV _ _ _) ?_ rfl ⟨rfl, ?_⟩
          · simp [results, Tryd.results11, go_sem, d0, d1, d2]
          · repeat (first | with_reducible exact below_drewN hB.out _ | with_reducible exact hB.out | with_reducible refine Below.setCell ?_ (by simp) _)
    · have hwork : 0 < x ∧ y < now ∧ sadd y 10000 = y + 10000 ∧ y + 10000 ≤ now := by
        have h1 := HNN.out
        obtain ⟨g1, g2⟩ := HS.out
        obtain ⟨g3, g4⟩ := HN.out
        obtain ⟨e1, e2, e3, e4⟩ := HBB.out
        obtain ⟨m1, m2, m3⟩ := HDM.out
        have hb : y + 10000 ≤ now := by
          by_cases h : s < now
          · have := e3 h; omega
          · have := e4 (by omega); omega
        unfold sadd
        refine ⟨by omega, by omega, ?_, hb⟩
        rw [if_neg (by omega)]
      obtain ⟨h1, h2, h3, h4⟩ := hwork
      rw [h3] at HADD
      have HNB := HN.out
      obtain ⟨hn1, hn2⟩ := HNB
      obtain ⟨hy1, hy2⟩ := hyI
      have hyy : IntKind.i64.wrap y = y := IntWalk.i64_in _ (by omega)
      have q1 : (IntKind.i64.wrap (y + 10000 - 10000) == y) = true := by rw [show y + 10000 - 10000 = y by omega, hyy]; simp
      have q2 : (IntKind.i64.wrap y == y) = true := by rw [hyy]; simp
      have q3 : (y == y) = true := by simp
      have hgk : 0 < gk := by omega
      clear hyy
      have HX := Lib.hid hx
      have HY := Lib.hid hy
      have hx6 : x ≤ 6 := by omega
      clear h3 hx hy hg0
      have HG : Hid (j + gk = N) := hjg
      clear hjg
      go_wp2_with fail
      go_quiet ((go_at_call 30; exact Calls.quiet_of_same (HADD.out _)))
      go_wp2_with fail
      go_roundg (gk - 1)
      case measure => omega
      case rel =>
        have hg := HG.out
        refine ⟨j + 1, by omega, ?_, ?_, ?_⟩
        · have e1 := heap_setCell_same _ w.heap.size 0 _ 23 (.int .i64 (x - 1)) hP.out
          have e2 := heap_setCell_same _ w.heap.size 1 _ 23 (.int .i64 (y + 10000)) e1
          show _ = _
          rw [show L - ((j + 1 : Nat) : Int) = x - 1 by rw [HX.out]; omega, show s + ((j + 1 : Nat) : Int) * 10000 = y + 10000 by rw [HY.out]; omega]
          exact e2
        · have hne : w.heap.size + 1 ≠ w.heap.size := by omega
          exact (Below.heap_setCell _ _ _ _ hne).trans ((Below.heap_setCell _ _ _ _ hne).trans hQ.out)
        · exact ((below_drewN hB.out _).setCell (Nat.le_refl _) _).setCell (Nat.le_refl _) _
end Go.Proofs.YtfcogjdnnnpmdaaDoor
