/- Plan: PlanWidens' walk. -/
import Derived.Test.YtpomddmeachbbaaP6
import Derived.Test.YtpomddmeachbbaaP7
import Derived.Test.YtpomddmeachbbaaP8
namespace Go.Proofs.Ytpomddmeachbbaa
open Go.RowKit
set_option maxRecDepth 20000

theorem wrap_i64 (n : Int) : IntKind.i64.wrap n = wrap64 n := by
  rw [IntKind.wrap_i64, wrap64]
theorem steps_mono {e x y : Int} (he : 1 ≤ e) (h : x ≤ y) : max x 0 / e ≤ max y 0 / e := Int.ediv_le_ediv (by omega) (by omega)
theorem win_right {k b s c e : Int} (he : (wrongM k b s c e).isEmpty = true) (x : Int) : win k b s c e x = min (b + s * min (max x 0 / e) 10000) c := by rw [win, if_pos he]
theorem win_lo {k b s c e : Int} (he : (wrongM k b s c e).isEmpty = true) (x : Int) : b ≤ win k b s c e x := by
  obtain ⟨-, -, ⟨hs, -⟩, -, hbc, he1, -⟩ := wrongM_bounds he
  rw [win_right he]
  have hq : 0 ≤ max x 0 / e := Int.ediv_nonneg (by omega) (by omega)
  have := Int.mul_nonneg hs (show 0 ≤ min (max x 0 / e) 10000 by omega)
  omega
theorem win_hi {k b s c e : Int} (he : (wrongM k b s c e).isEmpty = true) (x : Int) : win k b s c e x ≤ c := by
  rw [win_right he]
  omega
theorem win_mono {k b s c e : Int} (he : (wrongM k b s c e).isEmpty = true) {x y : Int} (h : x ≤ y) : win k b s c e x ≤ win k b s c e y := by
  obtain ⟨-, -, ⟨hs, -⟩, -, hbc, he1, -⟩ := wrongM_bounds he
  rw [win_right he, win_right he]
  have hq := steps_mono he1 h
  have := Int.mul_le_mul_of_nonneg_left (show min (max x 0 / e) 10000 ≤ min (max y 0 / e) 10000 by omega) hs
  omega
theorem win_early {k b s c e : Int} (he : (wrongM k b s c e).isEmpty = true) {x : Int} (h : x < e) : win k b s c e x = b := by
  obtain ⟨-, -, ⟨hs, -⟩, -, hbc, he1, -⟩ := wrongM_bounds he
  rw [win_right he, Int.ediv_eq_zero_of_lt (by omega) (by omega), show min (0 : Int) 10000 = 0 from rfl, Int.mul_zero]
  omega
theorem win_flat {k b c e : Int} (he : (wrongM k b 0 c e).isEmpty = true) (x : Int) : win k b 0 c e x = b := by
  obtain ⟨-, -, -, -, hbc, he1, -⟩ := wrongM_bounds he
  rw [win_right he]
  simp
  omega
theorem win_cap {k b s c e : Int} (he : (wrongM k b s c e).isEmpty = true) (hs0 : s ≠ 0) : win k b s c e (wrap64 (c * e)) = c := by
  obtain ⟨-, ⟨hb, -⟩, ⟨hs, -⟩, ⟨hc, hc2⟩, hbc, he1, he2⟩ := wrongM_bounds he
  have h1 : 0 ≤ c * e := Int.mul_nonneg hc (by omega)
  have h2 : c * e ≤ 10000 * 1099511627776 := by
    calc c * e ≤ 10000 * e := Int.mul_le_mul_of_nonneg_right hc2 (by omega)
      _ ≤ 10000 * 1099511627776 := Int.mul_le_mul_of_nonneg_left he2 (by omega)
  rw [wr64 (by omega) (by omega), win_right he, Int.max_eq_left h1, Int.mul_ediv_cancel _ (by omega), Int.min_eq_left hc2]
  have h3 : c ≤ s * c := by
    have := Int.mul_le_mul_of_nonneg_right (show (1 : Int) ≤ s by omega) hc
    omega
  omega

set_option linter.unusedSimpArgs false in
set_option maxHeartbeats 20000000 in
theorem widens_walk (k b s c e x y : Int) (w : World) (hx : -9223372036854775808 ≤ x ∧ x ≤ 9223372036854775807) (hy : -9223372036854775808 ≤ y ∧ y ≤ 9223372036854775807) :
    Calls Try.prog 6 #[mV k b s c e, .agg #[.int .i64 x, .int .i64 y]] w fun r w' => r = .returned (.bool true) ∧ Below w.heap.size w w' := by
  obtain ⟨w0, hw0⟩ : ∃ w0, w0 = (w.alloc (.cells (mCells k b s c e) 26)).alloc (.cells #[.int .i64 x, .int .i64 y] 50) := ⟨_, rfl⟩
  have hb0 : Below w.heap.size w w0 := by rw [hw0]; exact ((Below.refl _ _).alloc (Nat.le_refl _) _).alloc (by simp) _
  have hp0 : w0.heap[w.heap.size]? = some (.cells (mCells k b s c e) 26 (0, 0)) := by rw [hw0]; exact (Below.heap_alloc _ _ _ (by simp)).trans (heap_alloc_new w _)
  have hq0 : w0.heap[w.heap.size + 1]? = some (.cells #[.int .i64 x, .int .i64 y] 50 (0, 0)) := by
    have := heap_alloc_new (w.alloc (.cells (mCells k b s c e) 26)) (.cells #[.int .i64 x, .int .i64 y] 50)
    rw [World.size_alloc] at this
    rw [hw0]; exact this
  have c0 := cell_of_row w0 w.heap.size 0 _ _ _ hp0
  have c1 := cell_of_row w0 w.heap.size 1 _ _ _ hp0
  have c2 := cell_of_row w0 w.heap.size 2 _ _ _ hp0
  have c3 := cell_of_row w0 w.heap.size 3 _ _ _ hp0
  have c4 := cell_of_row w0 w.heap.size 4 _ _ _ hp0
  simp at c0 c1 c2 c3 c4
  obtain ⟨Q, hQ⟩ : ∃ Q, Q = w.heap.size + 1 := ⟨_, rfl⟩
  rw [← hQ] at hq0
  obtain ⟨mw, hmw⟩ : ∃ mw, mw = wrongM k b s c e := ⟨_, rfl⟩
  have HW0 : Hid (∀ W, Calls Try.prog 16 #[mV k b s c e] W fun r w' => r = .returned (sV mw) ∧ Below W.heap.size W w') := fun W => by rw [hmw]; exact wrongM_any k b s c e W
  obtain ⟨A, hA⟩ : ∃ A, A = win k b s c e x := ⟨_, rfl⟩
  obtain ⟨B, hB⟩ : ∃ B, B = win k b s c e y := ⟨_, rfl⟩
  have HW1 : Hid (∀ W, Calls Try.prog 19 #[mV k b s c e, .int .i64 x] W fun r w' => r = .returned (.int .i64 A) ∧ Below W.heap.size W w') := fun W => by rw [hA]; exact window_any k b s c e x W hx
  have HW2 : Hid (∀ W, Calls Try.prog 19 #[mV k b s c e, .int .i64 y] W fun r w' => r = .returned (.int .i64 B) ∧ Below W.heap.size W w') := fun W => by rw [hB]; exact window_any k b s c e y W hy
  have H0 := Lib.hid hw0
  have HB0 := Lib.hid hb0
  have HQ := Lib.hid hQ
  have HQ0 := Lib.hid hq0
  have HMW := Lib.hid hmw
  have HA := Lib.hid hA
  have HB := Lib.hid hB
  have HCM : Hid (∀ W, Calls Try.prog 15 #[mV k b s c e] W fun r w' => r = .returned (mV k b s c e) ∧ Below W.heap.size W w') := fun W => mode_any k b s c e W
  clear hw0 hb0 hp0 hq0 hmw hA hB
  go_enter Try.func6, Try.ntmps6
  go_upto_region 1 with (fail)
  rw [← H0.out, ← hQ]
  clear hQ
  go_wp2_with fail
  refine (HCM.out w0).mono ?_
  rintro r w1 ⟨rfl, hb1⟩
  obtain ⟨w2, hw2⟩ : ∃ w2, w2 = w1.alloc (.cells (mCells k b s c e) 35) := ⟨_, rfl⟩
  have hp2 : w2.heap[w1.heap.size]? = some (.cells (mCells k b s c e) 35 (0, 0)) := by rw [hw2]; exact heap_alloc_new w1 _
  have hb2 : Below w0.heap.size w0 w2 := by rw [hw2]; exact hb1.alloc hb1.size _
  have hq2 := (hb2.block Q (lt_of_block HQ0.out)).trans HQ0.out
  have H2 := Lib.hid hw2
  obtain ⟨P, hP⟩ : ∃ P, P = w1.heap.size := ⟨_, rfl⟩
  have HP := Lib.hid hP
  rw [← hP] at hp2
  have HCE : Hid (∀ W, Below w2.heap.size w2 W → (W.cell? ⟨P, 0, none⟩ = some (.int .i64 k) ∧ W.cell? ⟨P, 1, none⟩ = some (.int .i64 b) ∧ W.cell? ⟨P, 2, none⟩ = some (.int .i64 s) ∧ W.cell? ⟨P, 3, none⟩ = some (.int .i64 c) ∧ W.cell? ⟨P, 4, none⟩ = some (.int .i64 e)) ∧ W.cell? ⟨Q, 0, none⟩ = some (.int .i64 x) ∧ W.cell? ⟨Q, 1, none⟩ = some (.int .i64 y)) := fun W hW => by
    have e1 := (hW.block _ (lt_of_block hp2)).trans hp2
    have e2 := (hW.block _ (lt_of_block hq2)).trans hq2
    exact ⟨⟨cell_of_row W _ 0 _ _ _ e1, cell_of_row W _ 1 _ _ _ e1, cell_of_row W _ 2 _ _ _ e1, cell_of_row W _ 3 _ _ _ e1, cell_of_row W _ 4 _ _ _ e1⟩, cell_of_row W _ 0 _ _ _ e2, cell_of_row W _ 1 _ _ _ e2⟩
  have HB2 := Lib.hid (HB0.out.trans (hb2.mono HB0.out.size))
  have HBr : Hid (Below w2.heap.size w2 w2) := Below.refl _ _
  clear hb1 hw2 hp2 hb2 hq2 hP c0 c1 c2 c3 c4
  go_upto_region 2 with (fail)
  rw [← H2.out, ← HP.out]
  obtain ⟨⟨c0, c1, c2, c3, c4⟩, d0, d1⟩ := HCE.out w2 HBr.out
  go_wp2_with fail
  refine (HW0.out w2).mono ?_
  rintro r w3 ⟨rfl, hb3⟩
  have HB3 := Lib.hid hb3
  clear hb3 c0 c1 c2 c3 c4 d0 d1 HBr
  by_cases he : mw.isEmpty = true
  · have hr : (wrongM k b s c e).isEmpty = true := by rw [← HMW.out]; exact he
    have a1 : b ≤ A := by rw [HA.out]; exact win_lo hr x
    have a2 : A ≤ c := by rw [HA.out]; exact win_hi hr x
    have a3 : x ≤ y → A ≤ B := fun h => by rw [HA.out, HB.out]; exact win_mono hr h
    have a4 : x < e → A = b := fun h => by rw [HA.out]; exact win_early hr h
    have a5 : s = 0 → A = b := fun h => by rw [HA.out]; subst h; exact win_flat hr x
    have a6 : s ≠ 0 → win k b s c e (wrap64 (c * e)) = c := fun h => win_cap hr h
    have hbb : -9223372036854775808 ≤ wrap64 (c * e) ∧ wrap64 (c * e) ≤ 9223372036854775807 := by unfold wrap64; omega
    have A5 := Lib.hid a5
    have A6 := Lib.hid a6
    have hre := Lib.hid hr
    clear a5 a6 hr
    have HBr := HB3
    go_upto_region 4 with (fail)
    have HDa : Hid (Below w2.heap.size w2 w3.drew) := HBr.out.drew
    refine wp_region_held_drew (S := fun W : World => (W.cell? ⟨P, 0, none⟩ = some (.int .i64 k) ∧ W.cell? ⟨P, 1, none⟩ = some (.int .i64 b) ∧ W.cell? ⟨P, 2, none⟩ = some (.int .i64 s) ∧ W.cell? ⟨P, 3, none⟩ = some (.int .i64 c) ∧ W.cell? ⟨P, 4, none⟩ = some (.int .i64 e)) ∧ W.cell? ⟨Q, 0, none⟩ = some (.int .i64 x) ∧ W.cell? ⟨Q, 1, none⟩ = some (.int .i64 y)) (by kernel_rfl) (HCE.out _ (HDa.out)) (fun hHeld => ?_)
    obtain ⟨Wa0, hW0⟩ : ∃ W0, W0 = w3.drew := ⟨_, rfl⟩
    rw [← hW0] at hHeld HDa ⊢
    clear hW0
    refine wpAnyH_take (i := 0) (oi := ?oi0a) (v := ?v0a) ?hi0a ?hs0a ?hf0a ?hr0a ?hQ0a ?hy0a ?hS0a ?h0a
    case hi0a => exact (by simp only [List.getElem?_toArray, List.getElem?_cons_zero]; rfl)
    case hs0a => kernel_rfl
    case hf0a => kernel_rfl
    case hr0a => kernel_rfl
    case hQ0a => exact fun _ _ _ h => h
    case hy0a =>
      refine Or.inl ⟨rfl, ?_⟩
      intro W hSw
      obtain ⟨⟨y0, y1, y2, y3, y4⟩, z0, z1⟩ := hSw
      go_simp
      try with_reducible rfl
    case hS0a => assumption
    try simp only [Act.put, List.setIfInBounds_toArray, List.set_cons_zero, List.set_cons_succ]
    refine wpAnyH_take (i := 1) (oi := ?oi1a) (v := ?v1a) ?hi1a ?hs1a ?hf1a ?hr1a ?hQ1a ?hy1a ?hS1a ?h1a
    case hi1a => exact (by simp only [List.getElem?_toArray, List.getElem?_cons_succ, List.getElem?_cons_zero]; rfl)
    case hs1a => kernel_rfl
    case hf1a => kernel_rfl
    case hr1a => kernel_rfl
    case hQ1a => exact fun _ _ _ h => h
    case hy1a =>
      refine Or.inl ⟨rfl, ?_⟩
      intro W hSw
      obtain ⟨⟨y0, y1, y2, y3, y4⟩, z0, z1⟩ := hSw
      go_simp
      try with_reducible rfl
    case hS1a => assumption
    try simp only [Act.put, List.setIfInBounds_toArray, List.set_cons_zero, List.set_cons_succ]
    refine wpAnyH_take (i := 2) (oi := ?oi2a) (v := ?v2a) ?hi2a ?hs2a ?hf2a ?hr2a ?hQ2a ?hy2a ?hS2a ?h2a
    case hi2a => exact (by simp only [List.getElem?_toArray, List.getElem?_cons_succ, List.getElem?_cons_zero]; rfl)
    case hs2a => kernel_rfl
    case hf2a => kernel_rfl
    case hr2a => kernel_rfl
    case hQ2a => exact fun _ _ _ h => h
    case hy2a =>
      refine Or.inl ⟨rfl, ?_⟩
      intro W hSw
      obtain ⟨⟨y0, y1, y2, y3, y4⟩, z0, z1⟩ := hSw
      go_simp
      try with_reducible rfl
    case hS2a => assumption
    try simp only [Act.put, List.setIfInBounds_toArray, List.set_cons_zero, List.set_cons_succ]
    refine wpAnyH_take (i := 4) (oi := ?oi4a) (v := ?v4a) ?hi4a ?hs4a ?hf4a ?hr4a ?hQ4a ?hy4a ?hS4a ?h4a
    case hi4a => exact (by simp only [List.getElem?_toArray, List.getElem?_cons_succ, List.getElem?_cons_zero]; rfl)
    case hs4a => kernel_rfl
    case hf4a => kernel_rfl
    case hr4a => kernel_rfl
    case hQ4a => exact fun _ _ _ h => h
    case hy4a =>
      refine Or.inl ⟨rfl, ?_⟩
      intro W hSw
      obtain ⟨⟨y0, y1, y2, y3, y4⟩, z0, z1⟩ := hSw
      go_simp
      try with_reducible rfl
    case hS4a => assumption
    try simp only [Act.put, List.setIfInBounds_toArray, List.set_cons_zero, List.set_cons_succ]
    refine wpAnyH_take (i := 5) (oi := ?oi5a) (v := ?v5a) ?hi5a ?hs5a ?hf5a ?hr5a ?hQ5a ?hy5a ?hS5a ?h5a
    case hi5a => exact (by simp only [List.getElem?_toArray, List.getElem?_cons_succ, List.getElem?_cons_zero]; rfl)
    case hs5a => kernel_rfl
    case hf5a => kernel_rfl
    case hr5a => kernel_rfl
    case hQ5a => exact fun _ _ _ h => h
    case hy5a =>
      refine Or.inl ⟨rfl, ?_⟩
      intro W hSw
      obtain ⟨⟨y0, y1, y2, y3, y4⟩, z0, z1⟩ := hSw
      go_simp
      try with_reducible rfl
    case hS5a => assumption
    try simp only [Act.put, List.setIfInBounds_toArray, List.set_cons_zero, List.set_cons_succ]
    refine wpAnyH_take (i := 6) (oi := ?oi6a) (v := ?v6a) ?hi6a ?hs6a ?hf6a ?hr6a ?hQ6a ?hy6a ?hS6a ?h6a
    case hi6a => exact (by simp only [List.getElem?_toArray, List.getElem?_cons_succ, List.getElem?_cons_zero]; rfl)
    case hs6a => kernel_rfl
    case hf6a => kernel_rfl
    case hr6a => kernel_rfl
    case hQ6a => exact fun _ _ _ h => h
    case hy6a =>
      refine Or.inl ⟨rfl, ?_⟩
      intro W hSw
      obtain ⟨⟨y0, y1, y2, y3, y4⟩, z0, z1⟩ := hSw
      go_simp
      try with_reducible rfl
    case hS6a => assumption
    try simp only [Act.put, List.setIfInBounds_toArray, List.set_cons_zero, List.set_cons_succ]
    refine wpAnyH_ready (rs := [3]) (by kernel_rfl) (by simp) ?_
    refine AllReadyH.cons (o := _) rfl (fun K hK => ?_) AllReadyH.nil
    go_simp
    refine (HW1.out Wa0).mono ?_
    rintro r Wa1 ⟨rfl, hbq⟩
    have HBa1 := Lib.hid (HDa.out.trans (hbq.mono HDa.out.size))
    clear hbq
    refine hK.out _ _ (HCE.out _ (HBa1.out)) (fun hHeld => ?_)
    clear hK K
    try simp only [Act.put, List.setIfInBounds_toArray, List.set_cons_zero, List.set_cons_succ]
    refine wpAnyH_ready (rs := [7]) (by kernel_rfl) (by simp) ?_
    refine AllReadyH.cons (o := _) rfl (fun K hK => ?_) AllReadyH.nil
    go_simp
    refine (HW2.out Wa1).mono ?_
    rintro r Wa2 ⟨rfl, hbq⟩
    have HBa2 := Lib.hid (HBa1.out.trans (hbq.mono HBa1.out.size))
    clear hbq
    refine hK.out _ _ (HCE.out _ (HBa2.out)) (fun hHeld => ?_)
    clear hK K
    try simp only [Act.put, List.setIfInBounds_toArray, List.set_cons_zero, List.set_cons_succ]
    refine wpAnyH_take (i := 8) (oi := ?oi8a) (v := ?v8a) ?hi8a ?hs8a ?hf8a ?hr8a ?hQ8a ?hy8a ?hS8a ?h8a
    case hi8a => exact (by simp only [List.getElem?_toArray, List.getElem?_cons_succ, List.getElem?_cons_zero]; rfl)
    case hs8a => kernel_rfl
    case hf8a => kernel_rfl
    case hr8a => kernel_rfl
    case hQ8a => exact fun _ _ _ h => h
    case hy8a =>
      refine Or.inl ⟨rfl, ?_⟩
      intro W hSw
      obtain ⟨⟨y0, y1, y2, y3, y4⟩, z0, z1⟩ := hSw
      go_simp
      try with_reducible rfl
    case hS8a => assumption
    try simp only [Act.put, List.setIfInBounds_toArray, List.set_cons_zero, List.set_cons_succ]
    refine wpAnyH_take (i := 9) (oi := ?oi9a) (v := ?v9a) ?hi9a ?hs9a ?hf9a ?hr9a ?hQ9a ?hy9a ?hS9a ?h9a
    case hi9a => exact (by simp only [List.getElem?_toArray, List.getElem?_cons_succ, List.getElem?_cons_zero]; rfl)
    case hs9a => kernel_rfl
    case hf9a => kernel_rfl
    case hr9a => kernel_rfl
    case hQ9a => exact fun _ _ _ h => h
    case hy9a =>
      refine Or.inl ⟨rfl, ?_⟩
      intro W hSw
      obtain ⟨⟨y0, y1, y2, y3, y4⟩, z0, z1⟩ := hSw
      go_simp
      try with_reducible rfl
    case hS9a => assumption
    try simp only [Act.put, List.setIfInBounds_toArray, List.set_cons_zero, List.set_cons_succ]
    refine wpAnyH_done (by kernel_rfl) ?_ _
    clear HW0 HW1 HW2
    obtain ⟨⟨c0, c1, c2, c3, c4⟩, d0, d1⟩ := HCE.out Wa2 HBa2.out
    go_upto_region 5 with (fail)
    go_cut [63] (fun v wx => v = .bool false ∧ Wa2 = wx)
    case first =>
      by_cases hxy : x ≤ y
      · have a3' := a3 hxy
        by_cases hxe : x < e
        · have a4' := (a4 hxe).symm
          subst a4'
          go_wp2
          go_meet
          exact ⟨by simp <;> omega, rfl⟩
        · go_wp2
          go_meet
          exact ⟨by simp <;> omega, rfl⟩
      · by_cases hxe : x < e
        · have a4' := (a4 hxe).symm
          subst a4'
          go_wp2
          go_meet
          exact ⟨by simp <;> omega, rfl⟩
        · go_wp2
          go_meet
          exact ⟨by simp <;> omega, rfl⟩
    case rest =>
      obtain ⟨rfl, rfl⟩ := hcut
      go_upto_region 7 with (fail)
      clear c0 c1 c2 c3 c4 d0 d1 a1 a2 a3 a4
      by_cases hs : s = 0
      · have a5 := (A5.out hs).symm
        subst a5
        subst hs
        have HDu : Hid (Below w2.heap.size w2 Wa2.drew) := HBa2.out.drew
        refine wp_region_held_drew (S := fun W : World => (W.cell? ⟨P, 0, none⟩ = some (.int .i64 k) ∧ W.cell? ⟨P, 1, none⟩ = some (.int .i64 b) ∧ W.cell? ⟨P, 2, none⟩ = some (.int .i64 0) ∧ W.cell? ⟨P, 3, none⟩ = some (.int .i64 c) ∧ W.cell? ⟨P, 4, none⟩ = some (.int .i64 e)) ∧ W.cell? ⟨Q, 0, none⟩ = some (.int .i64 x) ∧ W.cell? ⟨Q, 1, none⟩ = some (.int .i64 y)) (by kernel_rfl) (HCE.out _ (HDu.out)) (fun hHeld => ?_)
        obtain ⟨Wu0, hW0⟩ : ∃ W0, W0 = Wa2.drew := ⟨_, rfl⟩
        rw [← hW0] at hHeld HDu ⊢
        clear hW0
        refine wpAnyH_take (i := 0) (oi := ?oi0u) (v := ?v0u) ?hi0u ?hs0u ?hf0u ?hr0u ?hQ0u ?hy0u ?hS0u ?h0u
        case hi0u => exact (by simp only [List.getElem?_toArray, List.getElem?_cons_zero]; rfl)
        case hs0u => kernel_rfl
        case hf0u => kernel_rfl
        case hr0u => kernel_rfl
        case hQ0u => exact fun _ _ _ h => h
        case hy0u =>
          refine Or.inl ⟨rfl, ?_⟩
          intro W hSw
          obtain ⟨⟨y0, y1, y2, y3, y4⟩, z0, z1⟩ := hSw
          go_simp
          try with_reducible rfl
        case hS0u => assumption
        try simp only [Act.put, List.setIfInBounds_toArray, List.set_cons_zero, List.set_cons_succ]
        refine wpAnyH_take (i := 1) (oi := ?oi1u) (v := ?v1u) ?hi1u ?hs1u ?hf1u ?hr1u ?hQ1u ?hy1u ?hS1u ?h1u
        case hi1u => exact (by simp only [List.getElem?_toArray, List.getElem?_cons_succ, List.getElem?_cons_zero]; rfl)
        case hs1u => kernel_rfl
        case hf1u => kernel_rfl
        case hr1u => kernel_rfl
        case hQ1u => exact fun _ _ _ h => h
        case hy1u =>
          refine Or.inl ⟨rfl, ?_⟩
          intro W hSw
          obtain ⟨⟨y0, y1, y2, y3, y4⟩, z0, z1⟩ := hSw
          go_simp
          try with_reducible rfl
        case hS1u => assumption
        try simp only [Act.put, List.setIfInBounds_toArray, List.set_cons_zero, List.set_cons_succ]
        refine wpAnyH_take (i := 2) (oi := ?oi2u) (v := ?v2u) ?hi2u ?hs2u ?hf2u ?hr2u ?hQ2u ?hy2u ?hS2u ?h2u
        case hi2u => exact (by simp only [List.getElem?_toArray, List.getElem?_cons_succ, List.getElem?_cons_zero]; rfl)
        case hs2u => kernel_rfl
        case hf2u => kernel_rfl
        case hr2u => kernel_rfl
        case hQ2u => exact fun _ _ _ h => h
        case hy2u =>
          refine Or.inl ⟨rfl, ?_⟩
          intro W hSw
          obtain ⟨⟨y0, y1, y2, y3, y4⟩, z0, z1⟩ := hSw
          go_simp
          try with_reducible rfl
        case hS2u => assumption
        try simp only [Act.put, List.setIfInBounds_toArray, List.set_cons_zero, List.set_cons_succ]
        refine wpAnyH_take (i := 3) (oi := ?oi3u) (v := ?v3u) ?hi3u ?hs3u ?hf3u ?hr3u ?hQ3u ?hy3u ?hS3u ?h3u
        case hi3u => exact (by simp only [List.getElem?_toArray, List.getElem?_cons_succ, List.getElem?_cons_zero]; rfl)
        case hs3u => kernel_rfl
        case hf3u => kernel_rfl
        case hr3u => kernel_rfl
        case hQ3u => exact fun _ _ _ h => h
        case hy3u =>
          refine Or.inl ⟨rfl, ?_⟩
          intro W hSw
          obtain ⟨⟨y0, y1, y2, y3, y4⟩, z0, z1⟩ := hSw
          go_simp
          try with_reducible rfl
        case hS3u => assumption
        try simp only [Act.put, List.setIfInBounds_toArray, List.set_cons_zero, List.set_cons_succ]
        refine wpAnyH_take (i := 4) (oi := ?oi4u) (v := undef) ?hi4u ?hs4u ?hf4u ?hr4u ?hQ4u ?hy4u ?hS4u ?h4u
        case hi4u => exact (by simp only [List.getElem?_toArray, List.getElem?_cons_succ, List.getElem?_cons_zero]; rfl)
        case hs4u => kernel_rfl
        case hf4u => kernel_rfl
        case hr4u => kernel_rfl
        case hQ4u => exact fun _ _ _ h => h
        case hy4u =>
          exact Or.inr ⟨rfl, rfl⟩
        case hS4u => assumption
        try simp only [Act.put, List.setIfInBounds_toArray, List.set_cons_zero, List.set_cons_succ]
        refine wpAnyH_take (i := 5) (oi := ?oi5u) (v := undef) ?hi5u ?hs5u ?hf5u ?hr5u ?hQ5u ?hy5u ?hS5u ?h5u
        case hi5u => exact (by simp only [List.getElem?_toArray, List.getElem?_cons_succ, List.getElem?_cons_zero]; rfl)
        case hs5u => kernel_rfl
        case hf5u => kernel_rfl
        case hr5u => kernel_rfl
        case hQ5u => exact fun _ _ _ h => h
        case hy5u =>
          exact Or.inr ⟨rfl, rfl⟩
        case hS5u => assumption
        try simp only [Act.put, List.setIfInBounds_toArray, List.set_cons_zero, List.set_cons_succ]
        refine wpAnyH_take (i := 6) (oi := ?oi6u) (v := undef) ?hi6u ?hs6u ?hf6u ?hr6u ?hQ6u ?hy6u ?hS6u ?h6u
        case hi6u => exact (by simp only [List.getElem?_toArray, List.getElem?_cons_succ, List.getElem?_cons_zero]; rfl)
        case hs6u => kernel_rfl
        case hf6u => kernel_rfl
        case hr6u => kernel_rfl
        case hQ6u => exact fun _ _ _ h => h
        case hy6u =>
          exact Or.inr ⟨rfl, rfl⟩
        case hS6u => assumption
        try simp only [Act.put, List.setIfInBounds_toArray, List.set_cons_zero, List.set_cons_succ]
        refine wpAnyH_take (i := 7) (oi := ?oi7u) (v := undef) ?hi7u ?hs7u ?hf7u ?hr7u ?hQ7u ?hy7u ?hS7u ?h7u
        case hi7u => exact (by simp only [List.getElem?_toArray, List.getElem?_cons_succ, List.getElem?_cons_zero]; rfl)
        case hs7u => kernel_rfl
        case hf7u => kernel_rfl
        case hr7u => kernel_rfl
        case hQ7u => exact fun _ _ _ h => h
        case hy7u =>
          exact Or.inr ⟨rfl, rfl⟩
        case hS7u => assumption
        try simp only [Act.put, List.setIfInBounds_toArray, List.set_cons_zero, List.set_cons_succ]
        refine wpAnyH_take (i := 8) (oi := ?oi8u) (v := undef) ?hi8u ?hs8u ?hf8u ?hr8u ?hQ8u ?hy8u ?hS8u ?h8u
        case hi8u => exact (by simp only [List.getElem?_toArray, List.getElem?_cons_succ, List.getElem?_cons_zero]; rfl)
        case hs8u => kernel_rfl
        case hf8u => kernel_rfl
        case hr8u => kernel_rfl
        case hQ8u => exact fun _ _ _ h => h
        case hy8u =>
          exact Or.inr ⟨rfl, rfl⟩
        case hS8u => assumption
        try simp only [Act.put, List.setIfInBounds_toArray, List.set_cons_zero, List.set_cons_succ]
        refine wpAnyH_take (i := 9) (oi := ?oi9u) (v := undef) ?hi9u ?hs9u ?hf9u ?hr9u ?hQ9u ?hy9u ?hS9u ?h9u
        case hi9u => exact (by simp only [List.getElem?_toArray, List.getElem?_cons_succ, List.getElem?_cons_zero]; rfl)
        case hs9u => kernel_rfl
        case hf9u => kernel_rfl
        case hr9u => kernel_rfl
        case hQ9u => exact fun _ _ _ h => h
        case hy9u =>
          exact Or.inr ⟨rfl, rfl⟩
        case hS9u => assumption
        try simp only [Act.put, List.setIfInBounds_toArray, List.set_cons_zero, List.set_cons_succ]
        refine wpAnyH_take (i := 10) (oi := ?oi10u) (v := undef) ?hi10u ?hs10u ?hf10u ?hr10u ?hQ10u ?hy10u ?hS10u ?h10u
        case hi10u => exact (by simp only [List.getElem?_toArray, List.getElem?_cons_succ, List.getElem?_cons_zero]; rfl)
        case hs10u => kernel_rfl
        case hf10u => kernel_rfl
        case hr10u => kernel_rfl
        case hQ10u => exact fun _ _ _ h => h
        case hy10u =>
          exact Or.inr ⟨rfl, rfl⟩
        case hS10u => assumption
        try simp only [Act.put, List.setIfInBounds_toArray, List.set_cons_zero, List.set_cons_succ]
        refine wpAnyH_take (i := 11) (oi := ?oi11u) (v := undef) ?hi11u ?hs11u ?hf11u ?hr11u ?hQ11u ?hy11u ?hS11u ?h11u
        case hi11u => exact (by simp only [List.getElem?_toArray, List.getElem?_cons_succ, List.getElem?_cons_zero]; rfl)
        case hs11u => kernel_rfl
        case hf11u => kernel_rfl
        case hr11u => kernel_rfl
        case hQ11u => exact fun _ _ _ h => h
        case hy11u =>
          exact Or.inr ⟨rfl, rfl⟩
        case hS11u => assumption
        try simp only [Act.put, List.setIfInBounds_toArray, List.set_cons_zero, List.set_cons_succ]
        refine wpAnyH_take (i := 12) (oi := ?oi12u) (v := undef) ?hi12u ?hs12u ?hf12u ?hr12u ?hQ12u ?hy12u ?hS12u ?h12u
        case hi12u => exact (by simp only [List.getElem?_toArray, List.getElem?_cons_succ, List.getElem?_cons_zero]; rfl)
        case hs12u => kernel_rfl
        case hf12u => kernel_rfl
        case hr12u => kernel_rfl
        case hQ12u => exact fun _ _ _ h => h
        case hy12u =>
          exact Or.inr ⟨rfl, rfl⟩
        case hS12u => assumption
        try simp only [Act.put, List.setIfInBounds_toArray, List.set_cons_zero, List.set_cons_succ]
        refine wpAnyH_take (i := 13) (oi := ?oi13u) (v := undef) ?hi13u ?hs13u ?hf13u ?hr13u ?hQ13u ?hy13u ?hS13u ?h13u
        case hi13u => exact (by simp only [List.getElem?_toArray, List.getElem?_cons_succ, List.getElem?_cons_zero]; rfl)
        case hs13u => kernel_rfl
        case hf13u => kernel_rfl
        case hr13u => kernel_rfl
        case hQ13u => exact fun _ _ _ h => h
        case hy13u =>
          exact Or.inr ⟨rfl, rfl⟩
        case hS13u => assumption
        try simp only [Act.put, List.setIfInBounds_toArray, List.set_cons_zero, List.set_cons_succ]
        refine wpAnyH_take (i := 14) (oi := ?oi14u) (v := ?v14u) ?hi14u ?hs14u ?hf14u ?hr14u ?hQ14u ?hy14u ?hS14u ?h14u
        case hi14u => exact (by simp only [List.getElem?_toArray, List.getElem?_cons_succ, List.getElem?_cons_zero]; rfl)
        case hs14u => kernel_rfl
        case hf14u => kernel_rfl
        case hr14u => kernel_rfl
        case hQ14u => exact fun _ _ _ h => h
        case hy14u =>
          refine Or.inl ⟨rfl, ?_⟩
          intro W hSw
          obtain ⟨⟨y0, y1, y2, y3, y4⟩, z0, z1⟩ := hSw
          go_simp
          try with_reducible rfl
        case hS14u => assumption
        try simp only [Act.put, List.setIfInBounds_toArray, List.set_cons_zero, List.set_cons_succ]
        refine wpAnyH_take (i := 15) (oi := ?oi15u) (v := ?v15u) ?hi15u ?hs15u ?hf15u ?hr15u ?hQ15u ?hy15u ?hS15u ?h15u
        case hi15u => exact (by simp only [List.getElem?_toArray, List.getElem?_cons_succ, List.getElem?_cons_zero]; rfl)
        case hs15u => kernel_rfl
        case hf15u => kernel_rfl
        case hr15u => kernel_rfl
        case hQ15u => exact fun _ _ _ h => h
        case hy15u =>
          refine Or.inl ⟨rfl, ?_⟩
          intro W hSw
          obtain ⟨⟨y0, y1, y2, y3, y4⟩, z0, z1⟩ := hSw
          go_simp
          try with_reducible rfl
        case hS15u => assumption
        try simp only [Act.put, List.setIfInBounds_toArray, List.set_cons_zero, List.set_cons_succ]
        refine wpAnyH_take (i := 16) (oi := ?oi16u) (v := ?v16u) ?hi16u ?hs16u ?hf16u ?hr16u ?hQ16u ?hy16u ?hS16u ?h16u
        case hi16u => exact (by simp only [List.getElem?_toArray, List.getElem?_cons_succ, List.getElem?_cons_zero]; rfl)
        case hs16u => kernel_rfl
        case hf16u => kernel_rfl
        case hr16u => kernel_rfl
        case hQ16u => exact fun _ _ _ h => h
        case hy16u =>
          refine Or.inl ⟨rfl, ?_⟩
          intro W hSw
          obtain ⟨⟨y0, y1, y2, y3, y4⟩, z0, z1⟩ := hSw
          go_simp
          try with_reducible rfl
        case hS16u => assumption
        try simp only [Act.put, List.setIfInBounds_toArray, List.set_cons_zero, List.set_cons_succ]
        refine wpAnyH_take (i := 17) (oi := ?oi17u) (v := ?v17u) ?hi17u ?hs17u ?hf17u ?hr17u ?hQ17u ?hy17u ?hS17u ?h17u
        case hi17u => exact (by simp only [List.getElem?_toArray, List.getElem?_cons_succ, List.getElem?_cons_zero]; rfl)
        case hs17u => kernel_rfl
        case hf17u => kernel_rfl
        case hr17u => kernel_rfl
        case hQ17u => exact fun _ _ _ h => h
        case hy17u =>
          refine Or.inl ⟨rfl, ?_⟩
          intro W hSw
          obtain ⟨⟨y0, y1, y2, y3, y4⟩, z0, z1⟩ := hSw
          go_simp
          try with_reducible rfl
        case hS17u => assumption
        try simp only [Act.put, List.setIfInBounds_toArray, List.set_cons_zero, List.set_cons_succ]
        refine wpAnyH_take (i := 18) (oi := ?oi18u) (v := ?v18u) ?hi18u ?hs18u ?hf18u ?hr18u ?hQ18u ?hy18u ?hS18u ?h18u
        case hi18u => exact (by simp only [List.getElem?_toArray, List.getElem?_cons_succ, List.getElem?_cons_zero]; rfl)
        case hs18u => kernel_rfl
        case hf18u => kernel_rfl
        case hr18u => kernel_rfl
        case hQ18u => exact fun _ _ _ h => h
        case hy18u =>
          refine Or.inl ⟨rfl, ?_⟩
          intro W hSw
          obtain ⟨⟨y0, y1, y2, y3, y4⟩, z0, z1⟩ := hSw
          go_simp
          try with_reducible rfl
        case hS18u => assumption
        try simp only [Act.put, List.setIfInBounds_toArray, List.set_cons_zero, List.set_cons_succ]
        refine wpAnyH_take (i := 19) (oi := ?oi19u) (v := ?v19u) ?hi19u ?hs19u ?hf19u ?hr19u ?hQ19u ?hy19u ?hS19u ?h19u
        case hi19u => exact (by simp only [List.getElem?_toArray, List.getElem?_cons_succ, List.getElem?_cons_zero]; rfl)
        case hs19u => kernel_rfl
        case hf19u => kernel_rfl
        case hr19u => kernel_rfl
        case hQ19u => exact fun _ _ _ h => h
        case hy19u =>
          refine Or.inl ⟨rfl, ?_⟩
          intro W hSw
          obtain ⟨⟨y0, y1, y2, y3, y4⟩, z0, z1⟩ := hSw
          go_simp
          try with_reducible rfl
        case hS19u => assumption
        try simp only [Act.put, List.setIfInBounds_toArray, List.set_cons_zero, List.set_cons_succ]
        refine wpAnyH_take (i := 20) (oi := ?oi20u) (v := ?v20u) ?hi20u ?hs20u ?hf20u ?hr20u ?hQ20u ?hy20u ?hS20u ?h20u
        case hi20u => exact (by simp only [List.getElem?_toArray, List.getElem?_cons_succ, List.getElem?_cons_zero]; rfl)
        case hs20u => kernel_rfl
        case hf20u => kernel_rfl
        case hr20u => kernel_rfl
        case hQ20u => exact fun _ _ _ h => h
        case hy20u =>
          refine Or.inl ⟨rfl, ?_⟩
          intro W hSw
          obtain ⟨⟨y0, y1, y2, y3, y4⟩, z0, z1⟩ := hSw
          go_simp
          try with_reducible rfl
        case hS20u => assumption
        try simp only [Act.put, List.setIfInBounds_toArray, List.set_cons_zero, List.set_cons_succ]
        refine wpAnyH_take (i := 21) (oi := ?oi21u) (v := ?v21u) ?hi21u ?hs21u ?hf21u ?hr21u ?hQ21u ?hy21u ?hS21u ?h21u
        case hi21u => exact (by simp only [List.getElem?_toArray, List.getElem?_cons_succ, List.getElem?_cons_zero]; rfl)
        case hs21u => kernel_rfl
        case hf21u => kernel_rfl
        case hr21u => kernel_rfl
        case hQ21u => exact fun _ _ _ h => h
        case hy21u =>
          refine Or.inl ⟨rfl, ?_⟩
          intro W hSw
          obtain ⟨⟨y0, y1, y2, y3, y4⟩, z0, z1⟩ := hSw
          go_simp
          try with_reducible rfl
        case hS21u => assumption
        try simp only [Act.put, List.setIfInBounds_toArray, List.set_cons_zero, List.set_cons_succ]
        refine wpAnyH_take (i := 22) (oi := ?oi22u) (v := ?v22u) ?hi22u ?hs22u ?hf22u ?hr22u ?hQ22u ?hy22u ?hS22u ?h22u
        case hi22u => exact (by simp only [List.getElem?_toArray, List.getElem?_cons_succ, List.getElem?_cons_zero]; rfl)
        case hs22u => kernel_rfl
        case hf22u => kernel_rfl
        case hr22u => kernel_rfl
        case hQ22u => exact fun _ _ _ h => h
        case hy22u =>
          refine Or.inl ⟨rfl, ?_⟩
          intro W hSw
          obtain ⟨⟨y0, y1, y2, y3, y4⟩, z0, z1⟩ := hSw
          go_simp
          try with_reducible rfl
        case hS22u => assumption
        try simp only [Act.put, List.setIfInBounds_toArray, List.set_cons_zero, List.set_cons_succ]
        refine wpAnyH_take (i := 23) (oi := ?oi23u) (v := ?v23u) ?hi23u ?hs23u ?hf23u ?hr23u ?hQ23u ?hy23u ?hS23u ?h23u
        case hi23u => exact (by simp only [List.getElem?_toArray, List.getElem?_cons_succ, List.getElem?_cons_zero]; rfl)
        case hs23u => kernel_rfl
        case hf23u => kernel_rfl
        case hr23u => kernel_rfl
        case hQ23u => exact fun _ _ _ h => h
        case hy23u =>
          refine Or.inl ⟨rfl, ?_⟩
          intro W hSw
          obtain ⟨⟨y0, y1, y2, y3, y4⟩, z0, z1⟩ := hSw
          go_simp
          try with_reducible rfl
        case hS23u => assumption
        try simp only [Act.put, List.setIfInBounds_toArray, List.set_cons_zero, List.set_cons_succ]
        refine wpAnyH_take (i := 24) (oi := ?oi24u) (v := ?v24u) ?hi24u ?hs24u ?hf24u ?hr24u ?hQ24u ?hy24u ?hS24u ?h24u
        case hi24u => exact (by simp only [List.getElem?_toArray, List.getElem?_cons_succ, List.getElem?_cons_zero]; rfl)
        case hs24u => kernel_rfl
        case hf24u => kernel_rfl
        case hr24u => kernel_rfl
        case hQ24u => exact fun _ _ _ h => h
        case hy24u =>
          refine Or.inl ⟨rfl, ?_⟩
          intro W hSw
          obtain ⟨⟨y0, y1, y2, y3, y4⟩, z0, z1⟩ := hSw
          go_simp
          try with_reducible rfl
        case hS24u => assumption
        try simp only [Act.put, List.setIfInBounds_toArray, List.set_cons_zero, List.set_cons_succ]
        refine wpAnyH_take (i := 25) (oi := ?oi25u) (v := ?v25u) ?hi25u ?hs25u ?hf25u ?hr25u ?hQ25u ?hy25u ?hS25u ?h25u
        case hi25u => exact (by simp only [List.getElem?_toArray, List.getElem?_cons_succ, List.getElem?_cons_zero]; rfl)
        case hs25u => kernel_rfl
        case hf25u => kernel_rfl
        case hr25u => kernel_rfl
        case hQ25u => exact fun _ _ _ h => h
        case hy25u =>
          refine Or.inl ⟨rfl, ?_⟩
          intro W hSw
          obtain ⟨⟨y0, y1, y2, y3, y4⟩, z0, z1⟩ := hSw
          go_simp
          try with_reducible rfl
        case hS25u => assumption
        try simp only [Act.put, List.setIfInBounds_toArray, List.set_cons_zero, List.set_cons_succ]
        refine wpAnyH_take (i := 26) (oi := ?oi26u) (v := ?v26u) ?hi26u ?hs26u ?hf26u ?hr26u ?hQ26u ?hy26u ?hS26u ?h26u
        case hi26u => exact (by simp only [List.getElem?_toArray, List.getElem?_cons_succ, List.getElem?_cons_zero]; rfl)
        case hs26u => kernel_rfl
        case hf26u => kernel_rfl
        case hr26u => kernel_rfl
        case hQ26u => exact fun _ _ _ h => h
        case hy26u =>
          refine Or.inl ⟨rfl, ?_⟩
          intro W hSw
          obtain ⟨⟨y0, y1, y2, y3, y4⟩, z0, z1⟩ := hSw
          go_simp
          try with_reducible rfl
        case hS26u => assumption
        try simp only [Act.put, List.setIfInBounds_toArray, List.set_cons_zero, List.set_cons_succ]
        refine wpAnyH_ready (rs := [27]) (by kernel_rfl) (by simp) ?_
        refine AllReadyH.cons (o := _) rfl (fun K hK => ?_) AllReadyH.nil
        go_simp
        refine (pawake Wu0).mono ?_
        rintro r Wu1 ⟨rfl, hbq⟩
        have HBu1 := Lib.hid (HDu.out.trans (hbq.mono HDu.out.size))
        clear hbq
        refine hK.out _ _ (HCE.out _ (HBu1.out)) (fun hHeld => ?_)
        clear hK K
        try simp only [Act.put, List.setIfInBounds_toArray, List.set_cons_zero, List.set_cons_succ]
        refine wpAnyH_take (i := 28) (oi := ?oi28u) (v := ?v28u) ?hi28u ?hs28u ?hf28u ?hr28u ?hQ28u ?hy28u ?hS28u ?h28u
        case hi28u => exact (by simp only [List.getElem?_toArray, List.getElem?_cons_succ, List.getElem?_cons_zero]; rfl)
        case hs28u => kernel_rfl
        case hf28u => kernel_rfl
        case hr28u => kernel_rfl
        case hQ28u => exact fun _ _ _ h => h
        case hy28u =>
          refine Or.inl ⟨rfl, ?_⟩
          intro W hSw
          obtain ⟨⟨y0, y1, y2, y3, y4⟩, z0, z1⟩ := hSw
          go_simp
          try with_reducible rfl
        case hS28u => assumption
        try simp only [Act.put, List.setIfInBounds_toArray, List.set_cons_zero, List.set_cons_succ]
        refine wpAnyH_take (i := 29) (oi := ?oi29u) (v := ?v29u) ?hi29u ?hs29u ?hf29u ?hr29u ?hQ29u ?hy29u ?hS29u ?h29u
        case hi29u => exact (by simp only [List.getElem?_toArray, List.getElem?_cons_succ, List.getElem?_cons_zero]; rfl)
        case hs29u => kernel_rfl
        case hf29u => kernel_rfl
        case hr29u => kernel_rfl
        case hQ29u => exact fun _ _ _ h => h
        case hy29u =>
          refine Or.inl ⟨rfl, ?_⟩
          intro W hSw
          obtain ⟨⟨y0, y1, y2, y3, y4⟩, z0, z1⟩ := hSw
          go_simp
          try with_reducible rfl
        case hS29u => assumption
        try simp only [Act.put, List.setIfInBounds_toArray, List.set_cons_zero, List.set_cons_succ]
        refine wpAnyH_done (by kernel_rfl) ?_ _
        try go_wp2
        go_ret
        exact ⟨rfl, HB2.out.trans (HBu1.out.mono HB2.out.size)⟩
      · obtain ⟨pr, hpw⟩ : ∃ p, wrap64 (c * e) = p := ⟨_, rfl⟩
        have hpr : IntKind.i64.wrap (c * e) = pr := by rw [← hpw]; exact wrap_i64 _
        have HW3 : Hid (∀ W, Calls Try.prog 19 #[mV k b s c e, .int .i64 pr] W fun r w' => r = .returned (.int .i64 c) ∧ Below W.heap.size W w') := fun W => by
          have := window_any k b s c e (wrap64 (c * e)) W hbb
          rw [A6.out hs, hpw] at this
          exact this
        clear hbb
        have HDz : Hid (Below w2.heap.size w2 Wa2.drew) := HBa2.out.drew
        refine wp_region_held_drew (S := fun W : World => (W.cell? ⟨P, 0, none⟩ = some (.int .i64 k) ∧ W.cell? ⟨P, 1, none⟩ = some (.int .i64 b) ∧ W.cell? ⟨P, 2, none⟩ = some (.int .i64 s) ∧ W.cell? ⟨P, 3, none⟩ = some (.int .i64 c) ∧ W.cell? ⟨P, 4, none⟩ = some (.int .i64 e)) ∧ W.cell? ⟨Q, 0, none⟩ = some (.int .i64 x) ∧ W.cell? ⟨Q, 1, none⟩ = some (.int .i64 y)) (by kernel_rfl) (HCE.out _ (HDz.out)) (fun hHeld => ?_)
        obtain ⟨Wz0, hW0⟩ : ∃ W0, W0 = Wa2.drew := ⟨_, rfl⟩
        rw [← hW0] at hHeld HDz ⊢
        clear hW0
        refine wpAnyH_take (i := 0) (oi := ?oi0z) (v := ?v0z) ?hi0z ?hs0z ?hf0z ?hr0z ?hQ0z ?hy0z ?hS0z ?h0z
        case hi0z => exact (by simp only [List.getElem?_toArray, List.getElem?_cons_zero]; rfl)
        case hs0z => kernel_rfl
        case hf0z => kernel_rfl
        case hr0z => kernel_rfl
        case hQ0z => exact fun _ _ _ h => h
        case hy0z =>
          refine Or.inl ⟨rfl, ?_⟩
          intro W hSw
          obtain ⟨⟨y0, y1, y2, y3, y4⟩, z0, z1⟩ := hSw
          go_simp
          try with_reducible rfl
        case hS0z => assumption
        try simp only [Act.put, List.setIfInBounds_toArray, List.set_cons_zero, List.set_cons_succ]
        refine wpAnyH_take (i := 1) (oi := ?oi1z) (v := ?v1z) ?hi1z ?hs1z ?hf1z ?hr1z ?hQ1z ?hy1z ?hS1z ?h1z
        case hi1z => exact (by simp only [List.getElem?_toArray, List.getElem?_cons_succ, List.getElem?_cons_zero]; rfl)
        case hs1z => kernel_rfl
        case hf1z => kernel_rfl
        case hr1z => kernel_rfl
        case hQ1z => exact fun _ _ _ h => h
        case hy1z =>
          refine Or.inl ⟨rfl, ?_⟩
          intro W hSw
          obtain ⟨⟨y0, y1, y2, y3, y4⟩, z0, z1⟩ := hSw
          go_simp
          try with_reducible rfl
        case hS1z => assumption
        try simp only [Act.put, List.setIfInBounds_toArray, List.set_cons_zero, List.set_cons_succ]
        refine wpAnyH_take (i := 2) (oi := ?oi2z) (v := (.bool false)) ?hi2z ?hs2z ?hf2z ?hr2z ?hQ2z ?hy2z ?hS2z ?h2z
        case hi2z => exact (by simp only [List.getElem?_toArray, List.getElem?_cons_succ, List.getElem?_cons_zero]; rfl)
        case hs2z => kernel_rfl
        case hf2z => kernel_rfl
        case hr2z => kernel_rfl
        case hQ2z => exact fun _ _ _ h => h
        case hy2z =>
          refine Or.inl ⟨rfl, ?_⟩
          intro W hSw
          obtain ⟨⟨y0, y1, y2, y3, y4⟩, z0, z1⟩ := hSw
          go_simp
          try simp [hs]
        case hS2z => assumption
        try simp only [Act.put, List.setIfInBounds_toArray, List.set_cons_zero, List.set_cons_succ]
        refine wpAnyH_take (i := 3) (oi := ?oi3z) (v := ?v3z) ?hi3z ?hs3z ?hf3z ?hr3z ?hQ3z ?hy3z ?hS3z ?h3z
        case hi3z => exact (by simp only [List.getElem?_toArray, List.getElem?_cons_succ, List.getElem?_cons_zero]; rfl)
        case hs3z => kernel_rfl
        case hf3z => kernel_rfl
        case hr3z => kernel_rfl
        case hQ3z => exact fun _ _ _ h => h
        case hy3z =>
          refine Or.inl ⟨rfl, ?_⟩
          intro W hSw
          obtain ⟨⟨y0, y1, y2, y3, y4⟩, z0, z1⟩ := hSw
          go_simp
          try with_reducible rfl
        case hS3z => assumption
        try simp only [Act.put, List.setIfInBounds_toArray, List.set_cons_zero, List.set_cons_succ]
        refine wpAnyH_take (i := 4) (oi := ?oi4z) (v := ?v4z) ?hi4z ?hs4z ?hf4z ?hr4z ?hQ4z ?hy4z ?hS4z ?h4z
        case hi4z => exact (by simp only [List.getElem?_toArray, List.getElem?_cons_succ, List.getElem?_cons_zero]; rfl)
        case hs4z => kernel_rfl
        case hf4z => kernel_rfl
        case hr4z => kernel_rfl
        case hQ4z => exact fun _ _ _ h => h
        case hy4z =>
          refine Or.inl ⟨rfl, ?_⟩
          intro W hSw
          obtain ⟨⟨y0, y1, y2, y3, y4⟩, z0, z1⟩ := hSw
          go_simp
          try with_reducible rfl
        case hS4z => assumption
        try simp only [Act.put, List.setIfInBounds_toArray, List.set_cons_zero, List.set_cons_succ]
        refine wpAnyH_take (i := 5) (oi := ?oi5z) (v := ?v5z) ?hi5z ?hs5z ?hf5z ?hr5z ?hQ5z ?hy5z ?hS5z ?h5z
        case hi5z => exact (by simp only [List.getElem?_toArray, List.getElem?_cons_succ, List.getElem?_cons_zero]; rfl)
        case hs5z => kernel_rfl
        case hf5z => kernel_rfl
        case hr5z => kernel_rfl
        case hQ5z => exact fun _ _ _ h => h
        case hy5z =>
          refine Or.inl ⟨rfl, ?_⟩
          intro W hSw
          obtain ⟨⟨y0, y1, y2, y3, y4⟩, z0, z1⟩ := hSw
          go_simp
          try with_reducible rfl
        case hS5z => assumption
        try simp only [Act.put, List.setIfInBounds_toArray, List.set_cons_zero, List.set_cons_succ]
        refine wpAnyH_take (i := 6) (oi := ?oi6z) (v := ?v6z) ?hi6z ?hs6z ?hf6z ?hr6z ?hQ6z ?hy6z ?hS6z ?h6z
        case hi6z => exact (by simp only [List.getElem?_toArray, List.getElem?_cons_succ, List.getElem?_cons_zero]; rfl)
        case hs6z => kernel_rfl
        case hf6z => kernel_rfl
        case hr6z => kernel_rfl
        case hQ6z => exact fun _ _ _ h => h
        case hy6z =>
          refine Or.inl ⟨rfl, ?_⟩
          intro W hSw
          obtain ⟨⟨y0, y1, y2, y3, y4⟩, z0, z1⟩ := hSw
          go_simp
          try with_reducible rfl
        case hS6z => assumption
        try simp only [Act.put, List.setIfInBounds_toArray, List.set_cons_zero, List.set_cons_succ]
        refine wpAnyH_take (i := 7) (oi := ?oi7z) (v := ?v7z) ?hi7z ?hs7z ?hf7z ?hr7z ?hQ7z ?hy7z ?hS7z ?h7z
        case hi7z => exact (by simp only [List.getElem?_toArray, List.getElem?_cons_succ, List.getElem?_cons_zero]; rfl)
        case hs7z => kernel_rfl
        case hf7z => kernel_rfl
        case hr7z => kernel_rfl
        case hQ7z => exact fun _ _ _ h => h
        case hy7z =>
          refine Or.inl ⟨rfl, ?_⟩
          intro W hSw
          obtain ⟨⟨y0, y1, y2, y3, y4⟩, z0, z1⟩ := hSw
          go_simp
          try with_reducible rfl
        case hS7z => assumption
        try simp only [Act.put, List.setIfInBounds_toArray, List.set_cons_zero, List.set_cons_succ]
        refine wpAnyH_take (i := 8) (oi := ?oi8z) (v := ?v8z) ?hi8z ?hs8z ?hf8z ?hr8z ?hQ8z ?hy8z ?hS8z ?h8z
        case hi8z => exact (by simp only [List.getElem?_toArray, List.getElem?_cons_succ, List.getElem?_cons_zero]; rfl)
        case hs8z => kernel_rfl
        case hf8z => kernel_rfl
        case hr8z => kernel_rfl
        case hQ8z => exact fun _ _ _ h => h
        case hy8z =>
          refine Or.inl ⟨rfl, ?_⟩
          intro W hSw
          obtain ⟨⟨y0, y1, y2, y3, y4⟩, z0, z1⟩ := hSw
          go_simp
          try with_reducible rfl
        case hS8z => assumption
        try simp only [Act.put, List.setIfInBounds_toArray, List.set_cons_zero, List.set_cons_succ]
        refine wpAnyH_take (i := 9) (oi := ?oi9z) (v := (.int .i64 pr)) ?hi9z ?hs9z ?hf9z ?hr9z ?hQ9z ?hy9z ?hS9z ?h9z
        case hi9z => exact (by simp only [List.getElem?_toArray, List.getElem?_cons_succ, List.getElem?_cons_zero]; rfl)
        case hs9z => kernel_rfl
        case hf9z => kernel_rfl
        case hr9z => kernel_rfl
        case hQ9z => exact fun _ _ _ h => h
        case hy9z =>
          refine Or.inl ⟨rfl, ?_⟩
          intro W hSw
          obtain ⟨⟨y0, y1, y2, y3, y4⟩, z0, z1⟩ := hSw
          go_simp
          try simp only [hpr]
        case hS9z => assumption
        try simp only [Act.put, List.setIfInBounds_toArray, List.set_cons_zero, List.set_cons_succ]
        refine wpAnyH_take (i := 11) (oi := ?oi11z) (v := ?v11z) ?hi11z ?hs11z ?hf11z ?hr11z ?hQ11z ?hy11z ?hS11z ?h11z
        case hi11z => exact (by simp only [List.getElem?_toArray, List.getElem?_cons_succ, List.getElem?_cons_zero]; rfl)
        case hs11z => kernel_rfl
        case hf11z => kernel_rfl
        case hr11z => kernel_rfl
        case hQ11z => exact fun _ _ _ h => h
        case hy11z =>
          refine Or.inl ⟨rfl, ?_⟩
          intro W hSw
          obtain ⟨⟨y0, y1, y2, y3, y4⟩, z0, z1⟩ := hSw
          go_simp
          try with_reducible rfl
        case hS11z => assumption
        try simp only [Act.put, List.setIfInBounds_toArray, List.set_cons_zero, List.set_cons_succ]
        refine wpAnyH_take (i := 12) (oi := ?oi12z) (v := ?v12z) ?hi12z ?hs12z ?hf12z ?hr12z ?hQ12z ?hy12z ?hS12z ?h12z
        case hi12z => exact (by simp only [List.getElem?_toArray, List.getElem?_cons_succ, List.getElem?_cons_zero]; rfl)
        case hs12z => kernel_rfl
        case hf12z => kernel_rfl
        case hr12z => kernel_rfl
        case hQ12z => exact fun _ _ _ h => h
        case hy12z =>
          refine Or.inl ⟨rfl, ?_⟩
          intro W hSw
          obtain ⟨⟨y0, y1, y2, y3, y4⟩, z0, z1⟩ := hSw
          go_simp
          try with_reducible rfl
        case hS12z => assumption
        try simp only [Act.put, List.setIfInBounds_toArray, List.set_cons_zero, List.set_cons_succ]
        refine wpAnyH_ready (rs := [10]) (by kernel_rfl) (by simp) ?_
        refine AllReadyH.cons (o := _) rfl (fun K hK => ?_) AllReadyH.nil
        go_simp
        refine (HW3.out Wz0).mono ?_
        rintro r Wz1 ⟨rfl, hbq⟩
        have HBz1 := Lib.hid (HDz.out.trans (hbq.mono HDz.out.size))
        clear hbq
        refine hK.out _ _ (HCE.out _ (HBz1.out)) (fun hHeld => ?_)
        clear hK K
        try simp only [Act.put, List.setIfInBounds_toArray, List.set_cons_zero, List.set_cons_succ]
        refine wpAnyH_take (i := 13) (oi := ?oi13z) (v := ?v13z) ?hi13z ?hs13z ?hf13z ?hr13z ?hQ13z ?hy13z ?hS13z ?h13z
        case hi13z => exact (by simp only [List.getElem?_toArray, List.getElem?_cons_succ, List.getElem?_cons_zero]; rfl)
        case hs13z => kernel_rfl
        case hf13z => kernel_rfl
        case hr13z => kernel_rfl
        case hQ13z => exact fun _ _ _ h => h
        case hy13z =>
          refine Or.inl ⟨rfl, ?_⟩
          intro W hSw
          obtain ⟨⟨y0, y1, y2, y3, y4⟩, z0, z1⟩ := hSw
          go_simp
          try with_reducible rfl
        case hS13z => assumption
        try simp only [Act.put, List.setIfInBounds_toArray, List.set_cons_zero, List.set_cons_succ]
        refine wpAnyH_take (i := 14) (oi := ?oi14z) (v := ?v14z) ?hi14z ?hs14z ?hf14z ?hr14z ?hQ14z ?hy14z ?hS14z ?h14z
        case hi14z => exact (by simp only [List.getElem?_toArray, List.getElem?_cons_succ, List.getElem?_cons_zero]; rfl)
        case hs14z => kernel_rfl
        case hf14z => kernel_rfl
        case hr14z => kernel_rfl
        case hQ14z => exact fun _ _ _ h => h
        case hy14z =>
          refine Or.inl ⟨rfl, ?_⟩
          intro W hSw
          obtain ⟨⟨y0, y1, y2, y3, y4⟩, z0, z1⟩ := hSw
          go_simp
          try with_reducible rfl
        case hS14z => assumption
        try simp only [Act.put, List.setIfInBounds_toArray, List.set_cons_zero, List.set_cons_succ]
        refine wpAnyH_take (i := 15) (oi := ?oi15z) (v := ?v15z) ?hi15z ?hs15z ?hf15z ?hr15z ?hQ15z ?hy15z ?hS15z ?h15z
        case hi15z => exact (by simp only [List.getElem?_toArray, List.getElem?_cons_succ, List.getElem?_cons_zero]; rfl)
        case hs15z => kernel_rfl
        case hf15z => kernel_rfl
        case hr15z => kernel_rfl
        case hQ15z => exact fun _ _ _ h => h
        case hy15z =>
          refine Or.inl ⟨rfl, ?_⟩
          intro W hSw
          obtain ⟨⟨y0, y1, y2, y3, y4⟩, z0, z1⟩ := hSw
          go_simp
          try with_reducible rfl
        case hS15z => assumption
        try simp only [Act.put, List.setIfInBounds_toArray, List.set_cons_zero, List.set_cons_succ]
        refine wpAnyH_take (i := 16) (oi := ?oi16z) (v := ?v16z) ?hi16z ?hs16z ?hf16z ?hr16z ?hQ16z ?hy16z ?hS16z ?h16z
        case hi16z => exact (by simp only [List.getElem?_toArray, List.getElem?_cons_succ, List.getElem?_cons_zero]; rfl)
        case hs16z => kernel_rfl
        case hf16z => kernel_rfl
        case hr16z => kernel_rfl
        case hQ16z => exact fun _ _ _ h => h
        case hy16z =>
          refine Or.inl ⟨rfl, ?_⟩
          intro W hSw
          obtain ⟨⟨y0, y1, y2, y3, y4⟩, z0, z1⟩ := hSw
          go_simp
          try with_reducible rfl
        case hS16z => assumption
        try simp only [Act.put, List.setIfInBounds_toArray, List.set_cons_zero, List.set_cons_succ]
        refine wpAnyH_take (i := 17) (oi := ?oi17z) (v := ?v17z) ?hi17z ?hs17z ?hf17z ?hr17z ?hQ17z ?hy17z ?hS17z ?h17z
        case hi17z => exact (by simp only [List.getElem?_toArray, List.getElem?_cons_succ, List.getElem?_cons_zero]; rfl)
        case hs17z => kernel_rfl
        case hf17z => kernel_rfl
        case hr17z => kernel_rfl
        case hQ17z => exact fun _ _ _ h => h
        case hy17z =>
          refine Or.inl ⟨rfl, ?_⟩
          intro W hSw
          obtain ⟨⟨y0, y1, y2, y3, y4⟩, z0, z1⟩ := hSw
          go_simp
          try with_reducible rfl
        case hS17z => assumption
        try simp only [Act.put, List.setIfInBounds_toArray, List.set_cons_zero, List.set_cons_succ]
        refine wpAnyH_take (i := 18) (oi := ?oi18z) (v := (.bool true)) ?hi18z ?hs18z ?hf18z ?hr18z ?hQ18z ?hy18z ?hS18z ?h18z
        case hi18z => exact (by simp only [List.getElem?_toArray, List.getElem?_cons_succ, List.getElem?_cons_zero]; rfl)
        case hs18z => kernel_rfl
        case hf18z => kernel_rfl
        case hr18z => kernel_rfl
        case hQ18z => exact fun _ _ _ h => h
        case hy18z =>
          refine Or.inl ⟨rfl, ?_⟩
          intro W hSw
          obtain ⟨⟨y0, y1, y2, y3, y4⟩, z0, z1⟩ := hSw
          go_simp
          try simp [hs]
        case hS18z => assumption
        try simp only [Act.put, List.setIfInBounds_toArray, List.set_cons_zero, List.set_cons_succ]
        refine wpAnyH_take (i := 19) (oi := ?oi19z) (v := ?v19z) ?hi19z ?hs19z ?hf19z ?hr19z ?hQ19z ?hy19z ?hS19z ?h19z
        case hi19z => exact (by simp only [List.getElem?_toArray, List.getElem?_cons_succ, List.getElem?_cons_zero]; rfl)
        case hs19z => kernel_rfl
        case hf19z => kernel_rfl
        case hr19z => kernel_rfl
        case hQ19z => exact fun _ _ _ h => h
        case hy19z =>
          refine Or.inl ⟨rfl, ?_⟩
          intro W hSw
          obtain ⟨⟨y0, y1, y2, y3, y4⟩, z0, z1⟩ := hSw
          go_simp
          try with_reducible rfl
        case hS19z => assumption
        try simp only [Act.put, List.setIfInBounds_toArray, List.set_cons_zero, List.set_cons_succ]
        refine wpAnyH_take (i := 20) (oi := ?oi20z) (v := undef) ?hi20z ?hs20z ?hf20z ?hr20z ?hQ20z ?hy20z ?hS20z ?h20z
        case hi20z => exact (by simp only [List.getElem?_toArray, List.getElem?_cons_succ, List.getElem?_cons_zero]; rfl)
        case hs20z => kernel_rfl
        case hf20z => kernel_rfl
        case hr20z => kernel_rfl
        case hQ20z => exact fun _ _ _ h => h
        case hy20z =>
          exact Or.inr ⟨rfl, rfl⟩
        case hS20z => assumption
        try simp only [Act.put, List.setIfInBounds_toArray, List.set_cons_zero, List.set_cons_succ]
        refine wpAnyH_take (i := 21) (oi := ?oi21z) (v := undef) ?hi21z ?hs21z ?hf21z ?hr21z ?hQ21z ?hy21z ?hS21z ?h21z
        case hi21z => exact (by simp only [List.getElem?_toArray, List.getElem?_cons_succ, List.getElem?_cons_zero]; rfl)
        case hs21z => kernel_rfl
        case hf21z => kernel_rfl
        case hr21z => kernel_rfl
        case hQ21z => exact fun _ _ _ h => h
        case hy21z =>
          exact Or.inr ⟨rfl, rfl⟩
        case hS21z => assumption
        try simp only [Act.put, List.setIfInBounds_toArray, List.set_cons_zero, List.set_cons_succ]
        refine wpAnyH_take (i := 22) (oi := ?oi22z) (v := undef) ?hi22z ?hs22z ?hf22z ?hr22z ?hQ22z ?hy22z ?hS22z ?h22z
        case hi22z => exact (by simp only [List.getElem?_toArray, List.getElem?_cons_succ, List.getElem?_cons_zero]; rfl)
        case hs22z => kernel_rfl
        case hf22z => kernel_rfl
        case hr22z => kernel_rfl
        case hQ22z => exact fun _ _ _ h => h
        case hy22z =>
          exact Or.inr ⟨rfl, rfl⟩
        case hS22z => assumption
        try simp only [Act.put, List.setIfInBounds_toArray, List.set_cons_zero, List.set_cons_succ]
        refine wpAnyH_take (i := 23) (oi := ?oi23z) (v := undef) ?hi23z ?hs23z ?hf23z ?hr23z ?hQ23z ?hy23z ?hS23z ?h23z
        case hi23z => exact (by simp only [List.getElem?_toArray, List.getElem?_cons_succ, List.getElem?_cons_zero]; rfl)
        case hs23z => kernel_rfl
        case hf23z => kernel_rfl
        case hr23z => kernel_rfl
        case hQ23z => exact fun _ _ _ h => h
        case hy23z =>
          exact Or.inr ⟨rfl, rfl⟩
        case hS23z => assumption
        try simp only [Act.put, List.setIfInBounds_toArray, List.set_cons_zero, List.set_cons_succ]
        refine wpAnyH_take (i := 24) (oi := ?oi24z) (v := ?v24z) ?hi24z ?hs24z ?hf24z ?hr24z ?hQ24z ?hy24z ?hS24z ?h24z
        case hi24z => exact (by simp only [List.getElem?_toArray, List.getElem?_cons_succ, List.getElem?_cons_zero]; rfl)
        case hs24z => kernel_rfl
        case hf24z => kernel_rfl
        case hr24z => kernel_rfl
        case hQ24z => exact fun _ _ _ h => h
        case hy24z =>
          refine Or.inl ⟨rfl, ?_⟩
          intro W hSw
          obtain ⟨⟨y0, y1, y2, y3, y4⟩, z0, z1⟩ := hSw
          go_simp
          try with_reducible rfl
        case hS24z => assumption
        try simp only [Act.put, List.setIfInBounds_toArray, List.set_cons_zero, List.set_cons_succ]
        refine wpAnyH_take (i := 25) (oi := ?oi25z) (v := ?v25z) ?hi25z ?hs25z ?hf25z ?hr25z ?hQ25z ?hy25z ?hS25z ?h25z
        case hi25z => exact (by simp only [List.getElem?_toArray, List.getElem?_cons_succ, List.getElem?_cons_zero]; rfl)
        case hs25z => kernel_rfl
        case hf25z => kernel_rfl
        case hr25z => kernel_rfl
        case hQ25z => exact fun _ _ _ h => h
        case hy25z =>
          refine Or.inl ⟨rfl, ?_⟩
          intro W hSw
          obtain ⟨⟨y0, y1, y2, y3, y4⟩, z0, z1⟩ := hSw
          go_simp
          try with_reducible rfl
        case hS25z => assumption
        try simp only [Act.put, List.setIfInBounds_toArray, List.set_cons_zero, List.set_cons_succ]
        refine wpAnyH_take (i := 26) (oi := ?oi26z) (v := ?v26z) ?hi26z ?hs26z ?hf26z ?hr26z ?hQ26z ?hy26z ?hS26z ?h26z
        case hi26z => exact (by simp only [List.getElem?_toArray, List.getElem?_cons_succ, List.getElem?_cons_zero]; rfl)
        case hs26z => kernel_rfl
        case hf26z => kernel_rfl
        case hr26z => kernel_rfl
        case hQ26z => exact fun _ _ _ h => h
        case hy26z =>
          refine Or.inl ⟨rfl, ?_⟩
          intro W hSw
          obtain ⟨⟨y0, y1, y2, y3, y4⟩, z0, z1⟩ := hSw
          go_simp
          try with_reducible rfl
        case hS26z => assumption
        try simp only [Act.put, List.setIfInBounds_toArray, List.set_cons_zero, List.set_cons_succ]
        refine wpAnyH_ready (rs := [27]) (by kernel_rfl) (by simp) ?_
        refine AllReadyH.cons (o := _) rfl (fun K hK => ?_) AllReadyH.nil
        go_simp
        refine (pawake Wz1).mono ?_
        rintro r Wz2 ⟨rfl, hbq⟩
        have HBz2 := Lib.hid (HBz1.out.trans (hbq.mono HBz1.out.size))
        clear hbq
        refine hK.out _ _ (HCE.out _ (HBz2.out)) (fun hHeld => ?_)
        clear hK K
        try simp only [Act.put, List.setIfInBounds_toArray, List.set_cons_zero, List.set_cons_succ]
        refine wpAnyH_take (i := 28) (oi := ?oi28z) (v := ?v28z) ?hi28z ?hs28z ?hf28z ?hr28z ?hQ28z ?hy28z ?hS28z ?h28z
        case hi28z => exact (by simp only [List.getElem?_toArray, List.getElem?_cons_succ, List.getElem?_cons_zero]; rfl)
        case hs28z => kernel_rfl
        case hf28z => kernel_rfl
        case hr28z => kernel_rfl
        case hQ28z => exact fun _ _ _ h => h
        case hy28z =>
          refine Or.inl ⟨rfl, ?_⟩
          intro W hSw
          obtain ⟨⟨y0, y1, y2, y3, y4⟩, z0, z1⟩ := hSw
          go_simp
          try with_reducible rfl
        case hS28z => assumption
        try simp only [Act.put, List.setIfInBounds_toArray, List.set_cons_zero, List.set_cons_succ]
        refine wpAnyH_take (i := 29) (oi := ?oi29z) (v := ?v29z) ?hi29z ?hs29z ?hf29z ?hr29z ?hQ29z ?hy29z ?hS29z ?h29z
        case hi29z => exact (by simp only [List.getElem?_toArray, List.getElem?_cons_succ, List.getElem?_cons_zero]; rfl)
        case hs29z => kernel_rfl
        case hf29z => kernel_rfl
        case hr29z => kernel_rfl
        case hQ29z => exact fun _ _ _ h => h
        case hy29z =>
          refine Or.inl ⟨rfl, ?_⟩
          intro W hSw
          obtain ⟨⟨y0, y1, y2, y3, y4⟩, z0, z1⟩ := hSw
          go_simp
          try with_reducible rfl
        case hS29z => assumption
        try simp only [Act.put, List.setIfInBounds_toArray, List.set_cons_zero, List.set_cons_succ]
        refine wpAnyH_done (by kernel_rfl) ?_ _
        try go_wp2
        go_ret
        exact ⟨rfl, HB2.out.trans (HBz2.out.mono HB2.out.size)⟩
  · have hef : mw.isEmpty = false := by simpa using he
    have a0 : A = 0 := by rw [HA.out, win, if_neg (by rw [← HMW.out]; exact he)]
    subst a0
    obtain ⟨⟨c0, c1, c2, c3, c4⟩, d0, d1⟩ := HCE.out w3 HB3.out
    go_wp2_with fail
    refine (HW1.out w3).mono ?_
    rintro r w4 ⟨rfl, hb4⟩
    have HB4 := Lib.hid (HB3.out.trans (hb4.mono HB3.out.size))
    clear hb4
    go_wp2_with fail
    refine (pawake w4).mono ?_
    rintro r w5 ⟨rfl, hb5⟩
    go_wp2
    go_ret
    exact ⟨rfl, HB2.out.trans ((HB4.out.trans (hb5.mono HB4.out.size)).mono HB2.out.size)⟩
end Go.Proofs.Ytpomddmeachbbaa
