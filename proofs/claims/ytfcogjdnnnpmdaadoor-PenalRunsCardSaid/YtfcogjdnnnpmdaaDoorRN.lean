/- Penal: a book's New of any size, Hit of a full book, Banned. -/
import Derived.Test.YtfcogjdnnnpmdaaDoorRF
namespace Go.Proofs.YtfcogjdnnnpmdaaDoor
open Go.RowKit
set_option maxRecDepth 20000

set_option maxHeartbeats 1000000 in
theorem bnew_any (m : Int) (w : World) : Calls Tryd.prog 17 #[.int .i64 m] w fun r w' => ∃ B R : Nat, r = .returned (.pointer (some ⟨B, 0, none⟩)) ∧ w.heap.size ≤ R ∧ w.heap.size ≤ B ∧ BkRow w' B R ∧ IsR w' R (max m 0) (.slice none 0 0) (.slice none 0 0) [] [] ∧ Below w.heap.size w w' := by
  go_enter Tryd.func17, Tryd.ntmps17
  go_wp2_with fail
  refine (new_any _ _).mono ?_
  rintro r w1 ⟨rfl, h1, hb1⟩
  have H1 := Lib.hid h1
  clear h1
  go_wp2_with fail
  go_ret
  exact ⟨w1.heap.size, w.heap.size, rfl, Nat.le_refl _, hb1.size, heap_alloc_new w1 _, H1.out.after ((Below.refl _ _).alloc (Nat.le_refl _) _), hb1.alloc hb1.size _⟩
set_option maxHeartbeats 1000000 in
theorem bhit_full (B R x : Nat) (l s u now M U : Int) (t : Bool) (w : World) (hB : BkRow w B R) (hG : GetsM w R x l s u t)
    (hH : ∀ W, Below w.heap.size w W → Calls Tryd.prog 12 #[mV l s u, .int .i64 now] W fun r w' => r = .returned (mV M now U) ∧ Below W.heap.size W w')
    (hP : ∀ W, Below w.heap.size w W → Calls Tryd.prog 34 #[.pointer (some ⟨R, 0, none⟩), .int .u32 (x : Int), mV M now U] W fun r w' => r = .returned (.int .i64 10) ∧ Below W.heap.size W w') :
    Calls Tryd.prog 18 #[.pointer (some ⟨B, 0, none⟩), .int .u32 (x : Int), .int .i64 now] w fun r w' => r = .returned (.tuple #[mV 0 0 0, .int .i64 10]) ∧ Below w.heap.size w w' := by
  have HG := Lib.hid hG
  have HH := Lib.hid hH
  have HP := Lib.hid hP
  have c0 := cell_of_one hB
  have HBL := Lib.hid (lt_of_block hB)
  have hBl := lt_of_block hB
  obtain ⟨w0, hw0⟩ : ∃ w0, w0 = w.alloc (.cells (mC 0 0 0) 24) := ⟨_, rfl⟩
  have HB0 : Hid (Below w.heap.size w w0) := by rw [hw0]; exact (Below.refl _ _).alloc (Nat.le_refl _) _
  have H0 := Lib.hid hw0
  have hq0 : w0.heap[w.heap.size]? = some (.cells (mC 0 0 0) 24 (0, 0)) := by rw [hw0]; exact heap_alloc_new w _
  have HQ0 := Lib.hid hq0
  clear hG hw0 hq0 hH hP
  go_enter Tryd.func18, Tryd.ntmps18
  go_wp2_with fail
  rw [← H0.out]
  refine (HG.out _ HB0.out).mono ?_
  rintro r w1 ⟨rfl, hb1⟩
  have HQ1 := Lib.hid (((Below.refl _ w1).alloc (Nat.le_refl _) (.cells (mC l s u) 24)).block w.heap.size (lt_of_block ((hb1.block _ (lt_of_block HQ0.out)).trans HQ0.out)) |>.trans ((hb1.block _ (lt_of_block HQ0.out)).trans HQ0.out))
  have HB1 : Hid (Below w.heap.size w (w1.alloc (.cells (mC l s u) 24))) := (HB0.out.trans (hb1.mono HB0.out.size)).alloc (Nat.le_trans HB0.out.size hb1.size) _
  have HQM : Hid ((w1.alloc (.cells (mC l s u) 24)).heap[w1.heap.size]? = some (.cells (mC l s u) 24 (0, 0))) := heap_alloc_new w1 _
  have HM1 : Hid (w.heap.size < w1.heap.size) := lt_of_block ((hb1.block _ (lt_of_block HQ0.out)).trans HQ0.out)
  clear hb1
  go_wp2_with fail
  refine (HH.out _ HB1.out).mono ?_
  rintro r w2 ⟨rfl, hb2⟩
  have hqm := (hb2.block _ (lt_of_block HQM.out)).trans HQM.out
  have hq2 := (hb2.block _ (lt_of_block HQ1.out)).trans HQ1.out
  have b0 : w2.cell? ⟨w1.heap.size, 0, none⟩ = some (.int .i64 l) := by rw [cell_of_row w2 _ _ _ _ _ hqm]; rfl
  have b1 : w2.cell? ⟨w1.heap.size, 1, none⟩ = some (.int .i64 s) := by rw [cell_of_row w2 _ _ _ _ _ hqm]; rfl
  have b2 : w2.cell? ⟨w1.heap.size, 2, none⟩ = some (.int .i64 u) := by rw [cell_of_row w2 _ _ _ _ _ hqm]; rfl
  have bf : ∀ i, w2.frozen? ⟨w1.heap.size, i, none⟩ = false := fun i => frozen_of_row w2 _ i _ _ hqm
  have bb : w2.cell? ⟨B, 0, none⟩ = some (.pointer (some ⟨R, 0, none⟩)) := ((HB1.out.trans (hb2.mono HB1.out.size)).cell (p := ⟨B, 0, none⟩) HBL.out).trans c0
  obtain ⟨w3, hw3⟩ : ∃ w3, w3 = (((w2.setCell ⟨w1.heap.size, 0, none⟩ (.int .i64 M)).setCell ⟨w1.heap.size, 1, none⟩ (.int .i64 now)).setCell ⟨w1.heap.size, 2, none⟩ (.int .i64 U)) := ⟨_, rfl⟩
  have H3 := Lib.hid hw3
  go_wp2_with fail
  rw [← H3.out]
  obtain ⟨V, hV⟩ : ∃ V, V = w3.drew := ⟨_, rfl⟩
  have HS : Hid (∀ W : World, W.heap[B]? = some (.cells #[.pointer (some ⟨R, 0, none⟩)] 67 (0, 0)) → W.heap[w1.heap.size]? = some (.cells (mC M now U) 24 (0, 0)) → W.cell? ⟨B, 0, none⟩ = some (.pointer (some ⟨R, 0, none⟩)) ∧ W.cell? ⟨w1.heap.size, 0, none⟩ = some (.int .i64 M) ∧ W.cell? ⟨w1.heap.size, 1, none⟩ = some (.int .i64 now) ∧ W.cell? ⟨w1.heap.size, 2, none⟩ = some (.int .i64 U)) := fun W a b => ⟨cell_of_one a, by rw [cell_of_row W _ _ _ _ _ b]; rfl, by rw [cell_of_row W _ _ _ _ _ b]; rfl, by rw [cell_of_row W _ _ _ _ _ b]; rfl⟩
  have hm1 : w.heap.size < w1.heap.size := HM1.out
  have HVM : Hid (V.heap[w1.heap.size]? = some (.cells (mC M now U) 24 (0, 0))) := by rw [hV, H3.out]; exact (three (.int .i64 M) (.int .i64 now) (.int .i64 U) hqm).2.2.2
  have hoth : ∀ k, k ≠ w1.heap.size → V.heap[k]? = w2.heap[k]? := fun k hk => by
    rw [hV, H3.out]
    show ((w2.setCell _ _).setCell _ _ |>.setCell _ _).heap[k]? = _
    rw [Below.heap_setCell _ _ _ _ hk, Below.heap_setCell _ _ _ _ hk, Below.heap_setCell _ _ _ _ hk]
  have HVB : Hid (Below w.heap.size w V) := by rw [hV, H3.out]; exact (three_below _ _ _ (HB1.out.trans (hb2.mono HB1.out.size)) (Nat.le_of_lt hm1)).drew
  have HVR : Hid (V.heap[w.heap.size]? = some (.cells (mC 0 0 0) 24 (0, 0))) := (hoth _ (by omega)).trans hq2
  have HVK : Hid (V.heap[B]? = some (.cells #[.pointer (some ⟨R, 0, none⟩)] 67 (0, 0))) := (HVB.out.block B HBL.out).trans hB
  have HC := Lib.hid (HP.out V HVB.out)
  have HV := Lib.hid hV
  clear hb2 hqm hq2 b0 b1 b2 bf bb hw3 c0 hB hoth hV hm1
  refine wp_region_held_drew (S := fun W : World => W.cell? ⟨B, 0, none⟩ = some (.pointer (some ⟨R, 0, none⟩)) ∧ W.cell? ⟨w1.heap.size, 0, none⟩ = some (.int .i64 M) ∧ W.cell? ⟨w1.heap.size, 1, none⟩ = some (.int .i64 now) ∧ W.cell? ⟨w1.heap.size, 2, none⟩ = some (.int .i64 U)) (by kernel_rfl) (by rw [← HV.out]; exact HS.out V HVK.out HVM.out) (fun hHeld => ?_)
  rw [← HV.out] at hHeld ⊢
  refine wpAnyH_take (i := 0) (oi := ?oi0r) (v := ?v0r) ?hi0r ?hs0r ?hf0r ?hr0r ?hQ0r ?hy0r ?hS0r ?h0r
  case hi0r => exact (by simp only [List.getElem?_toArray, List.getElem?_cons_zero]; rfl)
  case hs0r => kernel_rfl
  case hf0r => kernel_rfl
  case hr0r => kernel_rfl
  case hQ0r => exact fun _ _ _ h => h
  case hy0r =>
    refine Or.inl ⟨rfl, ?_⟩
    intro W hSw
    obtain ⟨q0, q1, q2, q3⟩ := hSw
    go_simp
    try with_reducible rfl
  case hS0r => assumption
  try simp only [Act.put, List.setIfInBounds_toArray, List.set_cons_zero, List.set_cons_succ]
  refine wpAnyH_take (i := 1) (oi := ?oi1r) (v := ?v1r) ?hi1r ?hs1r ?hf1r ?hr1r ?hQ1r ?hy1r ?hS1r ?h1r
  case hi1r => exact (by simp only [List.getElem?_toArray, List.getElem?_cons_succ, List.getElem?_cons_zero]; rfl)
  case hs1r => kernel_rfl
  case hf1r => kernel_rfl
  case hr1r => kernel_rfl
  case hQ1r => exact fun _ _ _ h => h
  case hy1r =>
    refine Or.inl ⟨rfl, ?_⟩
    intro W hSw
    obtain ⟨q0, q1, q2, q3⟩ := hSw
    go_simp
    try with_reducible rfl
  case hS1r => assumption
  try simp only [Act.put, List.setIfInBounds_toArray, List.set_cons_zero, List.set_cons_succ]
  refine wpAnyH_take (i := 2) (oi := ?oi2r) (v := ?v2r) ?hi2r ?hs2r ?hf2r ?hr2r ?hQ2r ?hy2r ?hS2r ?h2r
  case hi2r => exact (by simp only [List.getElem?_toArray, List.getElem?_cons_succ, List.getElem?_cons_zero]; rfl)
  case hs2r => kernel_rfl
  case hf2r => kernel_rfl
  case hr2r => kernel_rfl
  case hQ2r => exact fun _ _ _ h => h
  case hy2r =>
    refine Or.inl ⟨rfl, ?_⟩
    intro W hSw
    obtain ⟨q0, q1, q2, q3⟩ := hSw
    go_simp
    try with_reducible rfl
  case hS2r => assumption
  try simp only [Act.put, List.setIfInBounds_toArray, List.set_cons_zero, List.set_cons_succ]
  refine wpAnyH_take (i := 3) (oi := ?oi3r) (v := ?v3r) ?hi3r ?hs3r ?hf3r ?hr3r ?hQ3r ?hy3r ?hS3r ?h3r
  case hi3r => exact (by simp only [List.getElem?_toArray, List.getElem?_cons_succ, List.getElem?_cons_zero]; rfl)
  case hs3r => kernel_rfl
  case hf3r => kernel_rfl
  case hr3r => kernel_rfl
  case hQ3r => exact fun _ _ _ h => h
  case hy3r =>
    refine Or.inl ⟨rfl, ?_⟩
    intro W hSw
    obtain ⟨q0, q1, q2, q3⟩ := hSw
    go_simp
    try with_reducible rfl
  case hS3r => assumption
  try simp only [Act.put, List.setIfInBounds_toArray, List.set_cons_zero, List.set_cons_succ]
  refine wpAnyH_take (i := 4) (oi := ?oi4r) (v := ?v4r) ?hi4r ?hs4r ?hf4r ?hr4r ?hQ4r ?hy4r ?hS4r ?h4r
  case hi4r => exact (by simp only [List.getElem?_toArray, List.getElem?_cons_succ, List.getElem?_cons_zero]; rfl)
  case hs4r => kernel_rfl
  case hf4r => kernel_rfl
  case hr4r => kernel_rfl
  case hQ4r => exact fun _ _ _ h => h
  case hy4r =>
    refine Or.inl ⟨rfl, ?_⟩
    intro W hSw
    obtain ⟨q0, q1, q2, q3⟩ := hSw
    go_simp
    try with_reducible rfl
  case hS4r => assumption
  try simp only [Act.put, List.setIfInBounds_toArray, List.set_cons_zero, List.set_cons_succ]
  refine wpAnyH_take (i := 5) (oi := ?oi5r) (v := ?v5r) ?hi5r ?hs5r ?hf5r ?hr5r ?hQ5r ?hy5r ?hS5r ?h5r
  case hi5r => exact (by simp only [List.getElem?_toArray, List.getElem?_cons_succ, List.getElem?_cons_zero]; rfl)
  case hs5r => kernel_rfl
  case hf5r => kernel_rfl
  case hr5r => kernel_rfl
  case hQ5r => exact fun _ _ _ h => h
  case hy5r =>
    refine Or.inl ⟨rfl, ?_⟩
    intro W hSw
    obtain ⟨q0, q1, q2, q3⟩ := hSw
    go_simp
    try with_reducible rfl
  case hS5r => assumption
  try simp only [Act.put, List.setIfInBounds_toArray, List.set_cons_zero, List.set_cons_succ]
  refine wpAnyH_ready (rs := [6]) (by kernel_rfl) (by simp) ?_
  refine AllReadyH.cons (o := _) rfl (fun K hK => ?_) AllReadyH.nil
  go_simp
  refine HC.out.mono ?_
  rintro r w4 ⟨rfl, hb4⟩
  have hM4 := (hb4.block w1.heap.size (lt_of_block HVM.out)).trans HVM.out
  have hR4 := (hb4.block w.heap.size (lt_of_block HVR.out)).trans HVR.out
  have hK4 := (hb4.block B (lt_of_block HVK.out)).trans HVK.out
  have HB4 := Lib.hid (HVB.out.trans (hb4.mono HVB.out.size))
  have HM4 := Lib.hid hM4
  have HR4 := Lib.hid hR4
  have HT5 := Lib.hid (three (.int .i64 0) (.int .i64 0) (.int .i64 0) hR4)
  refine hK.out _ _ (HS.out w4 hK4 hM4) (fun hHeld => ?_)
  clear hK K hM4 hR4 hK4 hb4
  try simp only [Act.put, List.setIfInBounds_toArray, List.set_cons_zero, List.set_cons_succ]
  refine wpAnyH_take (i := 7) (oi := ?oi7r) (v := ?v7r) ?hi7r ?hs7r ?hf7r ?hr7r ?hQ7r ?hy7r ?hS7r ?h7r
  case hi7r => exact (by simp only [List.getElem?_toArray, List.getElem?_cons_succ, List.getElem?_cons_zero]; rfl)
  case hs7r => kernel_rfl
  case hf7r => kernel_rfl
  case hr7r => kernel_rfl
  case hQ7r => exact fun _ _ _ h => h
  case hy7r =>
    refine Or.inl ⟨rfl, ?_⟩
    intro W hSw
    obtain ⟨q0, q1, q2, q3⟩ := hSw
    go_simp
    try with_reducible rfl
  case hS7r => assumption
  try simp only [Act.put, List.setIfInBounds_toArray, List.set_cons_zero, List.set_cons_succ]
  refine wpAnyH_done (by kernel_rfl) ?_ _
  have g0 : w4.cell? ⟨w1.heap.size, 0, none⟩ = some (.int .i64 M) := by rw [cell_of_row w4 _ _ _ _ _ HM4.out]; rfl
  have g1 : w4.cell? ⟨w1.heap.size, 1, none⟩ = some (.int .i64 now) := by rw [cell_of_row w4 _ _ _ _ _ HM4.out]; rfl
  have g2 : w4.cell? ⟨w1.heap.size, 2, none⟩ = some (.int .i64 U) := by rw [cell_of_row w4 _ _ _ _ _ HM4.out]; rfl
  have r0 : w4.cell? ⟨w.heap.size, 0, none⟩ = some (.int .i64 0) := by rw [cell_of_row w4 _ _ _ _ _ HR4.out]; rfl
  have r1 : w4.cell? ⟨w.heap.size, 1, none⟩ = some (.int .i64 0) := by rw [cell_of_row w4 _ _ _ _ _ HR4.out]; rfl
  have r2 : w4.cell? ⟨w.heap.size, 2, none⟩ = some (.int .i64 0) := by rw [cell_of_row w4 _ _ _ _ _ HR4.out]; rfl
  have rf : ∀ i, w4.frozen? ⟨w.heap.size, i, none⟩ = false := fun i => frozen_of_row w4 _ i _ _ HR4.out
  go_wp2
  obtain ⟨e0, e1, e2, _⟩ := HT5.out
  exact bodyPost_ret (v := .tuple #[mV 0 0 0, .int .i64 10]) (by simp [results, Tryd.results18, go_sem, e0, e1, e2]) rfl ⟨rfl, three_below _ _ _ HB4.out (Nat.le_refl _)⟩


set_option maxHeartbeats 1000000 in
theorem bbanned_yes (B x : Nat) (L S U now z : Int) (w : World) (hM : Calls Tryd.prog 23 #[.pointer (some ⟨B, 0, none⟩), .int .u32 (x : Int), .int .i64 now] w fun r w' => r = .returned (mV L S U) ∧ Below w.heap.size w w') (hu : inI U) (hn : inI now) (hz : min (btw now U) 9223372036854775807 = z) (h0 : 0 < z) :
    Calls Tryd.prog 24 #[.pointer (some ⟨B, 0, none⟩), .int .u32 (x : Int), .int .i64 now] w fun r w' => r = .returned (.bool true) ∧ Below w.heap.size w w' := by
  have HM := Lib.hid hM
  have HL : Hid (∀ W, Calls Tryd.prog 14 #[mV L S U, .int .i64 now] W fun r w' => r = .returned (.int .i64 z) ∧ Below W.heap.size W w') := fun W => by
    have h := left_any L S U now W hu hn
    rw [hz] at h
    exact h
  clear hM hz
  have h1 : z > 0 := h0
  go_enter Tryd.func24, Tryd.ntmps24
  go_wp2_with fail
  refine HM.out.mono ?_
  rintro r w1 ⟨rfl, hb1⟩
  go_wp2_with fail
  refine (HL.out _).mono ?_
  rintro r w2 ⟨rfl, hb2⟩
  go_wp2_with fail
  go_ret
  exact ⟨by first | rfl | simp [h0] | simp [h1], hb1.trans (hb2.mono hb1.size)⟩
theorem bbanned_any (B x : Nat) (L S U now : Int) (w : World) (hM : Calls Tryd.prog 23 #[.pointer (some ⟨B, 0, none⟩), .int .u32 (x : Int), .int .i64 now] w fun r w' => r = .returned (mV L S U) ∧ Below w.heap.size w w') (hu : inI U) (hn : inI now) :
    Calls Tryd.prog 24 #[.pointer (some ⟨B, 0, none⟩), .int .u32 (x : Int), .int .i64 now] w fun r w' => r = .returned (.bool (decide (now < U))) ∧ Below w.heap.size w w' := by
  have hb := btw_bd now U hn hu
  by_cases h : now < U
  · have hd : decide (now < U) = true := by rw [decide_eq_true_iff]; exact h
    rw [hd]
    have := hb.2.2.1 h
    exact bbanned_yes B x L S U now _ w hM hu hn rfl (by omega)
  · have hd : decide (now < U) = false := by rw [decide_eq_false_iff_not]; exact h
    rw [hd]
    exact bbanned B x L S U now w hM hu hn (hb.2.2.2 (by omega))
end Go.Proofs.YtfcogjdnnnpmdaaDoor
