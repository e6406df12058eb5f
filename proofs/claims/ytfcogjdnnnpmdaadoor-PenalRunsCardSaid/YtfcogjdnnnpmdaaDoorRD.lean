/- Penal: a book's Hit. -/
import Derived.Test.YtfcogjdnnnpmdaaDoorRC
namespace Go.Proofs.YtfcogjdnnnpmdaaDoor
open Go.RowKit
set_option maxRecDepth 20000

set_option maxHeartbeats 1000000 in
theorem bhit_ok (B R x : Nat) (l s u now M U most : Int) (t : Bool) (vi vt : Value) (ids' : List Nat) (ths' : List Mk) (w : World) (hB : BkRow w B R) (hRw : R < w.heap.size) (hG : GetsM w R x l s u t)
    (hH : ∀ W, Below w.heap.size w W → Calls Tryd.prog 12 #[mV l s u, .int .i64 now] W fun r w' => r = .returned (mV M now U) ∧ Below W.heap.size W w') (hM : M ≠ 0) (hne : B ≠ R ∧ vi.ownBlock ≠ some B ∧ vt.ownBlock ≠ some B)
    (hvi : ∀ g, vi.ownBlock = some g → g < w.heap.size) (hvt : ∀ g, vt.ownBlock = some g → g < w.heap.size)
    (hP : ∀ W, Below w.heap.size w W → Calls Tryd.prog 34 #[.pointer (some ⟨R, 0, none⟩), .int .u32 (x : Int), mV M now U] W fun r w' => r = .returned (.int .i64 0) ∧ ChR R vi vt W w' ∧ ∃ (p : Nat) (vi' vt' : Value), IsR w' R most vi' vt' ids' ths' ∧ ths'[p]? = some (M, now, U)) :
    Calls Tryd.prog 18 #[.pointer (some ⟨B, 0, none⟩), .int .u32 (x : Int), .int .i64 now] w fun r w' => r = .returned (.tuple #[mV M now U, .int .i64 0]) ∧ ChR R vi vt w w' ∧ ∃ vi' vt', IsR w' R most vi' vt' ids' ths' := by
  have HG := Lib.hid hG
  have HH := Lib.hid hH
  have HP := Lib.hid hP
  have HVI := Lib.hid hvi
  have HVT := Lib.hid hvt
  have HRW := Lib.hid hRw
  have HM := Lib.hid hM
  have HNE := Lib.hid hne
  have c0 := cell_of_one hB
  have HBL := Lib.hid (lt_of_block hB)
  have hBl := lt_of_block hB
  obtain ⟨w0, hw0⟩ : ∃ w0, w0 = w.alloc (.cells (mC 0 0 0) 24) := ⟨_, rfl⟩
  have HB0 : Hid (Below w.heap.size w w0) := by rw [hw0]; exact (Below.refl _ _).alloc (Nat.le_refl _) _
  have H0 := Lib.hid hw0
  have hq0 : w0.heap[w.heap.size]? = some (.cells (mC 0 0 0) 24 (0, 0)) := by rw [hw0]; exact heap_alloc_new w _
  have HQ0 := Lib.hid hq0
  clear hG hw0 hq0 hH hP hvi hvt hRw hM hne
  go_enter Tryd.func18, Tryd.ntmps18
  go_wp2_with fail
  rw [← H0.out]
  refine (HG.out _ HB0.out).mono ?_
  rintro r w1 ⟨rfl, hb1⟩
  have HQ1 := Lib.hid (((Below.refl _ w1).alloc (Nat.le_refl _) (.cells (mC l s u) 24)).block w.heap.size (lt_of_block ((hb1.block _ (lt_of_block HQ0.out)).trans HQ0.out)) |>.trans ((hb1.block _ (lt_of_block HQ0.out)).trans HQ0.out))
  have HB1 : Hid (Below w.heap.size w (w1.alloc (.cells (mC l s u) 24))) := (HB0.out.trans (hb1.mono HB0.out.size)).alloc (Nat.le_trans HB0.out.size hb1.size) _
  have HQM : Hid ((w1.alloc (.cells (mC l s u) 24)).heap[w1.heap.size]? = some (.cells (mC l s u) 24 (0, 0))) := heap_alloc_new w1 _
  have HM1 : Hid (w.heap.size < w1.heap.size) := lt_of_block ((hb1.block _ (lt_of_block HQ0.out)).trans HQ0.out)
  clear hb1
  go_wp2_with fail
  refine (HH.out _ HB1.out).mono ?_
  rintro r w2 ⟨rfl, hb2⟩
  have hqm := (hb2.block _ (lt_of_block HQM.out)).trans HQM.out
  have hq2 := (hb2.block _ (lt_of_block HQ1.out)).trans HQ1.out
  have b0 : w2.cell? ⟨w1.heap.size, 0, none⟩ = some (.int .i64 l) := by rw [cell_of_row w2 _ _ _ _ _ hqm]; rfl
  have b1 : w2.cell? ⟨w1.heap.size, 1, none⟩ = some (.int .i64 s) := by rw [cell_of_row w2 _ _ _ _ _ hqm]; rfl
  have b2 : w2.cell? ⟨w1.heap.size, 2, none⟩ = some (.int .i64 u) := by rw [cell_of_row w2 _ _ _ _ _ hqm]; rfl
  have bf : ∀ i, w2.frozen? ⟨w1.heap.size, i, none⟩ = false := fun i => frozen_of_row w2 _ i _ _ hqm
  have bb : w2.cell? ⟨B, 0, none⟩ = some (.pointer (some ⟨R, 0, none⟩)) := ((HB1.out.trans (hb2.mono HB1.out.size)).cell (p := ⟨B, 0, none⟩) HBL.out).trans c0
  obtain ⟨w3, hw3⟩ : ∃ w3, w3 = (((w2.setCell ⟨w1.heap.size, 0, none⟩ (.int .i64 M)).setCell ⟨w1.heap.size, 1, none⟩ (.int .i64 now)).setCell ⟨w1.heap.size, 2, none⟩ (.int .i64 U)) := ⟨_, rfl⟩
  have H3 := Lib.hid hw3
  go_wp2_with fail
  rw [← H3.out]
  obtain ⟨V, hV⟩ : ∃ V, V = w3.drew := ⟨_, rfl⟩
  have HS : Hid (∀ W : World, W.heap[B]? = some (.cells #[.pointer (some ⟨R, 0, none⟩)] 67 (0, 0)) → W.heap[w1.heap.size]? = some (.cells (mC M now U) 24 (0, 0)) → W.cell? ⟨B, 0, none⟩ = some (.pointer (some ⟨R, 0, none⟩)) ∧ W.cell? ⟨w1.heap.size, 0, none⟩ = some (.int .i64 M) ∧ W.cell? ⟨w1.heap.size, 1, none⟩ = some (.int .i64 now) ∧ W.cell? ⟨w1.heap.size, 2, none⟩ = some (.int .i64 U)) := fun W a b => ⟨cell_of_one a, by rw [cell_of_row W _ _ _ _ _ b]; rfl, by rw [cell_of_row W _ _ _ _ _ b]; rfl, by rw [cell_of_row W _ _ _ _ _ b]; rfl⟩
  have hm1 : w.heap.size < w1.heap.size := HM1.out
  have HVM : Hid (V.heap[w1.heap.size]? = some (.cells (mC M now U) 24 (0, 0))) := by rw [hV, H3.out]; exact (three (.int .i64 M) (.int .i64 now) (.int .i64 U) hqm).2.2.2
  have hoth : ∀ k, k ≠ w1.heap.size → V.heap[k]? = w2.heap[k]? := fun k hk => by
    rw [hV, H3.out]
    show ((w2.setCell _ _).setCell _ _ |>.setCell _ _).heap[k]? = _
    rw [Below.heap_setCell _ _ _ _ hk, Below.heap_setCell _ _ _ _ hk, Below.heap_setCell _ _ _ _ hk]
  have HVB : Hid (Below w.heap.size w V) := by rw [hV, H3.out]; exact (three_below _ _ _ (HB1.out.trans (hb2.mono HB1.out.size)) (Nat.le_of_lt hm1)).drew
  have HVR : Hid (V.heap[w.heap.size]? = some (.cells (mC 0 0 0) 24 (0, 0))) := (hoth _ (by omega)).trans hq2
  have HVK : Hid (V.heap[B]? = some (.cells #[.pointer (some ⟨R, 0, none⟩)] 67 (0, 0))) := (HVB.out.block B HBL.out).trans hB
  have HC := Lib.hid (HP.out V HVB.out)
  have HV := Lib.hid hV
  clear hb2 hqm hq2 b0 b1 b2 bf bb hw3 c0 hB hoth hV hm1
  refine wp_region_held_drew (S := fun W : World => W.cell? ⟨B, 0, none⟩ = some (.pointer (some ⟨R, 0, none⟩)) ∧ W.cell? ⟨w1.heap.size, 0, none⟩ = some (.int .i64 M) ∧ W.cell? ⟨w1.heap.size, 1, none⟩ = some (.int .i64 now) ∧ W.cell? ⟨w1.heap.size, 2, none⟩ = some (.int .i64 U)) (by kernel_rfl) (by rw [← HV.out]; exact HS.out V HVK.out HVM.out) (fun hHeld => ?_)
  rw [← HV.out] at hHeld ⊢
  refine wpAnyH_take (i := 0) (oi := ?oi0r) (v := ?v0r) ?hi0r ?hs0r ?hf0r ?hr0r ?hQ0r ?hy0r ?hS0r ?h0r
  case hi0r => exact (by simp only [List.getElem?_toArray, List.getElem?_cons_zero]; rfl)
  case hs0r => kernel_rfl
  case hf0r => kernel_rfl
  case hr0r => kernel_rfl
  case hQ0r => exact fun _ _ _ h => h
  case hy0r =>
    refine Or.inl ⟨rfl, ?_⟩
    intro W hSw
    obtain ⟨q0, q1, q2, q3⟩ := hSw
    go_simp
    try with_reducible rfl
  case hS0r => assumption
  try simp only [Act.put, List.setIfInBounds_toArray, List.set_cons_zero, List.set_cons_succ]
  refine wpAnyH_take (i := 1) (oi := ?oi1r) (v := ?v1r) ?hi1r ?hs1r ?hf1r ?hr1r ?hQ1r ?hy1r ?hS1r ?h1r
  case hi1r => exact (by simp only [List.getElem?_toArray, List.getElem?_cons_succ, List.getElem?_cons_zero]; rfl)
  case hs1r => kernel_rfl
  case hf1r => kernel_rfl
  case hr1r => kernel_rfl
  case hQ1r => exact fun _ _ _ h => h
  case hy1r =>
    refine Or.inl ⟨rfl, ?_⟩
    intro W hSw
    obtain ⟨q0, q1, q2, q3⟩ := hSw
    go_simp
    try with_reducible rfl
  case hS1r => assumption
  try simp only [Act.put, List.setIfInBounds_toArray, List.set_cons_zero, List.set_cons_succ]
  refine wpAnyH_take (i := 2) (oi := ?oi2r) (v := ?v2r) ?hi2r ?hs2r ?hf2r ?hr2r ?hQ2r ?hy2r ?hS2r ?h2r
  case hi2r => exact (by simp only [List.getElem?_toArray, List.getElem?_cons_succ, List.getElem?_cons_zero]; rfl)
  case hs2r => kernel_rfl
  case hf2r => kernel_rfl
  case hr2r => kernel_rfl
  case hQ2r => exact fun _ _ _ h => h
  case hy2r =>
    refine Or.inl ⟨rfl, ?_⟩
    intro W hSw
    obtain ⟨q0, q1, q2, q3⟩ := hSw
    go_simp
    try with_reducible rfl
  case hS2r => assumption
  try simp only [Act.put, List.setIfInBounds_toArray, List.set_cons_zero, List.set_cons_succ]
  refine wpAnyH_take (i := 3) (oi := ?oi3r) (v := ?v3r) ?hi3r ?hs3r ?hf3r ?hr3r ?hQ3r ?hy3r ?hS3r ?h3r
  case hi3r => exact (by simp only [List.getElem?_toArray, List.getElem?_cons_succ, List.getElem?_cons_zero]; rfl)
  case hs3r => kernel_rfl
  case hf3r => kernel_rfl
  case hr3r => kernel_rfl
  case hQ3r => exact fun _ _ _ h => h
  case hy3r =>
    refine Or.inl ⟨rfl, ?_⟩
    intro W hSw
    obtain ⟨q0, q1, q2, q3⟩ := hSw
    go_simp
    try with_reducible rfl
  case hS3r => assumption
  try simp only [Act.put, List.setIfInBounds_toArray, List.set_cons_zero, List.set_cons_succ]
  refine wpAnyH_take (i := 4) (oi := ?oi4r) (v := ?v4r) ?hi4r ?hs4r ?hf4r ?hr4r ?hQ4r ?hy4r ?hS4r ?h4r
  case hi4r => exact (by simp only [List.getElem?_toArray, List.getElem?_cons_succ, List.getElem?_cons_zero]; rfl)
  case hs4r => kernel_rfl
  case hf4r => kernel_rfl
  case hr4r => kernel_rfl
  case hQ4r => exact fun _ _ _ h => h
  case hy4r =>
    refine Or.inl ⟨rfl, ?_⟩
    intro W hSw
    obtain ⟨q0, q1, q2, q3⟩ := hSw
    go_simp
    try with_reducible rfl
  case hS4r => assumption
  try simp only [Act.put, List.setIfInBounds_toArray, List.set_cons_zero, List.set_cons_succ]
  refine wpAnyH_take (i := 5) (oi := ?oi5r) (v := ?v5r) ?hi5r ?hs5r ?hf5r ?hr5r ?hQ5r ?hy5r ?hS5r ?h5r
  case hi5r => exact (by simp only [List.getElem?_toArray, List.getElem?_cons_succ, List.getElem?_cons_zero]; rfl)
  case hs5r => kernel_rfl
  case hf5r => kernel_rfl
  case hr5r => kernel_rfl
  case hQ5r => exact fun _ _ _ h => h
  case hy5r =>
    refine Or.inl ⟨rfl, ?_⟩
    intro W hSw
    obtain ⟨q0, q1, q2, q3⟩ := hSw
    go_simp
    try with_reducible rfl
  case hS5r => assumption
  try simp only [Act.put, List.setIfInBounds_toArray, List.set_cons_zero, List.set_cons_succ]
  refine wpAnyH_ready (rs := [6]) (by kernel_rfl) (by simp) ?_
  refine AllReadyH.cons (o := _) rfl (fun K hK => ?_) AllReadyH.nil
  go_simp
  refine HC.out.mono ?_
  rintro r w4 ⟨rfl, hc4, p, vi', vt', hr4, hp4⟩
  have hkeep : ∀ k, k < V.heap.size → k ≠ R → (∀ g, vi.ownBlock = some g → g ≠ k) → (∀ g, vt.ownBlock = some g → g ≠ k) → w4.heap[k]? = V.heap[k]? := fun k a1 a2 a3 a4 => hc4.2.2 k a1 a2 (fun e => a3 k e.symm rfl) (fun e => a4 k e.symm rfl)
  have hwV : w.heap.size ≤ V.heap.size := HVB.out.size
  have hRw : R < w.heap.size := HRW.out
  have hM4 := (hkeep w1.heap.size (lt_of_block HVM.out) (by have := HM1.out; omega) (fun g hg => by have := HVI.out g hg; have := HM1.out; omega) (fun g hg => by have := HVT.out g hg; have := HM1.out; omega)).trans HVM.out
  have hR4 := (hkeep w.heap.size (lt_of_block HVR.out) (by omega) (fun g hg => by have := HVI.out g hg; omega) (fun g hg => by have := HVT.out g hg; omega)).trans HVR.out
  have hK4 := (hkeep B (lt_of_block HVK.out) HNE.out.1 (fun g hg => by have := HNE.out.2.1; intro e; exact this (by rw [hg, e])) (fun g hg => by have := HNE.out.2.2; intro e; exact this (by rw [hg, e]))).trans HVK.out
  have hcW := ChR.from_below (Nat.le_of_lt hRw) HVB.out hc4
  have hi5 := hr4.three (b := w.heap.size) (x := .int .i64 M) (y := .int .i64 now) (z := .int .i64 U) (by omega) (fun e => by
    obtain ⟨c, hc⟩ := own_type hr4.rio e
    rw [hR4] at hc
    injection hc with hc
    injection hc with _ hc
    exact absurd hc (by decide)) (own_ne hr4 hR4 hp4 HM.out)
  have HI5 := Lib.hid hi5
  have HC5 : Hid (ChR R vi vt w (((w4.setCell ⟨w.heap.size, 0, none⟩ (.int .i64 M)).setCell ⟨w.heap.size, 1, none⟩ (.int .i64 now)).setCell ⟨w.heap.size, 2, none⟩ (.int .i64 U))) := by
    refine ⟨three_below _ _ _ hcW.1 (Nat.le_of_lt hRw), ?_, fun k b1 b2 b3 b4 => Eq.trans ?_ (hcW.2.2 k b1 b2 b3 b4)⟩
    · rw [World.size_setCell, World.size_setCell, World.size_setCell]
      exact hcW.2.1
    · have hk : k ≠ w.heap.size := by omega
      rw [Below.heap_setCell _ _ _ _ hk, Below.heap_setCell _ _ _ _ hk, Below.heap_setCell _ _ _ _ hk]
  have HM4 := Lib.hid hM4
  have HR4 := Lib.hid hR4
  have HT5 := Lib.hid (three (.int .i64 M) (.int .i64 now) (.int .i64 U) hR4)
  refine hK.out _ _ (HS.out w4 hK4 hM4) (fun hHeld => ?_)
  clear hK K hkeep hwV hRw hM4 hR4 hK4 hcW hi5 hc4 hr4 hp4
  try simp only [Act.put, List.setIfInBounds_toArray, List.set_cons_zero, List.set_cons_succ]
  refine wpAnyH_take (i := 7) (oi := ?oi7r) (v := ?v7r) ?hi7r ?hs7r ?hf7r ?hr7r ?hQ7r ?hy7r ?hS7r ?h7r
  case hi7r => exact (by simp only [List.getElem?_toArray, List.getElem?_cons_succ, List.getElem?_cons_zero]; rfl)
  case hs7r => kernel_rfl
  case hf7r => kernel_rfl
  case hr7r => kernel_rfl
  case hQ7r => exact fun _ _ _ h => h
  case hy7r =>
    refine Or.inl ⟨rfl, ?_⟩
    intro W hSw
    obtain ⟨q0, q1, q2, q3⟩ := hSw
    go_simp
    try with_reducible rfl
  case hS7r => assumption
  try simp only [Act.put, List.setIfInBounds_toArray, List.set_cons_zero, List.set_cons_succ]
  refine wpAnyH_done (by kernel_rfl) ?_ _
  have g0 : w4.cell? ⟨w1.heap.size, 0, none⟩ = some (.int .i64 M) := by rw [cell_of_row w4 _ _ _ _ _ HM4.out]; rfl
  have g1 : w4.cell? ⟨w1.heap.size, 1, none⟩ = some (.int .i64 now) := by rw [cell_of_row w4 _ _ _ _ _ HM4.out]; rfl
  have g2 : w4.cell? ⟨w1.heap.size, 2, none⟩ = some (.int .i64 U) := by rw [cell_of_row w4 _ _ _ _ _ HM4.out]; rfl
  have r0 : w4.cell? ⟨w.heap.size, 0, none⟩ = some (.int .i64 0) := by rw [cell_of_row w4 _ _ _ _ _ HR4.out]; rfl
  have r1 : w4.cell? ⟨w.heap.size, 1, none⟩ = some (.int .i64 0) := by rw [cell_of_row w4 _ _ _ _ _ HR4.out]; rfl
  have r2 : w4.cell? ⟨w.heap.size, 2, none⟩ = some (.int .i64 0) := by rw [cell_of_row w4 _ _ _ _ _ HR4.out]; rfl
  have rf : ∀ i, w4.frozen? ⟨w.heap.size, i, none⟩ = false := fun i => frozen_of_row w4 _ i _ _ HR4.out
  go_wp2
  obtain ⟨e0, e1, e2, _⟩ := HT5.out
  exact bodyPost_ret (v := .tuple #[mV M now U, .int .i64 0]) (by simp [results, Tryd.results18, go_sem, e0, e1, e2]) rfl ⟨rfl, HC5.out, _, _, HI5.out⟩
end Go.Proofs.YtfcogjdnnnpmdaaDoor
