/- Party: calls on a nil book. -/
import Derived.Test.YtjlpmdokmfmdiaaE9
namespace Go.Proofs.Ytjlpmdokmfmdiaa.P
open Go.RowKit
set_option maxRecDepth 20000
set_option linter.unusedVariables false
set_option linter.unusedSimpArgs false

theorem parties_nil (w : World) : Calls Try.prog 19 #[.pointer none] w fun r w' => r = .returned (.slice none 0 0) ∧ w' = w := by
  go_enter Try.func19, Try.ntmps19
  go_wp2
  go_ret
  exact ⟨rfl, rfl⟩
theorem idxf_nil (f : Value) (w : World) : Calls Try.prog 62 #[.slice none 0 0, f] w fun r w' => r = .returned (.int .i64 (-1)) ∧ w' = w := by
  go_enter Try.func62, Try.ntmps62
  go_wp2_with fail
  go_loopw [8] (fun u wr => u = .int .i64 0 ∧ wr = w) (fun u _ => 0)
  case atStart => exact ⟨rfl, rfl⟩
  case round =>
    obtain ⟨rfl, rfl⟩ := hrel
    go_wp2
    go_ret
    exact ⟨rfl, rfl⟩
set_option maxHeartbeats 4000000 in
theorem of_nil (p : Nat) (w : World) :
    Calls Try.prog 15 #[.pointer none, .int .u32 (p : Int)] w fun r w' => r = .returned (.int .u32 0) ∧ Below w.heap.size w w' := by
  obtain ⟨K, hK⟩ : ∃ K, K = w.heap.size := ⟨_, rfl⟩
  obtain ⟨w0, hw0⟩ : ∃ w0, w0 = (w.alloc (.cells #[.pointer none] 23)).alloc (.cells #[.int .u32 (p : Int)] 26) := ⟨_, rfl⟩
  have hb0 : Below w.heap.size w w0 := by rw [hw0]; exact ((Below.refl _ _).alloc (Nat.le_refl _) _).alloc (by simp) _
  have hq0 : w0.heap[K]? = some (.cells #[.pointer none] 23 (0, 0)) := by rw [hw0, hK]; exact (Below.heap_alloc _ _ _ (by simp)).trans (heap_alloc_new w _)
  have c0 := cell_of_row w0 K 0 _ _ _ hq0
  simp at c0
  have HB0 := Lib.hid hb0
  have H0 := Lib.hid hw0
  have HKK := Lib.hid hK
  clear hq0 hb0 hw0 hK
  go_enter Try.func15, Try.ntmps15
  go_upto_region 1 with (fail)
  rw [← HKK.out, ← H0.out]
  go_wp2_with fail
  refine (parties_nil w0).mono ?_
  rintro r w1 ⟨rfl, hw⟩
  have hw := hw.symm
  subst hw
  go_wp2_with fail
  refine (idxf_nil _ w0).mono ?_
  rintro r w1 ⟨rfl, hw⟩
  have hw := hw.symm
  subst hw
  go_wp2
  go_ret
  exact ⟨rfl, HB0.out⟩
set_option maxHeartbeats 4000000 in
theorem at_nil (x : Nat) (w : World) :
    Calls Try.prog 66 #[.pointer none, .int .u32 (x : Int)] w fun r w' => r = .returned (.tuple #[.agg mZ, .bool false]) ∧ Below w.heap.size w w' := by
  obtain ⟨w0, hw0⟩ : ∃ w0, w0 = w.alloc (.cells (mZ) 112) := ⟨_, rfl⟩
  have hb0 : Below w.heap.size w w0 := by rw [hw0]; exact (Below.refl _ _).alloc (Nat.le_refl _) _
  have hq0 : w0.heap[w.heap.size]? = some (.cells (mZ) 112 (0, 0)) := by rw [hw0]; exact heap_alloc_new w _
  have y0 := cell_of_row _ w.heap.size 0 _ _ _ hq0
  have y1' := cell_of_row _ w.heap.size 1 _ _ _ hq0
  have y2' := cell_of_row _ w.heap.size 2 _ _ _ hq0
  simp at y0 y1' y2'
  have yf : ∀ i, w0.frozen? ⟨w.heap.size, i, none⟩ = false := fun i => frozen_of_row _ _ i _ _ hq0
  have HT := Lib.hid (three (.int .u32 0) (.slice none 0 0) (.slice none 0 0) hq0)
  have HTB := Lib.hid (three_below (.int .u32 0) (.slice none 0 0) (.slice none 0 0) hb0 (Nat.le_refl w.heap.size))
  have H0 := Lib.hid hw0
  clear hw0 hb0 hq0
  go_enter Try.func66, Try.ntmps66
  go_upto_region 1 with (fail)
  rw [← H0.out]
  go_wp2
  obtain ⟨e0, e1, e2, _⟩ := HT.out
  exact bodyPost_ret (v := .tuple #[.agg mZ, .bool false]) (by simp [results, Try.results66, go_sem, e0, e1, e2]) rfl ⟨rfl, HTB.out⟩
set_option maxHeartbeats 4000000 in
theorem inviting_nil (x p : Nat) (w : World) :
    Calls Try.prog 74 #[.pointer none, .int .u32 (x : Int), .int .u32 (p : Int)] w fun r w' => r = .returned (.tuple #[.agg mZ, .bool false]) ∧ Below w.heap.size w w' := by
  obtain ⟨w0, hw0⟩ : ∃ w0, w0 = w.alloc (.cells (mZ) 112) := ⟨_, rfl⟩
  have hb0 : Below w.heap.size w w0 := by rw [hw0]; exact (Below.refl _ _).alloc (Nat.le_refl _) _
  have hq0 : w0.heap[w.heap.size]? = some (.cells (mZ) 112 (0, 0)) := by rw [hw0]; exact heap_alloc_new w _
  have H0 := Lib.hid hw0
  have HB0 := Lib.hid hb0
  have HQ0 := Lib.hid hq0
  have HG := Lib.hid (at_nil x w0)
  clear hw0 hb0 hq0
  go_enter Try.func74, Try.ntmps74
  go_upto_region 1 with (fail)
  rw [← H0.out]
  go_wp2_with fail
  refine HG.out.mono ?_
  rintro r w1 ⟨rfl, hb⟩
  obtain ⟨G, hG⟩ : ∃ G, G = w1.heap.size := ⟨_, rfl⟩
  obtain ⟨w2, hw2⟩ : ∃ w2, w2 = w1.alloc (.cells #[.int .u32 0, .slice none 0 0, .slice none 0 0] 112) := ⟨_, rfl⟩
  have hq : w2.heap[G]? = some (.cells #[.int .u32 0, .slice none 0 0, .slice none 0 0] 112 (0, 0)) := by rw [hw2, hG]; exact heap_alloc_new w1 _
  have hb2 : Below w1.heap.size w1 w2 := by rw [hw2]; exact (Below.refl _ _).alloc (Nat.le_refl _) _
  have hq1 := (hb2.block _ (Nat.lt_of_lt_of_le (lt_of_block HQ0.out) hb.size)).trans ((hb.block _ (lt_of_block HQ0.out)).trans HQ0.out)
  have HB2 : Hid (Below w.heap.size w w2) := HB0.out.trans ((hb.trans (hb2.mono hb.size)).mono HB0.out.size)
  have HS : Hid (∀ W : World, W.heap[G]? = some (.cells #[.int .u32 0, .slice none 0 0, .slice none 0 0] 112 (0, 0)) → (fun W : World => W.cell? ⟨G, 0, none⟩ = some (.int .u32 0) ∧ W.cell? ⟨G, 1, none⟩ = some (.slice none 0 0) ∧ W.cell? ⟨G, 2, none⟩ = some (.slice none 0 0)) W) := fun W hW => ⟨cell_of_row W G 0 _ _ _ hW, cell_of_row W G 1 _ _ _ hW, cell_of_row W G 2 _ _ _ hW⟩
  have HGR : Hid (∀ W, Below w2.heap.size w2 W → W.heap[G]? = some (.cells #[.int .u32 0, .slice none 0 0, .slice none 0 0] 112 (0, 0))) := fun W hW => (hW.block _ (lt_of_block hq)).trans hq
  have HQR : Hid (∀ W, Below w2.heap.size w2 W → W.heap[w.heap.size]? = some (.cells (mZ) 112 (0, 0))) := fun W hW => (hW.block _ (lt_of_block hq1)).trans hq1
  have HGN : Hid (G ≠ w.heap.size) := by have h1 := lt_of_block HQ0.out; have h2 := hb.size; simp only [Hid]; omega
  have HBB : Hid (Below w2.heap.size w2 w2) := Below.refl _ _
  have H2 := Lib.hid hw2
  have HGG := Lib.hid hG
  clear hq hq1 hb hb2 hw2 hG
  go_upto_region 2 with (fail)
  rw [← H2.out, ← HGG.out]
  have HDk : Hid (Below w2.heap.size w2 w2.drew) := HBB.out.drew
  refine wp_region_held_drew (S := fun W : World => W.cell? ⟨G, 0, none⟩ = some (.int .u32 0) ∧ W.cell? ⟨G, 1, none⟩ = some (.slice none 0 0) ∧ W.cell? ⟨G, 2, none⟩ = some (.slice none 0 0)) (by kernel_rfl) (HS.out _ (HGR.out _ (HDk.out))) (fun hHeld => ?_)
  obtain ⟨Wk0, hW0⟩ : ∃ W0, W0 = w2.drew := ⟨_, rfl⟩
  rw [← hW0] at hHeld HDk ⊢
  clear hW0
  refine wpAnyH_take (i := 0) (oi := ?oi0k) (v := ?v0k) ?hi0k ?hs0k ?hf0k ?hr0k ?hQ0k ?hy0k ?hS0k ?h0k
  case hi0k => exact (by simp only [List.getElem?_toArray, List.getElem?_cons_zero]; rfl)
  case hs0k => kernel_rfl
  case hf0k => kernel_rfl
  case hr0k => kernel_rfl
  case hQ0k => exact fun _ _ _ h => h
  case hy0k =>
    refine Or.inl ⟨rfl, ?_⟩
    intro W hSw
    obtain ⟨q0, q1, q2⟩ := hSw
    go_simp
    try with_reducible rfl
  case hS0k => assumption
  try simp only [Act.put, List.setIfInBounds_toArray, List.set_cons_zero, List.set_cons_succ]
  refine wpAnyH_take (i := 1) (oi := ?oi1k) (v := ?v1k) ?hi1k ?hs1k ?hf1k ?hr1k ?hQ1k ?hy1k ?hS1k ?h1k
  case hi1k => exact (by simp only [List.getElem?_toArray, List.getElem?_cons_succ, List.getElem?_cons_zero]; rfl)
  case hs1k => kernel_rfl
  case hf1k => kernel_rfl
  case hr1k => kernel_rfl
  case hQ1k => exact fun _ _ _ h => h
  case hy1k =>
    refine Or.inl ⟨rfl, ?_⟩
    intro W hSw
    obtain ⟨q0, q1, q2⟩ := hSw
    go_simp
    try with_reducible rfl
  case hS1k => assumption
  try simp only [Act.put, List.setIfInBounds_toArray, List.set_cons_zero, List.set_cons_succ]
  refine wpAnyH_take (i := 2) (oi := ?oi2k) (v := ?v2k) ?hi2k ?hs2k ?hf2k ?hr2k ?hQ2k ?hy2k ?hS2k ?h2k
  case hi2k => exact (by simp only [List.getElem?_toArray, List.getElem?_cons_succ, List.getElem?_cons_zero]; rfl)
  case hs2k => kernel_rfl
  case hf2k => kernel_rfl
  case hr2k => kernel_rfl
  case hQ2k => exact fun _ _ _ h => h
  case hy2k =>
    refine Or.inl ⟨rfl, ?_⟩
    intro W hSw
    obtain ⟨q0, q1, q2⟩ := hSw
    go_simp
    try with_reducible rfl
  case hS2k => assumption
  try simp only [Act.put, List.setIfInBounds_toArray, List.set_cons_zero, List.set_cons_succ]
  refine wpAnyH_take (i := 3) (oi := ?oi3k) (v := undef) ?hi3k ?hs3k ?hf3k ?hr3k ?hQ3k ?hy3k ?hS3k ?h3k
  case hi3k => exact (by simp only [List.getElem?_toArray, List.getElem?_cons_succ, List.getElem?_cons_zero]; rfl)
  case hs3k => kernel_rfl
  case hf3k => kernel_rfl
  case hr3k => kernel_rfl
  case hQ3k => exact fun _ _ _ h => h
  case hy3k =>
    exact Or.inr ⟨rfl, rfl⟩
  case hS3k => assumption
  try simp only [Act.put, List.setIfInBounds_toArray, List.set_cons_zero, List.set_cons_succ]
  refine wpAnyH_take (i := 4) (oi := ?oi4k) (v := undef) ?hi4k ?hs4k ?hf4k ?hr4k ?hQ4k ?hy4k ?hS4k ?h4k
  case hi4k => exact (by simp only [List.getElem?_toArray, List.getElem?_cons_succ, List.getElem?_cons_zero]; rfl)
  case hs4k => kernel_rfl
  case hf4k => kernel_rfl
  case hr4k => kernel_rfl
  case hQ4k => exact fun _ _ _ h => h
  case hy4k =>
    exact Or.inr ⟨rfl, rfl⟩
  case hS4k => assumption
  try simp only [Act.put, List.setIfInBounds_toArray, List.set_cons_zero, List.set_cons_succ]
  refine wpAnyH_take (i := 5) (oi := ?oi5k) (v := undef) ?hi5k ?hs5k ?hf5k ?hr5k ?hQ5k ?hy5k ?hS5k ?h5k
  case hi5k => exact (by simp only [List.getElem?_toArray, List.getElem?_cons_succ, List.getElem?_cons_zero]; rfl)
  case hs5k => kernel_rfl
  case hf5k => kernel_rfl
  case hr5k => kernel_rfl
  case hQ5k => exact fun _ _ _ h => h
  case hy5k =>
    exact Or.inr ⟨rfl, rfl⟩
  case hS5k => assumption
  try simp only [Act.put, List.setIfInBounds_toArray, List.set_cons_zero, List.set_cons_succ]
  refine wpAnyH_take (i := 6) (oi := ?oi6k) (v := undef) ?hi6k ?hs6k ?hf6k ?hr6k ?hQ6k ?hy6k ?hS6k ?h6k
  case hi6k => exact (by simp only [List.getElem?_toArray, List.getElem?_cons_succ, List.getElem?_cons_zero]; rfl)
  case hs6k => kernel_rfl
  case hf6k => kernel_rfl
  case hr6k => kernel_rfl
  case hQ6k => exact fun _ _ _ h => h
  case hy6k =>
    exact Or.inr ⟨rfl, rfl⟩
  case hS6k => assumption
  try simp only [Act.put, List.setIfInBounds_toArray, List.set_cons_zero, List.set_cons_succ]
  refine wpAnyH_take (i := 7) (oi := ?oi7k) (v := ?v7k) ?hi7k ?hs7k ?hf7k ?hr7k ?hQ7k ?hy7k ?hS7k ?h7k
  case hi7k => exact (by simp only [List.getElem?_toArray, List.getElem?_cons_succ, List.getElem?_cons_zero]; rfl)
  case hs7k => kernel_rfl
  case hf7k => kernel_rfl
  case hr7k => kernel_rfl
  case hQ7k => exact fun _ _ _ h => h
  case hy7k =>
    refine Or.inl ⟨rfl, ?_⟩
    intro W hSw
    obtain ⟨q0, q1, q2⟩ := hSw
    go_simp
    try with_reducible rfl
  case hS7k => assumption
  try simp only [Act.put, List.setIfInBounds_toArray, List.set_cons_zero, List.set_cons_succ]
  refine wpAnyH_ready (rs := [8]) (by kernel_rfl) (by simp) ?_
  refine AllReadyH.cons (o := _) rfl (fun K hK => ?_) AllReadyH.nil
  have hqr := HQR.out Wk0 HDk.out
  have y0 := cell_of_row _ w.heap.size 0 _ _ _ hqr
  have y1' := cell_of_row _ w.heap.size 1 _ _ _ hqr
  have y2' := cell_of_row _ w.heap.size 2 _ _ _ hqr
  simp at y0 y1' y2'
  have yf : ∀ i, Wk0.frozen? ⟨w.heap.size, i, none⟩ = false := fun i => frozen_of_row _ _ i _ _ hqr
  go_simp
  clear y0 y1' y2' yf
  obtain ⟨W9, hW9⟩ : ∃ W9, W9 = (((Wk0.setCell ⟨w.heap.size, 0, none⟩ (.int .u32 0)).setCell ⟨w.heap.size, 1, none⟩ (.slice none 0 0)).setCell ⟨w.heap.size, 2, none⟩ (.slice none 0 0)) := ⟨_, rfl⟩
  have HT := Lib.hid (three (.int .u32 0) (.slice none 0 0) (.slice none 0 0) hqr)
  have HB9 := Lib.hid (three_below (k := w.heap.size) (.int .u32 0) (.slice none 0 0) (.slice none 0 0) (HB2.out.trans (HDk.out.mono HB2.out.size)) (Nat.le_refl w.heap.size))
  have HG9 : Hid (∀ g, g ≠ w.heap.size → W9.heap[g]? = Wk0.heap[g]?) := fun g hg => by rw [hW9]; exact ((Below.heap_setCell _ _ _ _ hg).trans (Below.heap_setCell _ _ _ _ hg)).trans (Below.heap_setCell _ _ _ _ hg)
  rw [← hW9] at HT HB9 ⊢
  clear hW9 hqr
  refine hK.out _ _ (HS.out _ ((HG9.out G HGN.out).trans (HGR.out _ HDk.out))) (fun hHeld => ?_)
  clear hK K
  try simp only [Act.put, List.setIfInBounds_toArray, List.set_cons_zero, List.set_cons_succ]
  refine wpAnyH_take (i := 9) (oi := ?oi9k) (v := ?v9k) ?hi9k ?hs9k ?hf9k ?hr9k ?hQ9k ?hy9k ?hS9k ?h9k
  case hi9k => exact (by simp only [List.getElem?_toArray, List.getElem?_cons_succ, List.getElem?_cons_zero]; rfl)
  case hs9k => kernel_rfl
  case hf9k => kernel_rfl
  case hr9k => kernel_rfl
  case hQ9k => exact fun _ _ _ h => h
  case hy9k =>
    refine Or.inl ⟨rfl, ?_⟩
    intro W hSw
    obtain ⟨q0, q1, q2⟩ := hSw
    go_simp
    try with_reducible rfl
  case hS9k => assumption
  try simp only [Act.put, List.setIfInBounds_toArray, List.set_cons_zero, List.set_cons_succ]
  refine wpAnyH_done (by kernel_rfl) ?_ _
  go_wp2
  obtain ⟨e0, e1, e2, _⟩ := HT.out
  exact bodyPost_ret (v := .tuple #[.agg mZ, .bool false]) (by simp [results, Try.results74, go_sem, e0, e1, e2]) rfl ⟨rfl, HB9.out⟩
set_option maxHeartbeats 4000000 in
theorem led_nil (a p : Nat) (w : World) :
    Calls Try.prog 76 #[.pointer none, .int .u32 (a : Int), .int .u32 (p : Int)] w fun r w' => r = .returned (.tuple #[.int .u32 0, .agg mZ, .int .i64 12]) ∧ Below w.heap.size w w' := by
  obtain ⟨w0, hw0⟩ : ∃ w0, w0 = w.alloc (.cells (mZ) 112) := ⟨_, rfl⟩
  have hb0 : Below w.heap.size w w0 := by rw [hw0]; exact (Below.refl _ _).alloc (Nat.le_refl _) _
  have hq0 : w0.heap[w.heap.size]? = some (.cells (mZ) 112 (0, 0)) := by rw [hw0]; exact heap_alloc_new w _
  have H0 := Lib.hid hw0
  have HB0 := Lib.hid hb0
  have HQ0 := Lib.hid hq0
  have HOF := Lib.hid (of_nil a w0)
  clear hw0 hb0 hq0
  go_enter Try.func76, Try.ntmps76
  go_upto_region 1 with (fail)
  rw [← H0.out]
  go_wp2_with fail
  refine HOF.out.mono ?_
  rintro r w1 ⟨rfl, hb1⟩
  have HG := Lib.hid (at_nil 0 w1)
  go_wp2_with fail
  refine HG.out.mono ?_
  rintro r w2 ⟨rfl, hb2⟩
  obtain ⟨G, hG⟩ : ∃ G, G = w2.heap.size := ⟨_, rfl⟩
  obtain ⟨w3, hw3⟩ : ∃ W, W = w2.alloc (.cells #[.int .u32 0, .slice none 0 0, .slice none 0 0] 112) := ⟨_, rfl⟩
  have hq : w3.heap[G]? = some (.cells #[.int .u32 0, .slice none 0 0, .slice none 0 0] 112 (0, 0)) := by rw [hw3, hG]; exact heap_alloc_new w2 _
  have hb3 : Below w2.heap.size w2 w3 := by rw [hw3]; exact (Below.refl _ _).alloc (Nat.le_refl _) _
  have hq1 := (hb3.block _ (Nat.lt_of_lt_of_le (lt_of_block HQ0.out) (Nat.le_trans hb1.size hb2.size))).trans ((hb2.block _ (Nat.lt_of_lt_of_le (lt_of_block HQ0.out) hb1.size)).trans ((hb1.block _ (lt_of_block HQ0.out)).trans HQ0.out))
  have HB3 : Hid (Below w.heap.size w w3) := HB0.out.trans ((hb1.trans ((hb2.trans (hb3.mono hb2.size)).mono hb1.size)).mono HB0.out.size)
  have y0 := cell_of_row _ w.heap.size 0 _ _ _ hq1
  have y1' := cell_of_row _ w.heap.size 1 _ _ _ hq1
  have y2' := cell_of_row _ w.heap.size 2 _ _ _ hq1
  have z0 := cell_of_row _ G 0 _ _ _ hq
  simp at y0 y1' y2' z0
  have yf : ∀ i, w3.frozen? ⟨w.heap.size, i, none⟩ = false := fun i => frozen_of_row _ _ i _ _ hq1
  have HT := Lib.hid (three (.int .u32 0) (.slice none 0 0) (.slice none 0 0) hq1)
  have HTB := Lib.hid (three_below (.int .u32 0) (.slice none 0 0) (.slice none 0 0) HB3.out (Nat.le_refl w.heap.size))
  have H3 := Lib.hid hw3
  have HGG := Lib.hid hG
  clear hq hq1 hb1 hb2 hb3 hw3 hG
  go_upto_region 3 with (fail)
  rw [← H3.out, ← HGG.out]
  go_wp2
  obtain ⟨e0, e1, e2, _⟩ := HT.out
  exact bodyPost_ret (v := .tuple #[.int .u32 0, .agg mZ, .int .i64 12]) (by simp [results, Try.results76, go_sem, e0, e1, e2]) rfl ⟨rfl, HTB.out⟩
set_option maxHeartbeats 4000000 in
theorem party_nil (x : Nat) (w : World) :
    Calls Try.prog 17 #[.pointer none, .int .u32 (x : Int)] w fun r w' => r = .returned (.tuple #[.agg dZ, .bool false]) ∧ Below w.heap.size w w' := by
  obtain ⟨w0, hw0⟩ : ∃ w0, w0 = w.alloc (.cells dZ 36) := ⟨_, rfl⟩
  have hb0 : Below w.heap.size w w0 := by rw [hw0]; exact (Below.refl _ _).alloc (Nat.le_refl _) _
  have hq0 : w0.heap[w.heap.size]? = some (.cells dZ 36 (0, 0)) := by rw [hw0]; exact heap_alloc_new w _
  have H0 := Lib.hid hw0
  have HB0 := Lib.hid hb0
  have HQ0 := Lib.hid hq0
  have HG := Lib.hid (at_nil x w0)
  clear hw0 hb0 hq0
  go_enter Try.func17, Try.ntmps17
  go_upto_region 1 with (fail)
  rw [← H0.out]
  go_wp2_with fail
  refine HG.out.mono ?_
  rintro r w2 ⟨rfl, hb2⟩
  obtain ⟨G, hG⟩ : ∃ G, G = w2.heap.size := ⟨_, rfl⟩
  obtain ⟨w3, hw3⟩ : ∃ W, W = w2.alloc (.cells #[.int .u32 0, .slice none 0 0, .slice none 0 0] 112) := ⟨_, rfl⟩
  have hq : w3.heap[G]? = some (.cells #[.int .u32 0, .slice none 0 0, .slice none 0 0] 112 (0, 0)) := by rw [hw3, hG]; exact heap_alloc_new w2 _
  have hb3 : Below w2.heap.size w2 w3 := by rw [hw3]; exact (Below.refl _ _).alloc (Nat.le_refl _) _
  have hq1 := (hb3.block _ (Nat.lt_of_lt_of_le (lt_of_block HQ0.out) hb2.size)).trans ((hb2.block _ (lt_of_block HQ0.out)).trans HQ0.out)
  have HB2 : Hid (Below w.heap.size w w3) := HB0.out.trans ((hb2.trans (hb3.mono hb2.size)).mono HB0.out.size)
  have y0 := cell_of_row _ w.heap.size 0 _ _ _ hq1
  have y1' := cell_of_row _ w.heap.size 1 _ _ _ hq1
  have y2' := cell_of_row _ w.heap.size 2 _ _ _ hq1
  have y3' := cell_of_row _ w.heap.size 3 _ _ _ hq1
  simp at y0 y1' y2' y3'
  have yf : ∀ i, w3.frozen? ⟨w.heap.size, i, none⟩ = false := fun i => frozen_of_row _ _ i _ _ hq1
  have HT := Lib.hid (four_cells (.int .u32 0) (.int .u32 0) (.slice none 0 0) (.slice none 0 0) hq1)
  have HB9 := Lib.hid (four_below (k := w.heap.size) (.int .u32 0) (.int .u32 0) (.slice none 0 0) (.slice none 0 0) HB2.out (Nat.le_refl w.heap.size))
  have H3 := Lib.hid hw3
  have HGG := Lib.hid hG
  clear hq hq1 hb2 hb3 hw3 hG
  go_upto_region 2 with (fail)
  rw [← H3.out, ← HGG.out]
  go_wp2
  obtain ⟨e0, e1, e2, e3⟩ := HT.out
  exact bodyPost_ret (v := .tuple #[.agg dZ, .bool false]) (by simp [results, Try.results17, go_sem, e0, e1, e2, e3]) rfl ⟨rfl, HB9.out⟩
set_option maxHeartbeats 4000000 in
theorem refuse_nil (x p : Nat) (w : World) :
    Calls Try.prog 22 #[.pointer none, .int .u32 (x : Int), .int .u32 (p : Int)] w fun r w' => r = .returned (.tuple #[.bool false, .int .i64 12]) ∧ Below w.heap.size w w' := by
  have HV := Lib.hid (inviting_nil x p w)
  go_enter Try.func22, Try.ntmps22
  go_wp2_with fail
  refine HV.out.mono ?_
  rintro r w1 ⟨rfl, hb⟩
  have HF : Hid (∀ w', Below w1.heap.size w1 w' → Below w.heap.size w w') := fun w' hb' => hb.trans (hb'.mono hb.size)
  clear hb
  go_wp2
  go_ret2
  exact ⟨rfl, HF.out _ ((Below.refl _ _).alloc (Nat.le_refl _) _)⟩
set_option maxHeartbeats 4000000 in
theorem join_nil (x p : Nat) (w : World) :
    Calls Try.prog 25 #[.pointer none, .int .u32 (x : Int), .int .u32 (p : Int)] w fun r w' => r = .returned (.int .i64 12) ∧ Below w.heap.size w w' := by
  have HV := Lib.hid (inviting_nil x p w)
  go_enter Try.func25, Try.ntmps25
  go_wp2_with fail
  refine HV.out.mono ?_
  rintro r w1 ⟨rfl, hb⟩
  have HF : Hid (∀ w', Below w1.heap.size w1 w' → Below w.heap.size w w') := fun w' hb' => hb.trans (hb'.mono hb.size)
  clear hb
  go_wp2
  go_ret
  exact ⟨rfl, HF.out _ ((Below.refl _ _).alloc (Nat.le_refl _) _)⟩
set_option maxHeartbeats 4000000 in
theorem kick_nil (x p : Nat) (w : World) :
    Calls Try.prog 24 #[.pointer none, .int .u32 (x : Int), .int .u32 (p : Int)] w fun r w' => r = .returned (.tuple #[.bool false, .int .i64 12]) ∧ Below w.heap.size w w' := by
  have HV := Lib.hid (led_nil x p w)
  go_enter Try.func24, Try.ntmps24
  go_wp2_with fail
  refine HV.out.mono ?_
  rintro r w1 ⟨rfl, hb⟩
  have HF : Hid (∀ w', Below w1.heap.size w1 w' → Below w.heap.size w w') := fun w' hb' => hb.trans (hb'.mono hb.size)
  clear hb
  go_wp2
  go_ret2
  exact ⟨rfl, HF.out _ ((Below.refl _ _).alloc (Nat.le_refl _) _)⟩
set_option maxHeartbeats 4000000 in
theorem lead_nil (x p : Nat) (w : World) :
    Calls Try.prog 26 #[.pointer none, .int .u32 (x : Int), .int .u32 (p : Int)] w fun r w' => r = .returned (.int .i64 12) ∧ Below w.heap.size w w' := by
  have HV := Lib.hid (led_nil x p w)
  go_enter Try.func26, Try.ntmps26
  go_wp2_with fail
  refine HV.out.mono ?_
  rintro r w1 ⟨rfl, hb⟩
  have HF : Hid (∀ w', Below w1.heap.size w1 w' → Below w.heap.size w w') := fun w' hb' => hb.trans (hb'.mono hb.size)
  clear hb
  go_wp2
  go_ret
  exact ⟨rfl, HF.out _ ((Below.refl _ _).alloc (Nat.le_refl _) _)⟩
set_option maxHeartbeats 4000000 in
theorem leave_nil (p : Nat) (w : World) :
    Calls Try.prog 23 #[.pointer none, .int .u32 (p : Int)] w fun r w' => r = .returned (.tuple #[.int .u32 0, .bool false, .int .i64 12]) ∧ Below w.heap.size w w' := by
  have HOF := Lib.hid (of_nil p w)
  go_enter Try.func23, Try.ntmps23
  go_wp2_with fail
  refine HOF.out.mono ?_
  rintro r w1 ⟨rfl, hb⟩
  have HB1 := Lib.hid hb
  clear hb
  go_wp2_with fail
  refine (at_nil 0 w1).mono ?_
  rintro r w2 ⟨rfl, hb⟩
  have HF : Hid (∀ w', Below w2.heap.size w2 w' → Below w.heap.size w w') := fun w' hb' => (HB1.out.trans (hb.mono HB1.out.size)).trans (hb'.mono (Nat.le_trans HB1.out.size hb.size))
  clear hb
  go_wp2
  exact bodyPost_ret (v := .tuple #[.int .u32 0, .bool false, .int .i64 12]) (by simp [results, Try.results23, go_sem]) rfl ⟨rfl, HF.out _ ((Below.refl _ _).alloc (Nat.le_refl _) _)⟩
theorem invite_nil (x p : Nat) (w : World) :
    Calls Try.prog 21 #[.pointer none, .int .u32 (x : Int), .int .u32 (p : Int)] w fun r w' => r = .returned (.tuple #[.int .u32 0, .int .i64 10]) ∧ w' = w := by
  go_enter Try.func21, Try.ntmps21
  go_wp2
  go_ret2
  exact ⟨rfl, rfl⟩
end Go.Proofs.Ytjlpmdokmfmdiaa.P
