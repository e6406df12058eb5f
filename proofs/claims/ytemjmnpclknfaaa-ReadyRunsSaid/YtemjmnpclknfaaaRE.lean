/- Ready: same: a told check against the document's. -/
import Derived.Test.YtemjmnpclknfaaaRD
namespace Go.Proofs.Ytemjmnpclknfaaa.P
open Go.RowKit
set_option maxRecDepth 20000
set_option linter.unusedVariables false
set_option linter.unusedSimpArgs false

theorem S32.n {w : World} {s : Sl} {l : List Nat} (h : S32 w (.slice s.a s.n s.c) l) : s.n = l.length := by
  obtain ⟨A, c, e, _⟩ := h
  injection e with _ e _
theorem S32.rn {w : World} {s : Sl} {l : List Nat} (h : S32 w (.slice s.a s.n s.c) l) : Rn w s.a l := by
  obtain ⟨A, c, e, h⟩ := h
  injection e with e _ _
  rw [e]
  exact h
set_option maxHeartbeats 8000000 in
theorem lsame_any (x : Nat) (l : Int) (m v m2 v2 : Sl) (L1 L2 : List Nat) (w : World) (f1 : S32 w (.slice m.a m.n m.c) L1) (f2 : S32 w (.slice v.a v.n v.c) L2) (g1 : S32 w (.slice m2.a m2.n m2.c) L1) (g2 : S32 w (.slice v2.a v2.n v2.c) L2) (h1 : L1.length ≤ 100) (h2 : L2.length ≤ 100) (hnd : L2.Nodup) :
    Calls Try.prog 12 #[cV x m v l, .agg (dC x l m2 v2)] w fun r w' => r = .returned (.bool true) ∧ Below w.heap.size w w' := by
  obtain ⟨X, hX⟩ : ∃ X, X = w.heap.size := ⟨_, rfl⟩
  obtain ⟨Y, hY⟩ : ∃ Y, Y = w.heap.size + 1 := ⟨_, rfl⟩
  obtain ⟨w0, hw0⟩ : ∃ w0, w0 = (w.alloc (.cells #[.int .u32 (x : Int), .slice m.a m.n m.c, .slice v.a v.n v.c, .int .i64 l] 33)).alloc (.cells #[.int .u32 (x : Int), .slice m2.a m2.n m2.c, .slice v2.a v2.n v2.c, .int .i64 l] 36) := ⟨_, rfl⟩
  have hb0 : Below w.heap.size w w0 := by rw [hw0]; exact ((Below.refl _ _).alloc (Nat.le_refl _) _).alloc (by simp) _
  have hp0 : w0.heap[X]? = some (.cells #[.int .u32 (x : Int), .slice m.a m.n m.c, .slice v.a v.n v.c, .int .i64 l] 33 (0, 0)) := by
    rw [hw0, hX]
    exact (Below.heap_alloc _ _ _ (by simp)).trans (heap_alloc_new w _)
  have hq0 : w0.heap[Y]? = some (.cells #[.int .u32 (x : Int), .slice m2.a m2.n m2.c, .slice v2.a v2.n v2.c, .int .i64 l] 36 (0, 0)) := by
    have h := heap_alloc_new (w.alloc (.cells #[.int .u32 (x : Int), .slice m.a m.n m.c, .slice v.a v.n v.c, .int .i64 l] 33)) (.cells #[.int .u32 (x : Int), .slice m2.a m2.n m2.c, .slice v2.a v2.n v2.c, .int .i64 l] 36)
    rw [World.size_alloc] at h
    rw [hw0, hY]
    exact h
  have H0 := Lib.hid hw0
  have HB0 := Lib.hid hb0
  have HP0 := Lib.hid hp0
  have HQ0 := Lib.hid hq0
  have HXX := Lib.hid hX
  have HYY := Lib.hid hY
  have s1 := f1.after hb0
  have s2 := f2.after hb0
  have s3 := g1.after hb0
  have s4 := g2.after hb0
  have HSM : Hid (∀ W, Below w0.heap.size w0 W → Calls Try.prog 39 #[.agg (dC x l m v), .agg (dC x l m2 v2)] W fun r w' => r = .returned (.bool true) ∧ Below W.heap.size W w') := fun W hW => same_any x l m v m2 v2 L1 L2 W (s1.after hW) (s2.after hW) (s3.after hW) (s4.after hW) h1 h2
  have HMI : Hid (∀ W, Below w0.heap.size w0 W → Calls Try.prog 22 #[cV x m v l] W fun r w' => ∃ A c, r = .returned (.slice A (miss L1 L2).length c) ∧ w'.ownsRow W.heap.size 26 1 (.slice A (miss L1 L2).length c) (miss L1 L2).length (un (miss L1 L2)) ∧ Below W.heap.size W w') := fun W hW => missing_any x m v l L1 L2 W s1.n s2.n (s1.after hW).rn (s2.after hW).rn hnd h1 h2
  have HDM : Hid (∀ W, Below w0.heap.size w0 W → Calls Try.prog 40 #[.agg (dC x l m2 v2)] W fun r w' => ∃ A c, r = .returned (.slice A (miss L1 L2).length c) ∧ w'.ownsRow W.heap.size 26 1 (.slice A (miss L1 L2).length c) (miss L1 L2).length (un (miss L1 L2)) ∧ Below W.heap.size W w') := fun W hW => dmissing_any x l m2 v2 L1 L2 W s3.n s4.n (s3.after hW).rn (s4.after hW).rn h1 h2
  have HLM : Hid ((miss L1 L2).length ≤ 1000) := by have := miss_len L1 L2; simp only [Hid]; omega
  have HCE : Hid (∀ W, Below w0.heap.size w0 W → (fun W : World => (W.cell? ⟨X, 0, none⟩ = some (.int .u32 (x : Int)) ∧ W.cell? ⟨X, 1, none⟩ = some (.slice m.a m.n m.c) ∧ W.cell? ⟨X, 2, none⟩ = some (.slice v.a v.n v.c) ∧ W.cell? ⟨X, 3, none⟩ = some (.int .i64 l)) ∧ W.cell? ⟨Y, 0, none⟩ = some (.int .u32 (x : Int)) ∧ W.cell? ⟨Y, 1, none⟩ = some (.slice m2.a m2.n m2.c) ∧ W.cell? ⟨Y, 2, none⟩ = some (.slice v2.a v2.n v2.c) ∧ W.cell? ⟨Y, 3, none⟩ = some (.int .i64 l)) W) := fun W hW => by
    have hpw := (hW.block _ (lt_of_block HP0.out)).trans HP0.out
    have hqw := (hW.block _ (lt_of_block HQ0.out)).trans HQ0.out
    exact ⟨⟨cell_of_row W X 0 _ _ _ hpw, cell_of_row W X 1 _ _ _ hpw, cell_of_row W X 2 _ _ _ hpw, cell_of_row W X 3 _ _ _ hpw⟩, cell_of_row W Y 0 _ _ _ hqw, cell_of_row W Y 1 _ _ _ hqw, cell_of_row W Y 2 _ _ _ hqw, cell_of_row W Y 3 _ _ _ hqw⟩
  have HRF : Hid (Below w0.heap.size w0 w0) := Below.refl _ _
  clear hw0 hb0 hp0 hq0 hX hY f1 f2 g1 g2 h1 h2 s1 s2 s3 s4 hnd
  go_enter Try.func12, Try.ntmps12
  go_upto_region 1 with (fail)
  rw [← H0.out, ← HYY.out, ← HXX.out]
  have HDk : Hid (Below w0.heap.size w0 w0.drew) := HRF.out.drew
  refine wp_region_held_drew (S := fun W : World => (W.cell? ⟨X, 0, none⟩ = some (.int .u32 (x : Int)) ∧ W.cell? ⟨X, 1, none⟩ = some (.slice m.a m.n m.c) ∧ W.cell? ⟨X, 2, none⟩ = some (.slice v.a v.n v.c) ∧ W.cell? ⟨X, 3, none⟩ = some (.int .i64 l)) ∧ W.cell? ⟨Y, 0, none⟩ = some (.int .u32 (x : Int)) ∧ W.cell? ⟨Y, 1, none⟩ = some (.slice m2.a m2.n m2.c) ∧ W.cell? ⟨Y, 2, none⟩ = some (.slice v2.a v2.n v2.c) ∧ W.cell? ⟨Y, 3, none⟩ = some (.int .i64 l)) (by kernel_rfl) (HCE.out _ (HDk.out)) (fun hHeld => ?_)
  obtain ⟨Wk0, hW0⟩ : ∃ W0, W0 = w0.drew := ⟨_, rfl⟩
  rw [← hW0] at hHeld HDk ⊢
  clear hW0
  refine wpAnyH_take (i := 0) (oi := ?oi0k) (v := ?v0k) ?hi0k ?hs0k ?hf0k ?hr0k ?hQ0k ?hy0k ?hS0k ?h0k
  case hi0k => exact (by simp only [List.getElem?_toArray, List.getElem?_cons_zero]; rfl)
  case hs0k => kernel_rfl
  case hf0k => kernel_rfl
  case hr0k => kernel_rfl
  case hQ0k => exact fun _ _ _ h => h
  case hy0k =>
    refine Or.inl ⟨rfl, ?_⟩
    intro W hSw
    obtain ⟨⟨q0, q1, q2, q3⟩, p0, p1, p2, p3⟩ := hSw
    go_simp
    try with_reducible rfl
  case hS0k => assumption
  try simp only [Act.put, List.setIfInBounds_toArray, List.set_cons_zero, List.set_cons_succ]
  refine wpAnyH_take (i := 1) (oi := ?oi1k) (v := ?v1k) ?hi1k ?hs1k ?hf1k ?hr1k ?hQ1k ?hy1k ?hS1k ?h1k
  case hi1k => exact (by simp only [List.getElem?_toArray, List.getElem?_cons_succ, List.getElem?_cons_zero]; rfl)
  case hs1k => kernel_rfl
  case hf1k => kernel_rfl
  case hr1k => kernel_rfl
  case hQ1k => exact fun _ _ _ h => h
  case hy1k =>
    refine Or.inl ⟨rfl, ?_⟩
    intro W hSw
    obtain ⟨⟨q0, q1, q2, q3⟩, p0, p1, p2, p3⟩ := hSw
    go_simp
    try with_reducible rfl
  case hS1k => assumption
  try simp only [Act.put, List.setIfInBounds_toArray, List.set_cons_zero, List.set_cons_succ]
  refine wpAnyH_take (i := 2) (oi := ?oi2k) (v := ?v2k) ?hi2k ?hs2k ?hf2k ?hr2k ?hQ2k ?hy2k ?hS2k ?h2k
  case hi2k => exact (by simp only [List.getElem?_toArray, List.getElem?_cons_succ, List.getElem?_cons_zero]; rfl)
  case hs2k => kernel_rfl
  case hf2k => kernel_rfl
  case hr2k => kernel_rfl
  case hQ2k => exact fun _ _ _ h => h
  case hy2k =>
    refine Or.inl ⟨rfl, ?_⟩
    intro W hSw
    obtain ⟨⟨q0, q1, q2, q3⟩, p0, p1, p2, p3⟩ := hSw
    go_simp
    try with_reducible rfl
  case hS2k => assumption
  try simp only [Act.put, List.setIfInBounds_toArray, List.set_cons_zero, List.set_cons_succ]
  refine wpAnyH_take (i := 3) (oi := ?oi3k) (v := ?v3k) ?hi3k ?hs3k ?hf3k ?hr3k ?hQ3k ?hy3k ?hS3k ?h3k
  case hi3k => exact (by simp only [List.getElem?_toArray, List.getElem?_cons_succ, List.getElem?_cons_zero]; rfl)
  case hs3k => kernel_rfl
  case hf3k => kernel_rfl
  case hr3k => kernel_rfl
  case hQ3k => exact fun _ _ _ h => h
  case hy3k =>
    refine Or.inl ⟨rfl, ?_⟩
    intro W hSw
    obtain ⟨⟨q0, q1, q2, q3⟩, p0, p1, p2, p3⟩ := hSw
    go_simp
    try with_reducible rfl
  case hS3k => assumption
  try simp only [Act.put, List.setIfInBounds_toArray, List.set_cons_zero, List.set_cons_succ]
  refine wpAnyH_take (i := 4) (oi := ?oi4k) (v := ?v4k) ?hi4k ?hs4k ?hf4k ?hr4k ?hQ4k ?hy4k ?hS4k ?h4k
  case hi4k => exact (by simp only [List.getElem?_toArray, List.getElem?_cons_succ, List.getElem?_cons_zero]; rfl)
  case hs4k => kernel_rfl
  case hf4k => kernel_rfl
  case hr4k => kernel_rfl
  case hQ4k => exact fun _ _ _ h => h
  case hy4k =>
    refine Or.inl ⟨rfl, ?_⟩
    intro W hSw
    obtain ⟨⟨q0, q1, q2, q3⟩, p0, p1, p2, p3⟩ := hSw
    go_simp
    try with_reducible rfl
  case hS4k => assumption
  try simp only [Act.put, List.setIfInBounds_toArray, List.set_cons_zero, List.set_cons_succ]
  refine wpAnyH_take (i := 5) (oi := ?oi5k) (v := ?v5k) ?hi5k ?hs5k ?hf5k ?hr5k ?hQ5k ?hy5k ?hS5k ?h5k
  case hi5k => exact (by simp only [List.getElem?_toArray, List.getElem?_cons_succ, List.getElem?_cons_zero]; rfl)
  case hs5k => kernel_rfl
  case hf5k => kernel_rfl
  case hr5k => kernel_rfl
  case hQ5k => exact fun _ _ _ h => h
  case hy5k =>
    refine Or.inl ⟨rfl, ?_⟩
    intro W hSw
    obtain ⟨⟨q0, q1, q2, q3⟩, p0, p1, p2, p3⟩ := hSw
    go_simp
    try with_reducible rfl
  case hS5k => assumption
  try simp only [Act.put, List.setIfInBounds_toArray, List.set_cons_zero, List.set_cons_succ]
  refine wpAnyH_take (i := 6) (oi := ?oi6k) (v := ?v6k) ?hi6k ?hs6k ?hf6k ?hr6k ?hQ6k ?hy6k ?hS6k ?h6k
  case hi6k => exact (by simp only [List.getElem?_toArray, List.getElem?_cons_succ, List.getElem?_cons_zero]; rfl)
  case hs6k => kernel_rfl
  case hf6k => kernel_rfl
  case hr6k => kernel_rfl
  case hQ6k => exact fun _ _ _ h => h
  case hy6k =>
    refine Or.inl ⟨rfl, ?_⟩
    intro W hSw
    obtain ⟨⟨q0, q1, q2, q3⟩, p0, p1, p2, p3⟩ := hSw
    go_simp
    try with_reducible rfl
  case hS6k => assumption
  try simp only [Act.put, List.setIfInBounds_toArray, List.set_cons_zero, List.set_cons_succ]
  refine wpAnyH_take (i := 7) (oi := ?oi7k) (v := ?v7k) ?hi7k ?hs7k ?hf7k ?hr7k ?hQ7k ?hy7k ?hS7k ?h7k
  case hi7k => exact (by simp only [List.getElem?_toArray, List.getElem?_cons_succ, List.getElem?_cons_zero]; rfl)
  case hs7k => kernel_rfl
  case hf7k => kernel_rfl
  case hr7k => kernel_rfl
  case hQ7k => exact fun _ _ _ h => h
  case hy7k =>
    refine Or.inl ⟨rfl, ?_⟩
    intro W hSw
    obtain ⟨⟨q0, q1, q2, q3⟩, p0, p1, p2, p3⟩ := hSw
    go_simp
    try with_reducible rfl
  case hS7k => assumption
  try simp only [Act.put, List.setIfInBounds_toArray, List.set_cons_zero, List.set_cons_succ]
  refine wpAnyH_take (i := 8) (oi := ?oi8k) (v := ?v8k) ?hi8k ?hs8k ?hf8k ?hr8k ?hQ8k ?hy8k ?hS8k ?h8k
  case hi8k => exact (by simp only [List.getElem?_toArray, List.getElem?_cons_succ, List.getElem?_cons_zero]; rfl)
  case hs8k => kernel_rfl
  case hf8k => kernel_rfl
  case hr8k => kernel_rfl
  case hQ8k => exact fun _ _ _ h => h
  case hy8k =>
    refine Or.inl ⟨rfl, ?_⟩
    intro W hSw
    obtain ⟨⟨q0, q1, q2, q3⟩, p0, p1, p2, p3⟩ := hSw
    go_simp
    try with_reducible rfl
  case hS8k => assumption
  try simp only [Act.put, List.setIfInBounds_toArray, List.set_cons_zero, List.set_cons_succ]
  refine wpAnyH_take (i := 9) (oi := ?oi9k) (v := ?v9k) ?hi9k ?hs9k ?hf9k ?hr9k ?hQ9k ?hy9k ?hS9k ?h9k
  case hi9k => exact (by simp only [List.getElem?_toArray, List.getElem?_cons_succ, List.getElem?_cons_zero]; rfl)
  case hs9k => kernel_rfl
  case hf9k => kernel_rfl
  case hr9k => kernel_rfl
  case hQ9k => exact fun _ _ _ h => h
  case hy9k =>
    refine Or.inl ⟨rfl, ?_⟩
    intro W hSw
    obtain ⟨⟨q0, q1, q2, q3⟩, p0, p1, p2, p3⟩ := hSw
    go_simp
    try with_reducible rfl
  case hS9k => assumption
  try simp only [Act.put, List.setIfInBounds_toArray, List.set_cons_zero, List.set_cons_succ]
  refine wpAnyH_ready (rs := [10]) (by kernel_rfl) (by simp) ?_
  refine AllReadyH.cons (o := _) rfl (fun K hK => ?_) AllReadyH.nil
  go_simp
  refine ((HSM.out Wk0 HDk.out)).mono ?_
  rintro r Wk1 ⟨rfl, hbq⟩
  have HBk1 := Lib.hid (HDk.out.trans (hbq.mono HDk.out.size))
  clear hbq
  refine hK.out _ _ (HCE.out _ (HBk1.out)) (fun hHeld => ?_)
  clear hK K
  try simp only [Act.put, List.setIfInBounds_toArray, List.set_cons_zero, List.set_cons_succ]
  refine wpAnyH_take (i := 11) (oi := ?oi11k) (v := ?v11k) ?hi11k ?hs11k ?hf11k ?hr11k ?hQ11k ?hy11k ?hS11k ?h11k
  case hi11k => exact (by simp only [List.getElem?_toArray, List.getElem?_cons_succ, List.getElem?_cons_zero]; rfl)
  case hs11k => kernel_rfl
  case hf11k => kernel_rfl
  case hr11k => kernel_rfl
  case hQ11k => exact fun _ _ _ h => h
  case hy11k =>
    refine Or.inl ⟨rfl, ?_⟩
    intro W hSw
    obtain ⟨⟨q0, q1, q2, q3⟩, p0, p1, p2, p3⟩ := hSw
    go_simp
    try with_reducible rfl
  case hS11k => assumption
  try simp only [Act.put, List.setIfInBounds_toArray, List.set_cons_zero, List.set_cons_succ]
  refine wpAnyH_take (i := 12) (oi := ?oi12k) (v := ?v12k) ?hi12k ?hs12k ?hf12k ?hr12k ?hQ12k ?hy12k ?hS12k ?h12k
  case hi12k => exact (by simp only [List.getElem?_toArray, List.getElem?_cons_succ, List.getElem?_cons_zero]; rfl)
  case hs12k => kernel_rfl
  case hf12k => kernel_rfl
  case hr12k => kernel_rfl
  case hQ12k => exact fun _ _ _ h => h
  case hy12k =>
    refine Or.inl ⟨rfl, ?_⟩
    intro W hSw
    obtain ⟨⟨q0, q1, q2, q3⟩, p0, p1, p2, p3⟩ := hSw
    go_simp
    try with_reducible rfl
  case hS12k => assumption
  try simp only [Act.put, List.setIfInBounds_toArray, List.set_cons_zero, List.set_cons_succ]
  refine wpAnyH_take (i := 14) (oi := ?oi14k) (v := ?v14k) ?hi14k ?hs14k ?hf14k ?hr14k ?hQ14k ?hy14k ?hS14k ?h14k
  case hi14k => exact (by simp only [List.getElem?_toArray, List.getElem?_cons_succ, List.getElem?_cons_zero]; rfl)
  case hs14k => kernel_rfl
  case hf14k => kernel_rfl
  case hr14k => kernel_rfl
  case hQ14k => exact fun _ _ _ h => h
  case hy14k =>
    refine Or.inl ⟨rfl, ?_⟩
    intro W hSw
    obtain ⟨⟨q0, q1, q2, q3⟩, p0, p1, p2, p3⟩ := hSw
    go_simp
    try with_reducible rfl
  case hS14k => assumption
  try simp only [Act.put, List.setIfInBounds_toArray, List.set_cons_zero, List.set_cons_succ]
  refine wpAnyH_ready (rs := [13]) (by kernel_rfl) (by simp) ?_
  refine AllReadyH.cons (o := _) rfl (fun K hK => ?_) AllReadyH.nil
  go_simp
  refine ((HMI.out Wk1 HBk1.out)).mono ?_
  rintro r Wk2 ⟨Am, cm, rfl, hom, hbq⟩
  have HBk2 := Lib.hid (HBk1.out.trans (hbq.mono HBk1.out.size))
  have HO1 : Hid (S32 Wk2 (.slice Am (miss L1 L2).length cm) (miss L1 L2)) := .of_own hom
  clear hom
  clear hbq
  refine hK.out _ _ (HCE.out _ (HBk2.out)) (fun hHeld => ?_)
  clear hK K
  try simp only [Act.put, List.setIfInBounds_toArray, List.set_cons_zero, List.set_cons_succ]
  refine wpAnyH_ready (rs := [15]) (by kernel_rfl) (by simp) ?_
  refine AllReadyH.cons (o := _) rfl (fun K hK => ?_) AllReadyH.nil
  go_simp
  refine ((HDM.out Wk2 HBk2.out)).mono ?_
  rintro r Wk3 ⟨An, cn, rfl, hon, hbq⟩
  have HBk3 := Lib.hid (HBk2.out.trans (hbq.mono HBk2.out.size))
  have HO2 : Hid (S32 Wk3 (.slice An (miss L1 L2).length cn) (miss L1 L2)) := .of_own hon
  have HO3 : Hid (S32 Wk3 (.slice Am (miss L1 L2).length cm) (miss L1 L2)) := HO1.out.after hbq
  clear hon
  clear hbq
  refine hK.out _ _ (HCE.out _ (HBk3.out)) (fun hHeld => ?_)
  clear hK K
  try simp only [Act.put, List.setIfInBounds_toArray, List.set_cons_zero, List.set_cons_succ]
  refine wpAnyH_ready (rs := [16]) (by kernel_rfl) (by simp) ?_
  refine AllReadyH.cons (o := _) rfl (fun K hK => ?_) AllReadyH.nil
  go_simp
  refine ((same_eq _ _ (miss L1 L2) Wk3 (HLM.out) HO3.out HO2.out)).mono ?_
  rintro r Wk4 ⟨rfl, hbq⟩
  have HBk4 := Lib.hid (HBk3.out.trans (hbq.mono HBk3.out.size))
  clear hbq
  refine hK.out _ _ (HCE.out _ (HBk4.out)) (fun hHeld => ?_)
  clear hK K
  try simp only [Act.put, List.setIfInBounds_toArray, List.set_cons_zero, List.set_cons_succ]
  refine wpAnyH_take (i := 17) (oi := ?oi17k) (v := ?v17k) ?hi17k ?hs17k ?hf17k ?hr17k ?hQ17k ?hy17k ?hS17k ?h17k
  case hi17k => exact (by simp only [List.getElem?_toArray, List.getElem?_cons_succ, List.getElem?_cons_zero]; rfl)
  case hs17k => kernel_rfl
  case hf17k => kernel_rfl
  case hr17k => kernel_rfl
  case hQ17k => exact fun _ _ _ h => h
  case hy17k =>
    refine Or.inl ⟨rfl, ?_⟩
    intro W hSw
    obtain ⟨⟨q0, q1, q2, q3⟩, p0, p1, p2, p3⟩ := hSw
    go_simp
    try with_reducible rfl
  case hS17k => assumption
  try simp only [Act.put, List.setIfInBounds_toArray, List.set_cons_zero, List.set_cons_succ]
  refine wpAnyH_take (i := 18) (oi := ?oi18k) (v := ?v18k) ?hi18k ?hs18k ?hf18k ?hr18k ?hQ18k ?hy18k ?hS18k ?h18k
  case hi18k => exact (by simp only [List.getElem?_toArray, List.getElem?_cons_succ, List.getElem?_cons_zero]; rfl)
  case hs18k => kernel_rfl
  case hf18k => kernel_rfl
  case hr18k => kernel_rfl
  case hQ18k => exact fun _ _ _ h => h
  case hy18k =>
    refine Or.inl ⟨rfl, ?_⟩
    intro W hSw
    obtain ⟨⟨q0, q1, q2, q3⟩, p0, p1, p2, p3⟩ := hSw
    go_simp
    try with_reducible rfl
  case hS18k => assumption
  try simp only [Act.put, List.setIfInBounds_toArray, List.set_cons_zero, List.set_cons_succ]
  refine wpAnyH_done (by kernel_rfl) ?_ _
  have HF : Hid (Below w.heap.size w Wk4) := HB0.out.trans (HBk4.out.mono HB0.out.size)
  go_wp2_with fail
  go_ret
  exact ⟨rfl, HF.out⟩
end Go.Proofs.Ytemjmnpclknfaaa.P
