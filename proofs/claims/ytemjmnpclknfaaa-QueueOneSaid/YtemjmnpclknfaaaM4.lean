/- Queue: Usual, the law's own, tickets that came in; the document's rack. -/
import Derived.Test.YtemjmnpclknfaaaM2
import Derived.ProofKit
import Derived.OpenShut
import Derived.Lib.SmallJoins
import Derived.Deep.Slices
import Derived.Deep.Matrix

/- Queue: Usual. -/
namespace Go.Proofs.Ytemjmnpclknfaaa.T
open Go.RowKit
open Go.Proofs.Ytemjmnpclknfaaa.P (Sl un)
set_option maxRecDepth 20000
set_option linter.unusedVariables false
set_option linter.unusedSimpArgs false

set_option maxHeartbeats 4000000 in
theorem usual_any (A : Option Addr) (n c : Nat) (l : List M5) (w : World) (hn : n = l.length) (hR : Rm w A l) (hl : n ≤ 100) :
    Calls Try.prog 25 #[.slice A n c] w fun r w' => ∃ (cs : Array Value) (B : Option Addr) (c' : Nat), r = .returned (.agg cs) ∧ cs[13]? = some (.slice B n c') ∧ Rm w' B l ∧ Below w.heap.size w w' := by
  obtain ⟨T, hT⟩ : ∃ T, T = w.heap.size := ⟨_, rfl⟩
  obtain ⟨w0, hw0⟩ : ∃ w0, w0 = w.alloc (.cells #[.string { data := #[] }, .int .i64 0, .int .i64 0, .int .i64 0, .int .i64 0, .int .i64 0, .int .i64 0, .int .i64 0, .int .i64 0, .int .i64 0, .int .i64 0, .int .i64 0, .int .i64 0, .slice none 0 0] 65) := ⟨_, rfl⟩
  have hb0 : Below w.heap.size w w0 := by rw [hw0]; exact (Below.refl _ _).alloc (Nat.le_refl _) _
  have hq0 : w0.heap[T]? = some (.cells #[.string { data := #[] }, .int .i64 0, .int .i64 0, .int .i64 0, .int .i64 0, .int .i64 0, .int .i64 0, .int .i64 0, .int .i64 0, .int .i64 0, .int .i64 0, .int .i64 0, .int .i64 0, .slice none 0 0] 65 (0, 0)) := by rw [hw0, hT]; exact heap_alloc_new w _
  have H0 := Lib.hid hw0
  have HTT := Lib.hid hT
  have HN := Lib.hid hn
  have HC := Lib.hid (clone_m5 A n c l w0 hn (hR.after hb0) hl)
  clear hw0 hn hl hR hT
  go_enter Try.func25, Try.ntmps25
  go_upto_region 1 with (fail)
  rw [← H0.out, ← HTT.out]
  go_wp2_with fail
  refine HC.out.mono ?_
  rintro r w1 ⟨B, c1, rfl, ho1, hb1⟩
  have HM1 : Hid (Rm w1 B l) := Rm.of_own HN.out ho1
  have hq1 := (hb1.block _ (lt_of_block hq0)).trans hq0
  have f0 : ∀ i, w1.frozen? ⟨T, i, none⟩ = false := fun i => frozen_of_row w1 _ i _ _ hq1
  have d0 := cell_of_row w1 T 0 _ _ _ hq1
  have d1 := cell_of_row w1 T 1 _ _ _ hq1
  have d2 := cell_of_row w1 T 2 _ _ _ hq1
  have d3 := cell_of_row w1 T 3 _ _ _ hq1
  have d4 := cell_of_row w1 T 4 _ _ _ hq1
  have d5 := cell_of_row w1 T 5 _ _ _ hq1
  have d6 := cell_of_row w1 T 6 _ _ _ hq1
  have d7 := cell_of_row w1 T 7 _ _ _ hq1
  have d8 := cell_of_row w1 T 8 _ _ _ hq1
  have d9 := cell_of_row w1 T 9 _ _ _ hq1
  have d10 := cell_of_row w1 T 10 _ _ _ hq1
  have d11 := cell_of_row w1 T 11 _ _ _ hq1
  have d12 := cell_of_row w1 T 12 _ _ _ hq1
  have d13 := cell_of_row w1 T 13 _ _ _ hq1
  simp at d0 d1 d2 d3 d4 d5 d6 d7 d8 d9 d10 d11 d12 d13
  have HB : Hid (Below w.heap.size w w1) := hb0.trans (hb1.mono hb0.size)
  have HQ1 := Lib.hid hq1
  have HTS : Hid (w.heap.size ≤ T) := by rw [HTT.out]; exact Nat.le_refl _
  clear hb1 hb0 hq1 hq0 HC ho1
  go_wp2
  refine bodyPost_ret (v := .agg #[.string { data := #[116, 105, 108, 116] }, .int .i64 16, .int .i64 16, .int .i64 8, .int .i64 4, .int .i64 100, .int .i64 50, .int .i64 20, .int .i64 10, .int .i64 15, .int .i64 30, .int .i64 20, .int .i64 8192, .slice B n c1]) (by simp [results, Try.results25, go_sem, d0, d1, d2, d3, d4, d5, d6, d7, d8, d9, d10, d11, d12, d13]) rfl ⟨_, B, c1, rfl, rfl, fun hl => ?_, ?_⟩
  · obtain ⟨b, o, e1, ⟨cur, e2⟩, e3⟩ := HM1.out hl
    have hne : b ≠ T := fun e => by
      rw [e, HQ1.out] at e2
      injection e2 with e2
      injection e2 with _ e2
      exact absurd e2 (by decide)
    have k : ∀ (W : World) (i : Nat) (v : Value), (W.setCell ⟨T, i, none⟩ v).heap[b]? = W.heap[b]? := fun W i v => Below.heap_setCell _ _ _ _ hne
    have hb : ∀ W : World, W.heap[b]? = w1.heap[b]? → (∃ cur, W.heap[b]? = some (.cells cur 68 (0, 0))) ∧ ∀ (j : Nat) (v : Value), (m5 l)[j]? = some v → W.cell? ⟨b, o + j, none⟩ = some v := fun W hW => ⟨⟨cur, hW.trans e2⟩, fun j v hj => (World.cell?_of_block hW).trans (e3 j v hj)⟩
    refine ⟨b, o, e1, hb _ ?_⟩
    iterate 14 refine (k _ _ _).trans ?_
    rfl
  · iterate 14 refine Below.setCell ?_ HTS.out _
    exact HB.out
end Go.Proofs.Ytemjmnpclknfaaa.T

/- Queue: the law's own. -/
namespace Go.Proofs.Ytemjmnpclknfaaa.T
open Go.RowKit
open Go.Proofs.Ytemjmnpclknfaaa.P (Sl un)
set_option maxRecDepth 20000
set_option linter.unusedVariables false
set_option linter.unusedSimpArgs false

set_option maxHeartbeats 4000000 in
theorem lown_any (t : Tk) (s : Sl) (w : World) (h1 : s.n = t.mem.length) (hR : P.Rn w s.a t.mem) (hl : t.mem.length ≤ 1000) :
    Calls Try.prog 27 #[.agg (mC t.id t.md s t.rt t.sn)] w fun r w' => ∃ A c, r = .returned (.agg (mC t.id t.md ⟨A, s.n, c⟩ t.rt t.sn)) ∧ w'.ownsRow w.heap.size 26 1 (.slice A s.n c) s.n (un t.mem) ∧ Below w.heap.size w w' := by
  obtain ⟨G, hG⟩ : ∃ X, X = w.heap.size := ⟨_, rfl⟩
  obtain ⟨T, hT⟩ : ∃ Y, Y = w.heap.size + 1 := ⟨_, rfl⟩
  obtain ⟨w0, hw0⟩ : ∃ w0, w0 = (w.alloc (.cells (mC t.id t.md s t.rt t.sn) 70)).alloc (.cells #[.int .u32 0, .int .i64 0, .slice none 0 0, .int .i64 0, .int .i64 0] 72) := ⟨_, rfl⟩
  have hb0 : Below w.heap.size w w0 := by rw [hw0]; exact ((Below.refl _ _).alloc (Nat.le_refl _) _).alloc (by simp) _
  have hp0 : w0.heap[G]? = some (.cells (mC t.id t.md s t.rt t.sn) 70 (0, 0)) := by
    rw [hw0, hG]
    exact (Below.heap_alloc _ _ _ (by simp)).trans (heap_alloc_new w _)
  have hq0 : w0.heap[T]? = some (.cells #[.int .u32 0, .int .i64 0, .slice none 0 0, .int .i64 0, .int .i64 0] 72 (0, 0)) := by
    have h := heap_alloc_new (w.alloc (.cells (mC t.id t.md s t.rt t.sn) 70)) (.cells #[.int .u32 0, .int .i64 0, .slice none 0 0, .int .i64 0, .int .i64 0] 72)
    rw [World.size_alloc] at h
    rw [hw0, hT]
    exact h
  have HNG : Hid (G ≠ T) := by simp only [Hid]; omega
  have HTW : Hid (w.heap.size ≤ T) := by simp only [Hid]; omega
  have HSS : Hid (∀ W, Below w0.heap.size w0 W → (fun W : World => W.cell? ⟨G, 0, none⟩ = some (.int .u32 (t.id : Int)) ∧ W.cell? ⟨G, 1, none⟩ = some (.int .i64 t.md) ∧ W.cell? ⟨G, 2, none⟩ = some (.slice s.a s.n s.c) ∧ W.cell? ⟨G, 3, none⟩ = some (.int .i64 t.rt) ∧ W.cell? ⟨G, 4, none⟩ = some (.int .i64 t.sn)) W) := fun W hW => by
    have hq := (hW.block G (lt_of_block hp0)).trans hp0
    have x0 := cell_of_row _ G 0 _ _ _ hq
    have x1 := cell_of_row _ G 1 _ _ _ hq
    have x2 := cell_of_row _ G 2 _ _ _ hq
    have x3 := cell_of_row _ G 3 _ _ _ hq
    have x4 := cell_of_row _ G 4 _ _ _ hq
    exact ⟨by simpa using x0, by simpa using x1, by simpa using x2, by simpa using x3, by simpa using x4⟩
  have HBR : Hid (Below w0.heap.size w0 w0) := Below.refl _ _
  have HRN := Lib.hid (hR.after hb0)
  have HH1 := Lib.hid h1
  have HLL := Lib.hid hl
  have HB0 := Lib.hid hb0
  have HQT := Lib.hid hq0
  have H0 := Lib.hid hw0
  have HG := Lib.hid hG
  have HT := Lib.hid hT
  clear hw0 hb0 hp0 hq0 hG hT h1 hR hl
  go_enter Try.func27, Try.ntmps27
  go_upto_region 1 with (fail)
  rw [← H0.out, ← HT.out, ← HG.out]
  have HDk : Hid (Below w0.heap.size w0 w0.drew) := HBR.out.drew
  refine wp_region_held_drew (S := fun W : World => W.cell? ⟨G, 0, none⟩ = some (.int .u32 (t.id : Int)) ∧ W.cell? ⟨G, 1, none⟩ = some (.int .i64 t.md) ∧ W.cell? ⟨G, 2, none⟩ = some (.slice s.a s.n s.c) ∧ W.cell? ⟨G, 3, none⟩ = some (.int .i64 t.rt) ∧ W.cell? ⟨G, 4, none⟩ = some (.int .i64 t.sn)) (by kernel_rfl) (HSS.out _ (HDk.out)) (fun hHeld => ?_)
  obtain ⟨Wk0, hW0⟩ : ∃ W0, W0 = w0.drew := ⟨_, rfl⟩
  rw [← hW0] at hHeld HDk ⊢
  clear hW0
  refine wpAnyH_take (i := 0) (oi := ?oi0k) (v := ?v0k) ?hi0k ?hs0k ?hf0k ?hr0k ?hQ0k ?hy0k ?hS0k ?h0k
  case hi0k => exact (by simp only [List.getElem?_toArray, List.getElem?_cons_zero]; rfl)
  case hs0k => kernel_rfl
  case hf0k => kernel_rfl
  case hr0k => kernel_rfl
  case hQ0k => exact fun _ _ _ h => h
  case hy0k =>
    refine Or.inl ⟨rfl, ?_⟩
    intro W hSw
    obtain ⟨q0, q1, q2, q3, q4⟩ := hSw
    go_simp
    try with_reducible rfl
  case hS0k => assumption
  try simp only [Act.put, List.setIfInBounds_toArray, List.set_cons_zero, List.set_cons_succ]
  refine wpAnyH_take (i := 1) (oi := ?oi1k) (v := ?v1k) ?hi1k ?hs1k ?hf1k ?hr1k ?hQ1k ?hy1k ?hS1k ?h1k
  case hi1k => exact (by simp only [List.getElem?_toArray, List.getElem?_cons_succ, List.getElem?_cons_zero]; rfl)
  case hs1k => kernel_rfl
  case hf1k => kernel_rfl
  case hr1k => kernel_rfl
  case hQ1k => exact fun _ _ _ h => h
  case hy1k =>
    refine Or.inl ⟨rfl, ?_⟩
    intro W hSw
    obtain ⟨q0, q1, q2, q3, q4⟩ := hSw
    go_simp
    try with_reducible rfl
  case hS1k => assumption
  try simp only [Act.put, List.setIfInBounds_toArray, List.set_cons_zero, List.set_cons_succ]
  refine wpAnyH_take (i := 2) (oi := ?oi2k) (v := ?v2k) ?hi2k ?hs2k ?hf2k ?hr2k ?hQ2k ?hy2k ?hS2k ?h2k
  case hi2k => exact (by simp only [List.getElem?_toArray, List.getElem?_cons_succ, List.getElem?_cons_zero]; rfl)
  case hs2k => kernel_rfl
  case hf2k => kernel_rfl
  case hr2k => kernel_rfl
  case hQ2k => exact fun _ _ _ h => h
  case hy2k =>
    refine Or.inl ⟨rfl, ?_⟩
    intro W hSw
    obtain ⟨q0, q1, q2, q3, q4⟩ := hSw
    go_simp
    try with_reducible rfl
  case hS2k => assumption
  try simp only [Act.put, List.setIfInBounds_toArray, List.set_cons_zero, List.set_cons_succ]
  refine wpAnyH_take (i := 3) (oi := ?oi3k) (v := ?v3k) ?hi3k ?hs3k ?hf3k ?hr3k ?hQ3k ?hy3k ?hS3k ?h3k
  case hi3k => exact (by simp only [List.getElem?_toArray, List.getElem?_cons_succ, List.getElem?_cons_zero]; rfl)
  case hs3k => kernel_rfl
  case hf3k => kernel_rfl
  case hr3k => kernel_rfl
  case hQ3k => exact fun _ _ _ h => h
  case hy3k =>
    refine Or.inl ⟨rfl, ?_⟩
    intro W hSw
    obtain ⟨q0, q1, q2, q3, q4⟩ := hSw
    go_simp
    try with_reducible rfl
  case hS3k => assumption
  try simp only [Act.put, List.setIfInBounds_toArray, List.set_cons_zero, List.set_cons_succ]
  refine wpAnyH_take (i := 5) (oi := ?oi5k) (v := ?v5k) ?hi5k ?hs5k ?hf5k ?hr5k ?hQ5k ?hy5k ?hS5k ?h5k
  case hi5k => exact (by simp only [List.getElem?_toArray, List.getElem?_cons_succ, List.getElem?_cons_zero]; rfl)
  case hs5k => kernel_rfl
  case hf5k => kernel_rfl
  case hr5k => kernel_rfl
  case hQ5k => exact fun _ _ _ h => h
  case hy5k =>
    refine Or.inl ⟨rfl, ?_⟩
    intro W hSw
    obtain ⟨q0, q1, q2, q3, q4⟩ := hSw
    go_simp
    try with_reducible rfl
  case hS5k => assumption
  try simp only [Act.put, List.setIfInBounds_toArray, List.set_cons_zero, List.set_cons_succ]
  refine wpAnyH_take (i := 6) (oi := ?oi6k) (v := ?v6k) ?hi6k ?hs6k ?hf6k ?hr6k ?hQ6k ?hy6k ?hS6k ?h6k
  case hi6k => exact (by simp only [List.getElem?_toArray, List.getElem?_cons_succ, List.getElem?_cons_zero]; rfl)
  case hs6k => kernel_rfl
  case hf6k => kernel_rfl
  case hr6k => kernel_rfl
  case hQ6k => exact fun _ _ _ h => h
  case hy6k =>
    refine Or.inl ⟨rfl, ?_⟩
    intro W hSw
    obtain ⟨q0, q1, q2, q3, q4⟩ := hSw
    go_simp
    try with_reducible rfl
  case hS6k => assumption
  try simp only [Act.put, List.setIfInBounds_toArray, List.set_cons_zero, List.set_cons_succ]
  refine wpAnyH_take (i := 8) (oi := ?oi8k) (v := ?v8k) ?hi8k ?hs8k ?hf8k ?hr8k ?hQ8k ?hy8k ?hS8k ?h8k
  case hi8k => exact (by simp only [List.getElem?_toArray, List.getElem?_cons_succ, List.getElem?_cons_zero]; rfl)
  case hs8k => kernel_rfl
  case hf8k => kernel_rfl
  case hr8k => kernel_rfl
  case hQ8k => exact fun _ _ _ h => h
  case hy8k =>
    refine Or.inl ⟨rfl, ?_⟩
    intro W hSw
    obtain ⟨q0, q1, q2, q3, q4⟩ := hSw
    go_simp
    try with_reducible rfl
  case hS8k => assumption
  try simp only [Act.put, List.setIfInBounds_toArray, List.set_cons_zero, List.set_cons_succ]
  refine wpAnyH_take (i := 9) (oi := ?oi9k) (v := ?v9k) ?hi9k ?hs9k ?hf9k ?hr9k ?hQ9k ?hy9k ?hS9k ?h9k
  case hi9k => exact (by simp only [List.getElem?_toArray, List.getElem?_cons_succ, List.getElem?_cons_zero]; rfl)
  case hs9k => kernel_rfl
  case hf9k => kernel_rfl
  case hr9k => kernel_rfl
  case hQ9k => exact fun _ _ _ h => h
  case hy9k =>
    refine Or.inl ⟨rfl, ?_⟩
    intro W hSw
    obtain ⟨q0, q1, q2, q3, q4⟩ := hSw
    go_simp
    try with_reducible rfl
  case hS9k => assumption
  try simp only [Act.put, List.setIfInBounds_toArray, List.set_cons_zero, List.set_cons_succ]
  refine wpAnyH_take (i := 10) (oi := ?oi10k) (v := ?v10k) ?hi10k ?hs10k ?hf10k ?hr10k ?hQ10k ?hy10k ?hS10k ?h10k
  case hi10k => exact (by simp only [List.getElem?_toArray, List.getElem?_cons_succ, List.getElem?_cons_zero]; rfl)
  case hs10k => kernel_rfl
  case hf10k => kernel_rfl
  case hr10k => kernel_rfl
  case hQ10k => exact fun _ _ _ h => h
  case hy10k =>
    refine Or.inl ⟨rfl, ?_⟩
    intro W hSw
    obtain ⟨q0, q1, q2, q3, q4⟩ := hSw
    go_simp
    try with_reducible rfl
  case hS10k => assumption
  try simp only [Act.put, List.setIfInBounds_toArray, List.set_cons_zero, List.set_cons_succ]
  refine wpAnyH_take (i := 11) (oi := ?oi11k) (v := ?v11k) ?hi11k ?hs11k ?hf11k ?hr11k ?hQ11k ?hy11k ?hS11k ?h11k
  case hi11k => exact (by simp only [List.getElem?_toArray, List.getElem?_cons_succ, List.getElem?_cons_zero]; rfl)
  case hs11k => kernel_rfl
  case hf11k => kernel_rfl
  case hr11k => kernel_rfl
  case hQ11k => exact fun _ _ _ h => h
  case hy11k =>
    refine Or.inl ⟨rfl, ?_⟩
    intro W hSw
    obtain ⟨q0, q1, q2, q3, q4⟩ := hSw
    go_simp
    try with_reducible rfl
  case hS11k => assumption
  try simp only [Act.put, List.setIfInBounds_toArray, List.set_cons_zero, List.set_cons_succ]
  refine wpAnyH_ready (rs := [4]) (by kernel_rfl) (by simp) ?_
  refine AllReadyH.cons (o := _) rfl (fun K hK => ?_) AllReadyH.nil
  go_simp
  obtain ⟨KE, hKE⟩ : ∃ k, k = Wk0.heap.size := ⟨_, rfl⟩
  obtain ⟨We, hwe⟩ : ∃ X, X = Wk0.alloc (.cells #[] 26) := ⟨_, rfl⟩
  have hbe : Below Wk0.heap.size Wk0 We := by rw [hwe]; exact (Below.refl _ _).alloc (Nat.le_refl _) _
  have hoe : We.ownsRow KE 26 1 (.slice (some ⟨KE, 0, none⟩) 0 0) 0 [] := ⟨rfl, .inr ⟨KE, 0, #[], rfl, Nat.le_refl _, by rw [hwe, hKE]; exact heap_alloc_new _ _, Nat.le_refl _, Nat.zero_le _, rfl, rfl⟩⟩
  have HBE := Lib.hid (HDk.out.trans (hbe.mono HDk.out.size))
  have HKE : Hid (w0.heap.size ≤ KE) := by rw [hKE]; exact HDk.out.size
  obtain ⟨v1, W1, hr1, ho1, hg1⟩ := P.app_rn We KE 27 0 _ [] hoe s.a s.n s.c t.mem HH1.out (HRN.out.after HBE.out) (by have := HH1.out; have := HLL.out; omega) (by rw [hKE]; exact hbe.size)
  rw [Nat.zero_add, List.nil_append] at ho1
  obtain ⟨A1, c1, rfl⟩ := own_form1 ho1
  have HO1 := Lib.hid ho1
  have HB1 : Hid (Below w0.heap.size w0 W1) := HBE.out.grown hg1 HBE.out.size (fun k hk => by have e : KE = k := Option.some.inj hk; have := HKE.out; omega)
  rw [← hwe, ← hKE]
  clear hwe hbe hoe hKE ho1 hg1
  refine hK.out _ _ (HSS.out _ HBE.out) (fun hHeld => ?_)
  clear hK K
  try simp only [Act.put, List.setIfInBounds_toArray, List.set_cons_zero, List.set_cons_succ]
  refine wpAnyH_ready (rs := [7]) (by kernel_rfl) (by simp) ?_
  refine AllReadyH.cons (o := _) rfl (fun K hK => ?_) AllReadyH.nil
  refine P.step_append_run rfl _ _ 27 27 rfl _ _ rfl rfl hr1 ?_
  refine hK.out _ _ (HSS.out _ HB1.out) (fun hHeld => ?_)
  clear hK K hr1
  try simp only [Act.put, List.setIfInBounds_toArray, List.set_cons_zero, List.set_cons_succ]
  refine wpAnyH_take (i := 12) (oi := ?oi12k) (v := ?v12k) ?hi12k ?hs12k ?hf12k ?hr12k ?hQ12k ?hy12k ?hS12k ?h12k
  case hi12k => exact (by simp only [List.getElem?_toArray, List.getElem?_cons_succ, List.getElem?_cons_zero]; rfl)
  case hs12k => kernel_rfl
  case hf12k => kernel_rfl
  case hr12k => kernel_rfl
  case hQ12k => exact fun _ _ _ h => h
  case hy12k =>
    refine Or.inl ⟨rfl, ?_⟩
    intro W hSw
    obtain ⟨q0, q1, q2, q3, q4⟩ := hSw
    go_simp
    try with_reducible rfl
  case hS12k => assumption
  try simp only [Act.put, List.setIfInBounds_toArray, List.set_cons_zero, List.set_cons_succ]
  refine wpAnyH_ready (rs := [13]) (by kernel_rfl) (by simp) ?_
  refine AllReadyH.cons (o := _) rfl (fun K hK => ?_) AllReadyH.nil
  have hqr := (HB1.out.block T (lt_of_block HQT.out)).trans HQT.out
  have x0 := cell_of_row _ T 0 _ _ _ hqr
  have x1 := cell_of_row _ T 1 _ _ _ hqr
  have x2 := cell_of_row _ T 2 _ _ _ hqr
  have x3 := cell_of_row _ T 3 _ _ _ hqr
  have x4 := cell_of_row _ T 4 _ _ _ hqr
  simp at x0 x1 x2 x3 x4
  have xf : ∀ i, W1.frozen? ⟨T, i, none⟩ = false := fun i => frozen_of_row _ _ i _ _ hqr
  go_simp
  obtain ⟨W9, hW9⟩ : ∃ W, W = (((((W1.setCell ⟨T, 0, none⟩ (.int .u32 (t.id : Int))).setCell ⟨T, 1, none⟩ (.int .i64 t.md)).setCell ⟨T, 2, none⟩ (.slice A1 s.n c1)).setCell ⟨T, 3, none⟩ (.int .i64 t.rt)).setCell ⟨T, 4, none⟩ (.int .i64 t.sn)) := ⟨_, rfl⟩
  have HC9 : Hid (W9.cell? ⟨T, 0, none⟩ = some (.int .u32 (t.id : Int)) ∧ W9.cell? ⟨T, 1, none⟩ = some (.int .i64 t.md) ∧ W9.cell? ⟨T, 2, none⟩ = some (.slice A1 s.n c1) ∧ W9.cell? ⟨T, 3, none⟩ = some (.int .i64 t.rt) ∧ W9.cell? ⟨T, 4, none⟩ = some (.int .i64 t.sn)) := by
    have h := three (.int .u32 (t.id : Int)) (.int .i64 t.md) (.slice A1 s.n c1) (.int .i64 t.rt) (.int .i64 t.sn) hqr
    rw [hW9]
    exact ⟨h.1, h.2.1, h.2.2.1, h.2.2.2.1, h.2.2.2.2.1⟩
  have HB9 : Hid (Below w.heap.size w W9) := by rw [hW9]; exact three_below (.int .u32 (t.id : Int)) (.int .i64 t.md) (.slice A1 s.n c1) (.int .i64 t.rt) (.int .i64 t.sn) (HB0.out.trans (HB1.out.mono HB0.out.size)) HTW.out
  have HG9 : Hid (W9.cell? ⟨G, 0, none⟩ = some (.int .u32 (t.id : Int)) ∧ W9.cell? ⟨G, 1, none⟩ = some (.int .i64 t.md) ∧ W9.cell? ⟨G, 2, none⟩ = some (.slice s.a s.n s.c) ∧ W9.cell? ⟨G, 3, none⟩ = some (.int .i64 t.rt) ∧ W9.cell? ⟨G, 4, none⟩ = some (.int .i64 t.sn)) := by
    obtain ⟨q0, q1, q2, q3, q4⟩ := HSS.out _ HB1.out
    have hk : ∀ i, W9.cell? ⟨G, i, none⟩ = W1.cell? ⟨G, i, none⟩ := fun i => World.cell?_of_block (by rw [hW9]; iterate 5 rw [Below.heap_setCell _ _ _ _ HNG.out])
    exact ⟨(hk 0).trans q0, (hk 1).trans q1, (hk 2).trans q2, (hk 3).trans q3, (hk 4).trans q4⟩
  have HO9 : Hid (W9.ownsRow w.heap.size 26 1 (.slice A1 s.n c1) s.n (un t.mem)) := by
    refine P.own_base' (P.own_after HO1.out fun g hg => ?_) (Nat.le_trans HB0.out.size HKE.out)
    obtain ⟨cur, hc⟩ := own_type HO1.out hg
    have hne : g ≠ T := fun e => by
      subst e
      rw [hqr] at hc
      injection hc with hc
      injection hc with _ hc
      exact absurd hc (by decide)
    rw [hW9]
    iterate 5 rw [Below.heap_setCell _ _ _ _ hne]
  rw [← hW9]
  clear hW9 hqr xf x0 x1 x2 x3 x4
  refine hK.out _ _ HG9.out (fun hHeld => ?_)
  clear hK K
  try simp only [Act.put, List.setIfInBounds_toArray, List.set_cons_zero, List.set_cons_succ]
  refine wpAnyH_done (by kernel_rfl) ?_ _
  go_wp2_with fail
  obtain ⟨e0, e1, e2, e3, e4⟩ := HC9.out
  exact bodyPost_ret (v := .agg (mC t.id t.md ⟨A1, s.n, c1⟩ t.rt t.sn)) (by simp [results, Try.results27, go_sem, e0, e1, e2, e3, e4]) rfl ⟨A1, c1, rfl, HO9.out, HB9.out⟩
end Go.Proofs.Ytemjmnpclknfaaa.T

/- Queue: tickets that came in. -/
namespace Go.Proofs.Ytemjmnpclknfaaa.T
open Go.RowKit Go.Maps Go.ChangeShapes
open Go.Joins
open Go.Proofs.Ytemjmnpclknfaaa.P (Sl un)
set_option maxRecDepth 20000
set_option linter.unusedVariables false
set_option linter.unusedSimpArgs false

theorem nums_of {H : Type} {enc : TypeId × Value → H} {W : World} {m : Nat} {c0 : Value} {y0 : DataW H × List MemPlace} (h : DataW.trod enc Try.prog W 0 (fun _ => true) true m 27 [c0] = some y0) :
    ∃ (A : Option Addr) (c : Nat) (l : List Nat), c0 = .slice A l.length c ∧ P.Rn W A l ∧ l.length ≤ 9223372036854775807 ∧ l.length ≤ c ∧ ∀ e ∈ l, e < 4294967296 := by
  have k26 : Try.prog.cellsOf 26 = 1 := by kernel_rfl
  rcases Deep.open_slice Try.underlying27 h with ⟨hcs, _⟩ | ⟨a, n, c, m, k, D, Pl, hcs, _, hl, hm, hmm, _, hx⟩
  · simp at hcs
    subst hcs
    exact ⟨none, 0, [], rfl, fun h => by simp at h, by simp, by simp, fun e he => by cases he⟩
  · simp at hcs
    subst hcs
    rw [k26] at hx
    have each : ∀ i, i < n → ∃ e : Nat, e < 4294967296 ∧ W.cell? (a.add (i * 1)) = some (.int .u32 (e : Int)) := fun i hi => by
      obtain ⟨cs', h1, h2⟩ := hx i (by rw [hmm]; simp; omega)
      obtain ⟨_, hlen, hcell⟩ := World.cells?_some h1
      match cs', hlen with
      | [c0], _ =>
        obtain ⟨x0, e0, _, w0⟩ := DataW.trod_int Try.underlying26 h2
        simp only [List.cons.injEq, and_true] at e0
        subst e0
        have b0 := bounds_u32 w0
        have q0 := hcell 0 (by omega)
        rw [Deep.add_add] at q0
        exact ⟨x0.toNat, by omega, by simpa [show (x0.toNat : Int) = x0 by omega] using q0⟩
    obtain ⟨f, hf⟩ := Deep.choose_lt each
    refine ⟨some a, c, (List.range n).map f, by simp, fun h0 => ?_, by unfold maxLen at hm; simp; omega, by simpa using hl, fun e he => ?_⟩
    · simp at h0
      have hc0 := (hf 0 h0).2
      obtain ⟨b, off, spot⟩ := a
      have hspot : spot = none := by simpa [Addr.add] using World.cell?_spot hc0
      subst hspot
      refine ⟨b, off, rfl, World.block_lt_of_cell? W ⟨b, off + 0 * 1, none⟩ (by rw [← Go.WideShapes.add_plain]; exact hc0), fun i e he => ?_⟩
      rw [List.getElem?_map] at he
      obtain ⟨i', hi', rfl⟩ := Option.map_eq_some_iff.1 he
      obtain ⟨hin, rfl⟩ := List.getElem?_eq_some_iff.1 hi'
      simp at hin
      simp only [List.getElem_range]
      obtain ⟨_, r0⟩ := hf i hin
      rw [Go.WideShapes.add_plain, Nat.mul_one] at r0
      exact r0
    · obtain ⟨i, hi, rfl⟩ := List.mem_map.1 he
      exact (hf i (List.mem_range.1 hi)).1
/-- A ticket that came in: where its players lie. -/
structure Tc where
  a : Option Addr
  c : Nat
  t : Tk
instance : Inhabited Tc := ⟨⟨none, 0, ⟨0, 0, [], 0, 0⟩⟩⟩
abbrev tC (e : Tc) : Array Value := #[.int .u32 (e.t.id : Int), .int .i64 e.t.md, .slice e.a e.t.mem.length e.c, .int .i64 e.t.rt, .int .i64 e.t.sn]
def Rk (w : World) (e : Tc) : Prop := P.Rn w e.a e.t.mem ∧ e.t.mem.length ≤ 9223372036854775807 ∧ e.t.id < 4294967296 ∧ (∀ x ∈ e.t.mem, x < 4294967296) ∧ (-9223372036854775808 ≤ e.t.md ∧ e.t.md < 9223372036854775808)
theorem tic_of {H : Type} {enc : TypeId × Value → H} {W : World} {m : Nat} {c0 c1 c2 c3 c4 : Value} {y : DataW H × List MemPlace} (h : DataW.trod enc Try.prog W 0 (fun _ => true) true m 70 [c0, c1, c2, c3, c4] = some y) :
    ∃ e : Tc, #[c0, c1, c2, c3, c4] = tC e ∧ Rk W e := by
  have k26 : Try.prog.cellsOf 26 = 1 := by kernel_rfl
  have k3 : Try.prog.cellsOf 3 = 1 := by kernel_rfl
  have k27 : Try.prog.cellsOf 27 = 1 := by kernel_rfl
  have k2 : Try.prog.cellsOf 2 = 1 := by kernel_rfl
  obtain ⟨xs, m', _, _, _, hlen', hx'⟩ := DataW.trod_struct Try.underlying70 h
  match xs, hlen' with
  | [y0, y1, y2, y3, y4], _ =>
    have g0 : DataW.trod enc Try.prog W 0 (fun _ => true) true m' 26 [c0] = some y0 := by simpa [Value.cells, k26] using hx' 0 _ rfl
    have g1 : DataW.trod enc Try.prog W 0 (fun _ => true) true m' 3 [c1] = some y1 := by simpa [Value.cells, k26, k3] using hx' 1 _ rfl
    have g2 : DataW.trod enc Try.prog W 0 (fun _ => true) true m' 27 [c2] = some y2 := by simpa [Value.cells, k26, k3, k27] using hx' 2 _ rfl
    have g3 : DataW.trod enc Try.prog W 0 (fun _ => true) true m' 3 [c3] = some y3 := by simpa [Value.cells, k26, k3, k27] using hx' 3 _ rfl
    have g4 : DataW.trod enc Try.prog W 0 (fun _ => true) true m' 2 [c4] = some y4 := by simpa [Value.cells, k26, k3, k27, k2] using hx' 4 _ rfl
    obtain ⟨x0, e0, _, w0⟩ := DataW.trod_int Try.underlying26 g0
    obtain ⟨x1, e1, _, w1⟩ := DataW.trod_int Try.underlying3 g1
    obtain ⟨x3, e3, _, w3⟩ := DataW.trod_int Try.underlying3 g3
    obtain ⟨x4, e4, _, w4⟩ := DataW.trod_int Try.underlying2 g4
    simp only [List.cons.injEq, and_true] at e0 e1 e3 e4
    subst e0 e1 e3 e4
    obtain ⟨A, c, l, rfl, hr, hl, hlc, hlt⟩ := nums_of g2
    have b0 := bounds_u32 w0
    have b1 := bounds_i64 w1
    have b3 := bounds_i64 w3
    have b4 := bounds_i64 w4
    refine ⟨⟨A, c, ⟨x0.toNat, x1, l, x3, x4⟩⟩, ?_, hr, hl, by show x0.toNat < _; omega, hlt, by show _ ≤ x1; omega, by show x1 < _; omega⟩
    simp only [tC, show ((x0.toNat : Nat) : Int) = x0 by omega]
theorem open_tic {H : Type} {enc : TypeId × Value → H} {W : World} {r : Reach} {b0 : Nat} {v : Value} {d : DataW H} {q : List MemPlace} (hv : Value.okWide Try.prog W r b0 70 v) (h : DataW.Trod enc Try.prog W 0 (fun _ => true) true 70 v d q) :
    ∃ e : Tc, v = .agg (tC e) ∧ Rk W e := by
  obtain ⟨cs, rfl, hsz⟩ := WideShapes.okWide_struct Try.underlying70 hv
  obtain ⟨fuel, hf⟩ := h
  have h5 : cs.size = 5 := hsz.trans (show Try.prog.cellsOf 70 = 5 by kernel_rfl)
  obtain ⟨l, rfl⟩ : ∃ l, cs = List.toArray l := ⟨cs.toList, by simp⟩
  match l, h5 with
  | [c0, c1, c2, c3, c4], _ =>
    obtain ⟨e, h1, h2⟩ := tic_of (c0 := c0) (c1 := c1) (c2 := c2) (c3 := c3) (c4 := c4) hf
    exact ⟨e, by rw [← h1], h2⟩
/-- The acts l are read from A on. -/
def Ts (w : World) (B : Nat) (A : Option Addr) (l : List Tc) : Prop :=
  0 < l.length → ∃ b o, A = some ⟨b, o, none⟩ ∧ b < B ∧ ∀ i e, l[i]? = some e → w.cell? ⟨b, o + i * 5, none⟩ = some (.int .u32 (e.t.id : Int)) ∧ w.cell? ⟨b, o + i * 5 + 1, none⟩ = some (.int .i64 e.t.md) ∧ w.cell? ⟨b, o + i * 5 + 2, none⟩ = some (.slice e.a e.t.mem.length e.c) ∧ w.cell? ⟨b, o + i * 5 + 3, none⟩ = some (.int .i64 e.t.rt) ∧ w.cell? ⟨b, o + i * 5 + 4, none⟩ = some (.int .i64 e.t.sn)
theorem open_tics {H : Type} {enc : TypeId × Value → H} {W : World} {r : Reach} {b0 : Nat} {v : Value} {d : DataW H} {q : List MemPlace} (hv : Value.okWide Try.prog W r b0 58 v) (h : DataW.Trod enc Try.prog W 0 (fun _ => true) true 58 v d q) :
    ∃ (p : Option Addr × Nat) (l : List Tc), v = .slice p.1 l.length p.2 ∧ Ts W W.heap.size p.1 l ∧ l.length ≤ 9223372036854775807 ∧ ∀ e ∈ l, Rk W e := by
  obtain ⟨A, n, c, rfl⟩ := WideShapes.okWide_slice Try.underlying58 hv
  obtain ⟨fuel, hf⟩ := h
  have c4 : Try.prog.cellsOf 70 = 5 := by kernel_rfl
  rcases Deep.open_slice Try.underlying58 hf with ⟨hcs, _⟩ | ⟨a, len, cap, m, k, D, Pl, hcs, _, hl, hm, hmm, _, hx⟩
  · simp [Value.cells] at hcs
    obtain ⟨rfl, rfl, rfl⟩ := hcs
    exact ⟨(none, 0), [], rfl, fun h => by simp at h, by simp, fun e he => by simp at he⟩
  · simp [Value.cells] at hcs
    obtain ⟨rfl, rfl, rfl⟩ := hcs
    rw [c4] at hx
    have each : ∀ i, i < n → ∃ e : Tc, Rk W e ∧ W.cell? (a.add (i * 5)) = some (.int .u32 (e.t.id : Int)) ∧ W.cell? (a.add (i * 5 + 1)) = some (.int .i64 e.t.md) ∧ W.cell? (a.add (i * 5 + 2)) = some (.slice e.a e.t.mem.length e.c) ∧ W.cell? (a.add (i * 5 + 3)) = some (.int .i64 e.t.rt) ∧ W.cell? (a.add (i * 5 + 4)) = some (.int .i64 e.t.sn) := fun i hi => by
      obtain ⟨cs', h1, h2⟩ := hx i (by rw [hmm]; simp; omega)
      obtain ⟨_, hlen, hcell⟩ := World.cells?_some h1
      match cs', hlen with
      | [x0, x1, x2, x3, x4], _ =>
        obtain ⟨e, he, hr⟩ := tic_of h2
        simp only [tC, Array.mk.injEq, List.cons.injEq, and_true] at he
        obtain ⟨rfl, rfl, rfl, rfl, rfl⟩ := he
        have q0 := hcell 0 (by omega)
        have q1 := hcell 1 (by omega)
        have q2 := hcell 2 (by omega)
        have q3 := hcell 3 (by omega)
        have q4 := hcell 4 (by omega)
        rw [Deep.add_add] at q0 q1 q2 q3 q4
        exact ⟨e, hr, by simpa using q0, by simpa using q1, by simpa using q2, by simpa using q3, by simpa using q4⟩
    obtain ⟨f, hf⟩ := Deep.choose_lt each
    refine ⟨(some a, c), (List.range n).map f, by simp, fun h0 => ?_, by unfold maxLen at hm; simp; omega, fun e he => by
      obtain ⟨i, hi, rfl⟩ := List.mem_map.1 he
      exact (hf i (List.mem_range.1 hi)).1⟩
    simp at h0
    have hc0 := (hf 0 h0).2.1
    obtain ⟨b, off, spot⟩ := a
    have hspot : spot = none := by simpa [Addr.add] using World.cell?_spot hc0
    subst hspot
    refine ⟨b, off, rfl, World.block_lt_of_cell? W ⟨b, off + 0 * 5, none⟩ (by rw [← Go.WideShapes.add_plain]; exact hc0), fun i e he => ?_⟩
    rw [List.getElem?_map] at he
    obtain ⟨i', hi', rfl⟩ := Option.map_eq_some_iff.1 he
    obtain ⟨hin, rfl⟩ := List.getElem?_eq_some_iff.1 hi'
    simp at hin
    simp only [List.getElem_range]
    have hq := (hf i hin).2
    rw [Go.WideShapes.add_plain, Go.WideShapes.add_plain, Go.WideShapes.add_plain, Go.WideShapes.add_plain, Go.WideShapes.add_plain] at hq
    exact ⟨hq.1, by rw [Nat.add_assoc]; exact hq.2.1, by rw [Nat.add_assoc]; exact hq.2.2.1, by rw [Nat.add_assoc]; exact hq.2.2.2.1, by rw [Nat.add_assoc]; exact hq.2.2.2.2⟩
end Go.Proofs.Ytemjmnpclknfaaa.T

/- The document's rack. -/
namespace Go.Proofs.Ytemjmnpclknfaaa.V
open Go.RowKit
open Go.Proofs.Ytemjmnpclknfaaa.P (own_after Pl)
set_option maxRecDepth 20000
set_option linter.unusedVariables false
set_option linter.unusedSimpArgs false
theorem step_append_run {ops : Array Oper} {o : Oper} {a : Act} {w : World} {K : Act → World → Prop} {Q : Exit → Act → World → Prop} {E : Prop}
    (hg : o.guard = none) (d x : Operand) (dT sT : TypeId) (hop : o.op = Op.call { callee := Callee.builtin Builtin.append, args := #[d, x], argTypes := #[dT, sT] })
    (v u : Value) (hd : a.eval d = v) (hx : a.eval x = u) {v' : Value} {w' : World} (hr : (Builtin.append_ #[dT, sT] o.type #[v, u]).run Try.prog w = .ok v' w') (hK : K (a.put o.dst v') w') :
    if Region.wanted o (yielded ops a.tmps) = true then Oper.wp Try.prog o a w K Q else E := by
  have hw : Region.wanted o (yielded ops a.tmps) = true := by simp [Region.wanted, hg]
  rw [if_pos hw]
  unfold Oper.wp
  simp [execOp, hop, resolve, invoke, builtin, hd, hx, hr, Result.andThen]
  exact hK


abbrev Ps := List (Nat × Int)
def okN (x : Nat) : Prop := 1 ≤ x ∧ x ≤ 2147483647
theorem perm_fst {l ps : Ps} (h : l.Perm ps) (y : Nat) : y ∈ l.map (·.1) ↔ y ∈ ps.map (·.1) := (h.map _).mem_iff
def rc (e : Nat × Int) : List Value := [.int .u32 (e.1 : Int), .int .i64 e.2]
def rr (l : List (Nat × Int)) : List Value := l.flatMap rc
def rV (A : Option Addr) (n c : Nat) (most : Int) : Value := .agg #[.slice A n c, .int .i64 most]
/-- The rows l are read from A on. -/
def Rs (w : World) (B : Nat) (A : Option Addr) (l : List (Nat × Int)) : Prop :=
  0 < l.length → ∃ b o, A = some ⟨b, o, none⟩ ∧ b < B ∧ ∀ i e, l[i]? = some e → w.cell? ⟨b, o + i * 2, none⟩ = some (.int .u32 (e.1 : Int)) ∧ w.cell? ⟨b, o + i * 2 + 1, none⟩ = some (.int .i64 e.2)
theorem Rs.below {w W : World} {B : Nat} {A : Option Addr} {l : List (Nat × Int)} (h : Rs w B A l) (hb : Below B w W) : Rs W B A l := fun hl => by
  obtain ⟨b, o, h1, h2, h3⟩ := h hl
  exact ⟨b, o, h1, h2, fun i e he => ⟨(hb.cell (p := ⟨b, _, none⟩) h2).trans (h3 i e he).1, (hb.cell (p := ⟨b, _, none⟩) h2).trans (h3 i e he).2⟩⟩
theorem Rs.mono {w : World} {B B' : Nat} {A : Option Addr} {l : List (Nat × Int)} (h : Rs w B A l) (hb : B ≤ B') : Rs w B' A l := fun hl => by
  obtain ⟨b, o, h1, h2, h3⟩ := h hl
  exact ⟨b, o, h1, Nat.lt_of_lt_of_le h2 hb, h3⟩
theorem rr_len (l : List (Nat × Int)) : (rr l).length = l.length * 2 := by
  induction l with
  | nil => rfl
  | cons e l ih =>
    unfold rr at ih ⊢
    rw [List.flatMap_cons, List.length_append, ih, List.length_cons]
    simp [rc]
    omega
theorem rr_get : ∀ (l : List (Nat × Int)) (i : Nat) (e : Nat × Int) (j : Nat), l[i]? = some e → j < 2 → (rr l)[i * 2 + j]? = (rc e)[j]?
  | [], i, e, j, h, _ => by simp at h
  | x :: l, 0, e, j, h, hj => by
    simp at h
    subst h
    unfold rr
    rw [List.flatMap_cons, List.getElem?_append_left (by simp [rc]; omega)]
    simp
  | x :: l, i + 1, e, j, h, hj => by
    have ih := rr_get l i e j (by simpa using h) hj
    unfold rr at ih ⊢
    rw [List.flatMap_cons, List.getElem?_append_right (by simp [rc]; omega)]
    simp only [show (rc x).length = 2 from rfl, show (i + 1) * 2 + j - 2 = i * 2 + j by omega]
    exact ih
theorem rr_snoc (l : List (Nat × Int)) (e : Nat × Int) : rr (l ++ [e]) = rr l ++ rc e := by simp [rr]
theorem own_form2 {w : World} {base m : Nat} {v : Value} {xs : List Value} (h : w.ownsRow base 132 2 v m xs) : ∃ A c, v = .slice A m c := by
  rcases h.2 with ⟨rfl, rfl⟩ | ⟨g, cap, cur, rfl, _⟩
  · exact ⟨none, 0, rfl⟩
  · exact ⟨_, cap, rfl⟩
theorem Rs.of_own {w : World} {base m c : Nat} {A : Option Addr} {l : List (Nat × Int)} (h : w.ownsRow base 132 2 (.slice A m c) m (rr l)) : Rs w w.heap.size A l := fun hl => by
  have hcells := fun g => h.cells (g := g)
  have hlt := h.lt
  have hlen := h.1
  rw [rr_len] at hlen
  rcases h.2 with ⟨_, h0⟩ | ⟨g, cap, cur, e1, _, _, _, _⟩
  · omega
  · injection e1 with e1 _ _
    subst e1
    refine ⟨g, 0, rfl, (hlt g rfl).2, fun i e he => ?_⟩
    have hc : ∀ j, j < 2 → w.cell? ⟨g, 0 + i * 2 + j, none⟩ = (rc e)[j]? := fun j hj => by
      obtain ⟨u, hu⟩ : ∃ u, (rc e)[j]? = some u := ⟨(rc e)[j]'(by simpa [rc] using hj), List.getElem?_eq_getElem _⟩
      have := hcells g rfl (i * 2 + j) u (by rw [rr_get l i e j he hj, hu])
      rw [Go.WideShapes.add_plain, ← Nat.add_assoc] at this
      rw [hu, ← this]
    exact ⟨by simpa [rc] using hc 0 (by omega), by simpa [rc] using hc 1 (by omega)⟩
theorem info132 : (Try.prog.info? 132).map (fun i => (i.zero, i.size, i.bytes)) = some (some (.agg #[.int .u32 0, .int .i64 0]), 2, 16) := by kernel_rfl

/-- Where a row of a number stands; -1: there is none. -/
def Fd (l : List (Nat × Int)) (x : Nat) (i : Int) : Prop := (∃ (p : Nat) (v : Int), i = p ∧ l[p]? = some (x, v)) ∨ (i = -1 ∧ ∀ e ∈ l, e.1 ≠ x)

set_option maxHeartbeats 2000000 in
theorem find_any (A : Option Addr) (n c : Nat) (most : Int) (x : Nat) (l : List (Nat × Int)) (w : World) (hn : n = l.length) (hR : Rs w w.heap.size A l) (hl : n ≤ 1000) :
    Calls Try.prog 72 #[rV A n c most, .int .u32 (x : Int)] w fun r w' => (∃ i : Int, Fd l x i ∧ r = .returned (.int .i64 i)) ∧ Below w.heap.size w w' := by
  unfold rV
  obtain ⟨w0, hw0⟩ : ∃ w0, w0 = w.alloc (.cells #[.slice A n c, .int .i64 most] 76) := ⟨_, rfl⟩
  have hb0 : Below w.heap.size w w0 := by rw [hw0]; exact (Below.refl _ _).alloc (Nat.le_refl _) _
  have hp0 : w0.heap[w.heap.size]? = some (.cells #[.slice A n c, .int .i64 most] 76 (0, 0)) := by rw [hw0]; exact heap_alloc_new w _
  have c0 := cell_of_row w0 w.heap.size 0 _ _ _ hp0
  have c1 := cell_of_row w0 w.heap.size 1 _ _ _ hp0
  simp at c0 c1
  have HR : Hid (Rs w0 w0.heap.size A l) := (hR.below hb0).mono hb0.size
  have H0 := Lib.hid hw0
  have HB0 := Lib.hid hb0
  have HP0 := Lib.hid hp0
  have HN := Lib.hid hn
  clear hw0 hb0 hp0 hn hR
  go_enter Try.func72, Try.ntmps72
  go_upto_region 1 with (fail)
  rw [← H0.out]
  go_wp2_with fail
  go_loopw [5] (fun u wr => ∃ k : Nat, k ≤ n ∧ u = .int .i64 (k : Int) ∧ Hid (∀ (j : Nat) e, j < k → l[j]? = some e → e.1 ≠ x) ∧ wr = w0) (fun u _ => n - (intOf u).toNat)
  case atStart => exact ⟨0, by omega, rfl, fun j e hj => absurd hj (Nat.not_lt_zero j), by first | rfl | trivial⟩
  case round =>
    obtain ⟨k, hk, rfl, HK, rfl⟩ := hrel
    by_cases hlt : k < n
    · obtain ⟨⟨y, v⟩, hy⟩ : ∃ e, l[k]? = some e := ⟨l[k]'(by rw [← HN.out]; exact hlt), List.getElem?_eq_getElem _⟩
      obtain ⟨b1, o1, rfl, hb1, ha1⟩ := HR.out (by have := HN.out; omega)
      have d0 := (ha1 k _ hy).1
      simp only at d0
      have HY := Lib.hid hy
      clear hy ha1 hb1
      by_cases hxy : y = x
      · subst hxy
        go_wp2
        go_ret
        exact ⟨⟨k, .inl ⟨k, v, rfl, HY.out⟩, rfl⟩, HB0.out⟩
      · have hxz : ¬ (y : Int) = (x : Int) := by omega
        go_wp2
        go_roundw
        case rel =>
          refine ⟨k + 1, by omega, by go_num, fun j e hj hje => ?_, by first | rfl | trivial⟩
          by_cases hjk : j < k
          · exact HK.out j e hjk hje
          · have : j = k := by omega
            subst this
            rw [HY.out] at hje
            injection hje with hje
            rw [← hje]
            exact hxy
        case measure => simp [intOf] <;> omega
    · have hkn : k = n := by omega
      subst hkn
      have HF : Hid (Fd l x (-1)) := .inr ⟨rfl, fun e he => by
        obtain ⟨j, hj⟩ := List.getElem?_of_mem he
        exact HK.out j e (by have := (List.getElem?_eq_some_iff.1 hj).1; have := HN.out; omega) hj⟩
      go_wp2
      go_ret
      exact ⟨⟨-1, HF.out, rfl⟩, HB0.out⟩

set_option maxHeartbeats 4000000 in
def dropR (x : Nat) (l : List (Nat × Int)) : List (Nat × Int) := l.filter (fun e => e.1 != x)
theorem own2_lt {w : World} {base T m : Nat} {v : Value} {xs : List Value} (h : w.ownsRow base T 2 v m xs) (g : Nat) (hg : v.ownBlock = some g) : base ≤ g ∧ g < w.heap.size := h.lt g hg
theorem own2_after {w w' : World} {base T m : Nat} {v : Value} {xs : List Value} (h : w.ownsRow base T 2 v m xs) (hb : ∀ g, v.ownBlock = some g → w'.heap[g]? = w.heap[g]?) : w'.ownsRow base T 2 v m xs := by
  refine ⟨h.1, ?_⟩
  rcases h.2 with hn | ⟨g, cap, cur, rfl, hbg, hg, rest⟩
  · exact .inl hn
  · exact .inr ⟨g, cap, cur, rfl, hbg, (hb g rfl).trans hg, rest⟩
theorem run_row {w : World} (base G ty : Nat) (v : Value) (m : Nat) (l : List (Nat × Int)) (e : Nat × Int) (hown : w.ownsRow base 132 2 v m (rr l)) (hG : w.heap[G]? = some (.cells #[.int .u32 (e.1 : Int), .int .i64 e.2] 132 (0, 0))) (hm : m ≤ 1000) (hbase : base ≤ w.heap.size) :
    ∃ v' w', (Builtin.append_ #[74, 74] ty #[v, .slice (some ⟨G, 0, none⟩) 1 1]).run Try.prog w = .ok v' w' ∧ w'.ownsRow base 132 2 v' (m + 1) (rr (l ++ [e])) ∧ w.grownBy w' v.ownBlock := by
  obtain ⟨i0, hi, hz0, hz1, hz2⟩ := info_parts info132
  obtain ⟨v', w', hr, h2, h3, _⟩ := run_append_own (P := Try.prog) w base 74 ty 132 i0 _ 2 _ Try.underlying74 hi hz0 hz1 hz2 rfl (by decide) v m (rr l) hown ⟨G, 0, none⟩ 1 1 (rc e) rfl (fun j u hu => by
    have := cell_of_row w G j _ _ _ hG
    rw [show (#[.int .u32 (e.1 : Int), .int .i64 e.2] : Array Value) = (rc e).toArray from rfl, List.getElem?_toArray, hu] at this
    rw [← this, Go.WideShapes.add_plain, Nat.zero_add]) (by
    intro u hu
    simp only [rc, List.mem_cons, List.not_mem_nil, or_false] at hu
    rcases hu with rfl | rfl <;> rfl) (by unfold maxLen; omega) (by omega) hbase
  exact ⟨v', w', hr, by rw [rr_snoc]; exact h2, h3⟩
theorem own2_base {w : World} {base base' T m : Nat} {v : Value} {xs : List Value} (h : w.ownsRow base' T 2 v m xs) (hb : base ≤ base') : w.ownsRow base T 2 v m xs := by
  refine ⟨h.1, ?_⟩
  rcases h.2 with hn | ⟨g, cap, cur, rfl, hbg, rest⟩
  · exact .inl hn
  · exact .inr ⟨g, cap, cur, rfl, Nat.le_trans hb hbg, rest⟩
theorem drop_le (x : Nat) (l : List (Nat × Int)) : (dropR x l).length ≤ l.length := List.length_filter_le _ _

set_option linter.unusedSimpArgs false in
set_option maxHeartbeats 4000000 in
theorem rdrop_any (A : Option Addr) (n c : Nat) (most : Int) (x : Nat) (l : List (Nat × Int)) (w : World) (hn : n = l.length) (hR : Rs w w.heap.size A l) (hl : n ≤ 900) :
    Calls Try.prog 73 #[rV A n c most, .int .u32 (x : Int)] w fun r w' => ∃ B m c', r = .returned (rV B m c' most) ∧ w'.ownsRow w.heap.size 132 2 (.slice B m c') m (rr (dropR x l)) ∧ Below w.heap.size w w' := by
  unfold rV
  obtain ⟨w0, hw0⟩ : ∃ w0, w0 = ((w.alloc (.cells #[.slice A n c, .int .i64 most] 76)).alloc (.cells #[.slice none 0 0, .int .i64 0] 76)).alloc (.cells #[.slice none 0 0, .int .i64 most] 76) := ⟨_, rfl⟩
  obtain ⟨Q, hQ⟩ : ∃ Q, Q = w.heap.size + 2 := ⟨_, rfl⟩
  have hs0 : w0.heap.size = w.heap.size + 3 := by rw [hw0]; simp
  have hb0 : Below w.heap.size w w0 := by rw [hw0]; exact (((Below.refl _ _).alloc (Nat.le_refl _) _).alloc (by simp) _).alloc (by simp; omega) _
  have hp0 : w0.heap[w.heap.size]? = some (.cells #[.slice A n c, .int .i64 most] 76 (0, 0)) := by
    rw [hw0]
    exact (Below.heap_alloc _ _ _ (by simp; omega)).trans ((Below.heap_alloc _ _ _ (by simp)).trans (heap_alloc_new w _))
  have hz0 : w0.heap[w.heap.size + 1]? = some (.cells #[.slice none 0 0, .int .i64 0] 76 (0, 0)) := by
    have h := heap_alloc_new (w.alloc (.cells #[.slice A n c, .int .i64 most] 76)) (.cells #[.slice none 0 0, .int .i64 0] 76)
    rw [World.size_alloc] at h
    rw [hw0]
    exact (Below.heap_alloc _ _ _ (by simp)).trans h
  have hq0 : w0.heap[Q]? = some (.cells #[.slice none 0 0, .int .i64 most] 76 (0, 0)) := by
    have h := heap_alloc_new ((w.alloc (.cells #[.slice A n c, .int .i64 most] 76)).alloc (.cells #[.slice none 0 0, .int .i64 0] 76)) (.cells #[.slice none 0 0, .int .i64 most] 76)
    rw [World.size_alloc, World.size_alloc] at h
    rw [hw0, hQ]
    exact h
  have HQ : Hid (Q = w.heap.size + 2 ∧ w0.heap.size = Q + 1) := ⟨hQ, by omega⟩
  have HR : Hid (Rs w0 w0.heap.size A l) := (hR.below hb0).mono hb0.size
  have H0 := Lib.hid hw0
  have HB0 := Lib.hid hb0
  have HP0 := Lib.hid (And.intro hp0 hz0)
  have HQ0 := Lib.hid hq0
  have HN := Lib.hid hn
  have HRW : Hid (Rs w w.heap.size A l) := hR
  clear hw0 hb0 hp0 hz0 hq0 hn hR hs0
  go_enter Try.func73, Try.ntmps73
  go_upto_region 2 with (fail)
  rw [← H0.out, ← hQ]
  clear hQ
  go_wp2_with fail
  go_loopw [6] (fun u wr => ∃ (k m : Nat) (B : Option Addr) (c2 : Nat), k ≤ n ∧ u = .int .i64 (k : Int) ∧ Hid (wr.ownsRow w0.heap.size 132 2 (.slice B m c2) m (rr (dropR x (l.take k))) ∧ Below w.heap.size w wr ∧ wr.heap[Q]? = some (.cells #[.slice B m c2, .int .i64 most] 76 (0, 0))) ∧ Hid (wr.heap[w.heap.size]? = some (.cells #[.slice A n c, .int .i64 most] 76 (0, 0)) ∧ wr.heap[w.heap.size + 1]? = some (.cells #[.slice none 0 0, .int .i64 0] 76 (0, 0)))) (fun u _ => n - (intOf u).toNat)
  case atStart => exact ⟨0, 0, none, 0, by omega, rfl, ⟨World.ownsRow_nil w0 _ 132 2, HB0.out, HQ0.out⟩, HP0.out⟩
  case round =>
    obtain ⟨k, m, B, c2, hk, rfl, HV, HVB⟩ := hrel
    have c0 := cell_of_row wr w.heap.size 0 _ _ _ HVB.out.1
    simp at c0
    by_cases hlt : k < n
    · obtain ⟨⟨y, v⟩, hy⟩ : ∃ e, l[k]? = some e := ⟨l[k]'(by rw [← HN.out]; exact hlt), List.getElem?_eq_getElem _⟩
      obtain ⟨b1, o1, rfl, hb1, ha1⟩ := HRW.out (by have := HN.out; omega)
      have d0 := (HV.out.2.1.cell (p := ⟨b1, _, none⟩) hb1).trans (ha1 k _ hy).1
      have d1 := (HV.out.2.1.cell (p := ⟨b1, _, none⟩) hb1).trans (ha1 k _ hy).2
      simp only at d0 d1
      have hlw : b1 < wr.heap.size := Nat.lt_of_lt_of_le hb1 HV.out.2.1.size
      have hnx : l.take (k + 1) = l.take k ++ [(y, v)] := by
        rw [List.take_add_one, hy]
        rfl
      have HDD := Lib.hid (And.intro d0 (And.intro d1 hlw))
      have HTK := Lib.hid hnx
      clear hy ha1 hb1 hnx hlw
      by_cases hxy : y = x
      · have HNX : Hid (dropR x (l.take (k + 1)) = dropR x (l.take k)) := by simp only [Hid]; rw [HTK.out]; simp [dropR, hxy]
        have hxz : (y : Int) = (x : Int) := by omega
        go_wp2
        go_roundw
        case rel => exact ⟨k + 1, m, B, c2, by omega, by go_num, ⟨by rw [HNX.out]; exact HV.out.1, HV.out.2.1, HV.out.2.2⟩, HVB.out⟩
        case measure => simp [intOf] <;> omega
      · have HNX : Hid (dropR x (l.take (k + 1)) = dropR x (l.take k) ++ [(y, v)]) := by simp only [Hid]; rw [HTK.out]; simp [dropR, hxy]
        have hxz : ¬ (y : Int) = (x : Int) := by omega
        have HMM : Hid (m ≤ 900) := by
          have h1 := HV.out.1.1
          rw [rr_len] at h1
          have h2 := drop_le x (l.take k)
          rw [List.length_take] at h2
          simp only [Hid]
          omega
        have HCS : Hid (∀ W, Below wr.heap.size wr W → (fun W : World => W.cell? ⟨w.heap.size, 0, none⟩ = some (.slice (some ⟨b1, o1, none⟩) n c) ∧ W.cell? ⟨b1, o1 + k * 2, none⟩ = some (.int .u32 (y : Int)) ∧ W.cell? ⟨b1, o1 + k * 2 + 1, none⟩ = some (.int .i64 v)) W) := fun W hW => by
          have e2 := (hW.block _ (lt_of_block HVB.out.1)).trans HVB.out.1
          exact ⟨cell_of_row W _ 0 _ _ _ e2, (hW.cell (p := ⟨b1, _, none⟩) HDD.out.2.2).trans HDD.out.1, (hW.cell (p := ⟨b1, _, none⟩) HDD.out.2.2).trans HDD.out.2.1⟩
        have HC2 : Hid (∀ W V, Below wr.heap.size wr W → W.grownBy V (Value.ownBlock (.slice B m c2)) → (fun W : World => W.cell? ⟨w.heap.size, 0, none⟩ = some (.slice (some ⟨b1, o1, none⟩) n c) ∧ W.cell? ⟨b1, o1 + k * 2, none⟩ = some (.int .u32 (y : Int)) ∧ W.cell? ⟨b1, o1 + k * 2 + 1, none⟩ = some (.int .i64 v)) V) := fun W V hW hV => by
          have hbq := HQ.out.2
          have hne : ∀ g, Value.ownBlock (.slice B m c2) = some g → w0.heap.size ≤ g := fun g hg => (own2_lt HV.out.1 g hg).1
          have ws := hW.size
          have e2 := (hV.block w.heap.size (Nat.lt_of_lt_of_le (lt_of_block HVB.out.1) ws) (fun e => by have := hne _ e.symm; have := HQ.out.1; omega)).trans ((hW.block _ (lt_of_block HVB.out.1)).trans HVB.out.1)
          have hbb : b1 < w.heap.size := by
            obtain ⟨b, o, e, h, _⟩ := HRW.out (by have := HN.out; omega)
            injection e with e
            injection e with e _
            rw [e]
            exact h
          have eb : V.heap[b1]? = wr.heap[b1]? := (hV.block b1 (Nat.lt_of_lt_of_le HDD.out.2.2 ws) (fun e => by have := hne _ e.symm; have := HQ.out.1; omega)).trans (hW.block _ HDD.out.2.2)
          exact ⟨cell_of_row V _ 0 _ _ _ e2, (World.cell?_of_block eb).trans HDD.out.1, (World.cell?_of_block eb).trans HDD.out.2.1⟩
        have HC3 : Hid (∀ V, (∀ g, g < Q → V.heap[g]? = wr.heap[g]?) → (fun W : World => W.cell? ⟨w.heap.size, 0, none⟩ = some (.slice (some ⟨b1, o1, none⟩) n c) ∧ W.cell? ⟨b1, o1 + k * 2, none⟩ = some (.int .u32 (y : Int)) ∧ W.cell? ⟨b1, o1 + k * 2 + 1, none⟩ = some (.int .i64 v)) V) := fun V hV => by
          have hq1 := HQ.out.1
          have hbb : b1 < w.heap.size := by
            obtain ⟨b, o, e, h, _⟩ := HRW.out (by have := HN.out; omega)
            injection e with e
            injection e with e _
            rw [e]
            exact h
          have e2 := (hV w.heap.size (by omega)).trans HVB.out.1
          have eb := hV b1 (by omega)
          exact ⟨cell_of_row V _ 0 _ _ _ e2, (World.cell?_of_block eb).trans HDD.out.1, (World.cell?_of_block eb).trans HDD.out.2.1⟩
        go_upto_region 6 with (fail)
        clear d0 d1 c0
        have HD : Hid (Below wr.heap.size wr wr.drew) := (Below.refl _ _).drew
        refine wp_region_held_drew (S := fun W : World => W.cell? ⟨w.heap.size, 0, none⟩ = some (.slice (some ⟨b1, o1, none⟩) n c) ∧ W.cell? ⟨b1, o1 + k * 2, none⟩ = some (.int .u32 (y : Int)) ∧ W.cell? ⟨b1, o1 + k * 2 + 1, none⟩ = some (.int .i64 v)) (by kernel_rfl) (HCS.out _ (HD.out)) (fun hHeld => ?_)
        obtain ⟨W0, hW0⟩ : ∃ W0, W0 = wr.drew := ⟨_, rfl⟩
        rw [← hW0] at hHeld HD ⊢
        have HO0 : Hid (W0.ownsRow w0.heap.size 132 2 (.slice B m c2) m (rr (dropR x (l.take k)))) := by rw [hW0]; exact HV.out.1
        clear hW0
        refine wpAnyH_take (i := 0) (oi := ?oi0) (v := ?v0) ?hi0 ?hs0 ?hf0 ?hr0 ?hQ0 ?hy0 ?hS0 ?h0
        case hi0 => exact (by simp only [List.getElem?_toArray, List.getElem?_cons_zero]; rfl)
        case hs0 => kernel_rfl
        case hf0 => kernel_rfl
        case hr0 => kernel_rfl
        case hQ0 => exact fun _ _ _ h => h
        case hy0 =>
          refine Or.inl ⟨rfl, ?_⟩
          intro W hSw
          obtain ⟨y1, y2, y3⟩ := hSw
          go_simp
          try with_reducible rfl
        case hS0 => assumption
        try simp only [Act.put, List.setIfInBounds_toArray, List.set_cons_zero, List.set_cons_succ]
        refine wpAnyH_take (i := 2) (oi := ?oi2) (v := ?v2) ?hi2 ?hs2 ?hf2 ?hr2 ?hQ2 ?hy2 ?hS2 ?h2
        case hi2 => exact (by simp only [List.getElem?_toArray, List.getElem?_cons_succ, List.getElem?_cons_zero]; rfl)
        case hs2 => kernel_rfl
        case hf2 => kernel_rfl
        case hr2 => kernel_rfl
        case hQ2 => exact fun _ _ _ h => h
        case hy2 =>
          refine Or.inl ⟨rfl, ?_⟩
          intro W hSw
          obtain ⟨y1, y2, y3⟩ := hSw
          go_simp
          try with_reducible rfl
        case hS2 => assumption
        try simp only [Act.put, List.setIfInBounds_toArray, List.set_cons_zero, List.set_cons_succ]
        refine wpAnyH_take (i := 3) (oi := ?oi3) (v := ?v3) ?hi3 ?hs3 ?hf3 ?hr3 ?hQ3 ?hy3 ?hS3 ?h3
        case hi3 => exact (by simp only [List.getElem?_toArray, List.getElem?_cons_succ, List.getElem?_cons_zero]; rfl)
        case hs3 => kernel_rfl
        case hf3 => kernel_rfl
        case hr3 => kernel_rfl
        case hQ3 => exact fun _ _ _ h => h
        case hy3 =>
          refine Or.inl ⟨rfl, ?_⟩
          intro W hSw
          obtain ⟨y1, y2, y3⟩ := hSw
          go_simp
          try with_reducible rfl
        case hS3 => assumption
        try simp only [Act.put, List.setIfInBounds_toArray, List.set_cons_zero, List.set_cons_succ]
        refine wpAnyH_take (i := 4) (oi := ?oi4) (v := ?v4) ?hi4 ?hs4 ?hf4 ?hr4 ?hQ4 ?hy4 ?hS4 ?h4
        case hi4 => exact (by simp only [List.getElem?_toArray, List.getElem?_cons_succ, List.getElem?_cons_zero]; rfl)
        case hs4 => kernel_rfl
        case hf4 => kernel_rfl
        case hr4 => kernel_rfl
        case hQ4 => exact fun _ _ _ h => h
        case hy4 =>
          refine Or.inl ⟨rfl, ?_⟩
          intro W hSw
          obtain ⟨y1, y2, y3⟩ := hSw
          go_simp
          try with_reducible rfl
        case hS4 => assumption
        try simp only [Act.put, List.setIfInBounds_toArray, List.set_cons_zero, List.set_cons_succ]
        refine wpAnyH_take (i := 5) (oi := ?oi5) (v := ?v5) ?hi5 ?hs5 ?hf5 ?hr5 ?hQ5 ?hy5 ?hS5 ?h5
        case hi5 => exact (by simp only [List.getElem?_toArray, List.getElem?_cons_succ, List.getElem?_cons_zero]; rfl)
        case hs5 => kernel_rfl
        case hf5 => kernel_rfl
        case hr5 => kernel_rfl
        case hQ5 => exact fun _ _ _ h => h
        case hy5 =>
          refine Or.inl ⟨rfl, ?_⟩
          intro W hSw
          obtain ⟨y1, y2, y3⟩ := hSw
          go_simp
          try with_reducible rfl
        case hS5 => assumption
        try simp only [Act.put, List.setIfInBounds_toArray, List.set_cons_zero, List.set_cons_succ]
        refine wpAnyH_take (i := 6) (oi := ?oi6) (v := ?v6) ?hi6 ?hs6 ?hf6 ?hr6 ?hQ6 ?hy6 ?hS6 ?h6
        case hi6 => exact (by simp only [List.getElem?_toArray, List.getElem?_cons_succ, List.getElem?_cons_zero]; rfl)
        case hs6 => kernel_rfl
        case hf6 => kernel_rfl
        case hr6 => kernel_rfl
        case hQ6 => exact fun _ _ _ h => h
        case hy6 =>
          refine Or.inl ⟨rfl, ?_⟩
          intro W hSw
          obtain ⟨y1, y2, y3⟩ := hSw
          go_simp
          try with_reducible rfl
        case hS6 => assumption
        try simp only [Act.put, List.setIfInBounds_toArray, List.set_cons_zero, List.set_cons_succ]
        refine wpAnyH_ready (rs := [1, 7]) (by kernel_rfl) (by simp) ?_
        refine AllReadyH.cons (o := _) rfl (fun K hK => ?_) (AllReadyH.cons (o := _) rfl (fun K hK => ?_) AllReadyH.nil)
        · have q0 := cell_of_row W0 Q 0 _ _ _ ((HD.out.block Q (lt_of_block HV.out.2.2)).trans HV.out.2.2)
          simp at q0
          go_simp
          clear q0
          refine hK.out _ _ hHeld (fun hHeld => ?_)
          clear hK K
          try simp only [Act.put, List.setIfInBounds_toArray, List.set_cons_zero, List.set_cons_succ]
          refine wpAnyH_ready (rs := [7]) (by kernel_rfl) (by simp) ?_
          refine AllReadyH.cons (o := _) rfl (fun K hK => ?_) AllReadyH.nil
          go_simp
          refine hK.out _ _ (HCS.out _ (HD.out.alloc HD.out.size _)) (fun hHeld => ?_)
          clear hK K
          try simp only [Act.put, List.setIfInBounds_toArray, List.set_cons_zero, List.set_cons_succ]
          obtain ⟨W1, hW1⟩ : ∃ W1, W1 = W0.alloc (.cells #[.int .u32 (y : Int), .int .i64 v] 132) := ⟨_, rfl⟩
          have HB1 : Hid (Below wr.heap.size wr W1) := by rw [hW1]; exact HD.out.alloc HD.out.size _
          have hG1 : W1.heap[W0.heap.size]? = some (.cells #[.int .u32 (y : Int), .int .i64 v] 132 (0, 0)) := by rw [hW1]; exact heap_alloc_new W0 _
          have HO1 : Hid (W1.ownsRow w0.heap.size 132 2 (.slice B m c2) m (rr (dropR x (l.take k)))) := by rw [hW1]; exact own2_after HO0.out fun g hg => Below.heap_alloc _ _ _ (own2_lt HO0.out g hg).2
          rw [← hW1] at hHeld ⊢
          clear hW1
          have HG1 := Lib.hid hG1
          clear hG1
          obtain ⟨v', W2, hap, hO2, hg2⟩ := run_row (w := W1) w0.heap.size W0.heap.size 74 (.slice B m c2) m _ (y, v) HO1.out HG1.out (by have := HMM.out; omega) (by have := HB1.out.size; have := HQ.out.2; have := lt_of_block HV.out.2.2; omega)
          have hown2 := own_form2 hO2
          obtain ⟨B', c3, rfl⟩ := hown2
          have HO2 := Lib.hid hO2
          have HG2 := Lib.hid hg2
          clear hO2 hg2
          refine wpAnyH_ready (rs := [8]) (by kernel_rfl) (by simp) ?_
          refine AllReadyH.cons (o := _) rfl (fun K hK => ?_) AllReadyH.nil
          refine step_append_run rfl _ _ 74 74 rfl _ _ rfl rfl hap ?_
          refine hK.out _ _ (HC2.out _ _ HB1.out HG2.out) (fun hHeld => ?_)
          clear hK K hap
          try simp only [Act.put, List.setIfInBounds_toArray, List.set_cons_zero, List.set_cons_succ]
          refine wpAnyH_take (i := 9) (oi := ?oi9a) (v := ?v9a) ?hi9a ?hs9a ?hf9a ?hr9a ?hQ9a ?hy9a ?hS9a ?h9a
          case hi9a => exact (by simp only [List.getElem?_toArray, List.getElem?_cons_succ, List.getElem?_cons_zero]; rfl)
          case hs9a => kernel_rfl
          case hf9a => kernel_rfl
          case hr9a => kernel_rfl
          case hQ9a => exact fun _ _ _ h => h
          case hy9a =>
            refine Or.inl ⟨rfl, ?_⟩
            intro W hSw
            obtain ⟨y1, y2, y3⟩ := hSw
            go_simp
            try with_reducible rfl
          case hS9a => assumption
          try simp only [Act.put, List.setIfInBounds_toArray, List.set_cons_zero, List.set_cons_succ]
          refine wpAnyH_ready (rs := [10]) (by kernel_rfl) (by simp) ?_
          refine AllReadyH.cons (o := _) rfl (fun K hK => ?_) AllReadyH.nil
          have hrowQ := (HG2.out.block Q (by have := HB1.out.size; have := lt_of_block HV.out.2.2; omega) (fun e => by have := (own2_lt HO1.out Q e.symm).1; have := HQ.out.2; omega)).trans ((HB1.out.block Q (lt_of_block HV.out.2.2)).trans HV.out.2.2)
          have q0 := cell_of_row W2 Q 0 _ _ _ hrowQ
          have fq : ∀ i, W2.frozen? ⟨Q, i, none⟩ = false := fun i => frozen_of_row W2 _ i _ _ hrowQ
          simp at q0
          go_simp
          have hQ3 : (W2.setCell ⟨Q, 0, none⟩ (.slice B' (m + 1) c3)).heap[Q]? = some (.cells #[.slice B' (m + 1) c3, .int .i64 most] 76 (0, 0)) := heap_setCell_same W2 Q 0 _ 76 _ hrowQ
          have keep : ∀ g, g < Q → (W2.setCell ⟨Q, 0, none⟩ (.slice B' (m + 1) c3)).heap[g]? = wr.heap[g]? := fun g hg => by
            have hq2 := HQ.out.2
            have hlq := lt_of_block HV.out.2.2
            rw [Below.heap_setCell _ _ _ _ (by show g ≠ Q; omega), HG2.out.block g (by have := HB1.out.size; omega) (fun e => by have := (own2_lt HO1.out g e.symm).1; omega), HB1.out.block g (by omega)]
          have HN3 : Hid ((W2.setCell ⟨Q, 0, none⟩ (.slice B' (m + 1) c3)).ownsRow w0.heap.size 132 2 (.slice B' (m + 1) c3) (m + 1) (rr (dropR x (l.take (k + 1)))) ∧ Below w.heap.size w (W2.setCell ⟨Q, 0, none⟩ (.slice B' (m + 1) c3)) ∧ (W2.setCell ⟨Q, 0, none⟩ (.slice B' (m + 1) c3)).heap[Q]? = some (.cells #[.slice B' (m + 1) c3, .int .i64 most] 76 (0, 0)) ∧ (W2.setCell ⟨Q, 0, none⟩ (.slice B' (m + 1) c3)).heap[w.heap.size]? = some (.cells #[.slice (some ⟨b1, o1, none⟩) n c, .int .i64 most] 76 (0, 0)) ∧ (W2.setCell ⟨Q, 0, none⟩ (.slice B' (m + 1) c3)).heap[w.heap.size + 1]? = some (.cells #[.slice none 0 0, .int .i64 0] 76 (0, 0))) := by
            have hq1 := HQ.out.1
            have hq2 := HQ.out.2
            have hlq := lt_of_block HV.out.2.2
            refine ⟨?_, ?_, hQ3, (keep _ (by omega)).trans HVB.out.1, (keep _ (by omega)).trans HVB.out.2⟩
            · rw [HNX.out]
              exact own2_after HO2.out fun g hg => Below.heap_setCell _ _ _ _ (by have := (own2_lt HO2.out g hg).1; show g ≠ Q; omega)
            · exact ((HV.out.2.1.trans (HB1.out.mono HV.out.2.1.size)).grown HG2.out (Nat.le_trans HV.out.2.1.size HB1.out.size) (fun g hg => by have := (own2_lt HO1.out g hg).1; omega)).setCell (by show w.heap.size ≤ Q; omega) _
          refine hK.out _ _ (HC3.out _ (fun g hg => keep g hg)) (fun hHeld => ?_)
          clear hK K q0 fq hQ3 keep hrowQ
          try simp only [Act.put, List.setIfInBounds_toArray, List.set_cons_zero, List.set_cons_succ]
          refine wpAnyH_done (by kernel_rfl) ?_ _
          try go_wp2
          go_roundw
          case rel => exact ⟨k + 1, m + 1, B', c3, by omega, by go_num, ⟨HN3.out.1, HN3.out.2.1, HN3.out.2.2.1⟩, HN3.out.2.2.2⟩
          case measure => simp [intOf] <;> omega
        · go_simp
          refine hK.out _ _ (HCS.out _ (HD.out.alloc HD.out.size _)) (fun hHeld => ?_)
          clear hK K
          try simp only [Act.put, List.setIfInBounds_toArray, List.set_cons_zero, List.set_cons_succ]
          obtain ⟨W1, hW1⟩ : ∃ W1, W1 = W0.alloc (.cells #[.int .u32 (y : Int), .int .i64 v] 132) := ⟨_, rfl⟩
          have HB1 : Hid (Below wr.heap.size wr W1) := by rw [hW1]; exact HD.out.alloc HD.out.size _
          have hG1 : W1.heap[W0.heap.size]? = some (.cells #[.int .u32 (y : Int), .int .i64 v] 132 (0, 0)) := by rw [hW1]; exact heap_alloc_new W0 _
          have HO1 : Hid (W1.ownsRow w0.heap.size 132 2 (.slice B m c2) m (rr (dropR x (l.take k)))) := by rw [hW1]; exact own2_after HO0.out fun g hg => Below.heap_alloc _ _ _ (own2_lt HO0.out g hg).2
          rw [← hW1] at hHeld ⊢
          clear hW1
          have HG1 := Lib.hid hG1
          clear hG1
          refine wpAnyH_ready (rs := [1]) (by kernel_rfl) (by simp) ?_
          refine AllReadyH.cons (o := _) rfl (fun K hK => ?_) AllReadyH.nil
          have q0 := cell_of_row W1 Q 0 _ _ _ ((HB1.out.block Q (lt_of_block HV.out.2.2)).trans HV.out.2.2)
          simp at q0
          go_simp
          clear q0
          refine hK.out _ _ hHeld (fun hHeld => ?_)
          clear hK K
          try simp only [Act.put, List.setIfInBounds_toArray, List.set_cons_zero, List.set_cons_succ]
          obtain ⟨v', W2, hap, hO2, hg2⟩ := run_row (w := W1) w0.heap.size W0.heap.size 74 (.slice B m c2) m _ (y, v) HO1.out HG1.out (by have := HMM.out; omega) (by have := HB1.out.size; have := HQ.out.2; have := lt_of_block HV.out.2.2; omega)
          have hown2 := own_form2 hO2
          obtain ⟨B', c3, rfl⟩ := hown2
          have HO2 := Lib.hid hO2
          have HG2 := Lib.hid hg2
          clear hO2 hg2
          refine wpAnyH_ready (rs := [8]) (by kernel_rfl) (by simp) ?_
          refine AllReadyH.cons (o := _) rfl (fun K hK => ?_) AllReadyH.nil
          refine step_append_run rfl _ _ 74 74 rfl _ _ rfl rfl hap ?_
          refine hK.out _ _ (HC2.out _ _ HB1.out HG2.out) (fun hHeld => ?_)
          clear hK K hap
          try simp only [Act.put, List.setIfInBounds_toArray, List.set_cons_zero, List.set_cons_succ]
          refine wpAnyH_take (i := 9) (oi := ?oi9b) (v := ?v9b) ?hi9b ?hs9b ?hf9b ?hr9b ?hQ9b ?hy9b ?hS9b ?h9b
          case hi9b => exact (by simp only [List.getElem?_toArray, List.getElem?_cons_succ, List.getElem?_cons_zero]; rfl)
          case hs9b => kernel_rfl
          case hf9b => kernel_rfl
          case hr9b => kernel_rfl
          case hQ9b => exact fun _ _ _ h => h
          case hy9b =>
            refine Or.inl ⟨rfl, ?_⟩
            intro W hSw
            obtain ⟨y1, y2, y3⟩ := hSw
            go_simp
            try with_reducible rfl
          case hS9b => assumption
          try simp only [Act.put, List.setIfInBounds_toArray, List.set_cons_zero, List.set_cons_succ]
          refine wpAnyH_ready (rs := [10]) (by kernel_rfl) (by simp) ?_
          refine AllReadyH.cons (o := _) rfl (fun K hK => ?_) AllReadyH.nil
          have hrowQ := (HG2.out.block Q (by have := HB1.out.size; have := lt_of_block HV.out.2.2; omega) (fun e => by have := (own2_lt HO1.out Q e.symm).1; have := HQ.out.2; omega)).trans ((HB1.out.block Q (lt_of_block HV.out.2.2)).trans HV.out.2.2)
          have q0 := cell_of_row W2 Q 0 _ _ _ hrowQ
          have fq : ∀ i, W2.frozen? ⟨Q, i, none⟩ = false := fun i => frozen_of_row W2 _ i _ _ hrowQ
          simp at q0
          go_simp
          have hQ3 : (W2.setCell ⟨Q, 0, none⟩ (.slice B' (m + 1) c3)).heap[Q]? = some (.cells #[.slice B' (m + 1) c3, .int .i64 most] 76 (0, 0)) := heap_setCell_same W2 Q 0 _ 76 _ hrowQ
          have keep : ∀ g, g < Q → (W2.setCell ⟨Q, 0, none⟩ (.slice B' (m + 1) c3)).heap[g]? = wr.heap[g]? := fun g hg => by
            have hq2 := HQ.out.2
            have hlq := lt_of_block HV.out.2.2
            rw [Below.heap_setCell _ _ _ _ (by show g ≠ Q; omega), HG2.out.block g (by have := HB1.out.size; omega) (fun e => by have := (own2_lt HO1.out g e.symm).1; omega), HB1.out.block g (by omega)]
          have HN3 : Hid ((W2.setCell ⟨Q, 0, none⟩ (.slice B' (m + 1) c3)).ownsRow w0.heap.size 132 2 (.slice B' (m + 1) c3) (m + 1) (rr (dropR x (l.take (k + 1)))) ∧ Below w.heap.size w (W2.setCell ⟨Q, 0, none⟩ (.slice B' (m + 1) c3)) ∧ (W2.setCell ⟨Q, 0, none⟩ (.slice B' (m + 1) c3)).heap[Q]? = some (.cells #[.slice B' (m + 1) c3, .int .i64 most] 76 (0, 0)) ∧ (W2.setCell ⟨Q, 0, none⟩ (.slice B' (m + 1) c3)).heap[w.heap.size]? = some (.cells #[.slice (some ⟨b1, o1, none⟩) n c, .int .i64 most] 76 (0, 0)) ∧ (W2.setCell ⟨Q, 0, none⟩ (.slice B' (m + 1) c3)).heap[w.heap.size + 1]? = some (.cells #[.slice none 0 0, .int .i64 0] 76 (0, 0))) := by
            have hq1 := HQ.out.1
            have hq2 := HQ.out.2
            have hlq := lt_of_block HV.out.2.2
            refine ⟨?_, ?_, hQ3, (keep _ (by omega)).trans HVB.out.1, (keep _ (by omega)).trans HVB.out.2⟩
            · rw [HNX.out]
              exact own2_after HO2.out fun g hg => Below.heap_setCell _ _ _ _ (by have := (own2_lt HO2.out g hg).1; show g ≠ Q; omega)
            · exact ((HV.out.2.1.trans (HB1.out.mono HV.out.2.1.size)).grown HG2.out (Nat.le_trans HV.out.2.1.size HB1.out.size) (fun g hg => by have := (own2_lt HO1.out g hg).1; omega)).setCell (by show w.heap.size ≤ Q; omega) _
          refine hK.out _ _ (HC3.out _ (fun g hg => keep g hg)) (fun hHeld => ?_)
          clear hK K q0 fq hQ3 keep hrowQ
          try simp only [Act.put, List.setIfInBounds_toArray, List.set_cons_zero, List.set_cons_succ]
          refine wpAnyH_done (by kernel_rfl) ?_ _
          try go_wp2
          go_roundw
          case rel => exact ⟨k + 1, m + 1, B', c3, by omega, by go_num, ⟨HN3.out.1, HN3.out.2.1, HN3.out.2.2.1⟩, HN3.out.2.2.2⟩
          case measure => simp [intOf] <;> omega
    · have hkn : k = n := by omega
      subst hkn
      have HG : Hid (wr.ownsRow w.heap.size 132 2 (.slice B m c2) m (rr (dropR x l))) := by
        have := HV.out.1
        rw [HN.out, List.take_length] at this
        exact own2_base this (by have := HQ.out; omega)
      have q0 := cell_of_row wr Q 0 _ _ _ HV.out.2.2
      have q1 := cell_of_row wr Q 1 _ _ _ HV.out.2.2
      have z0 := cell_of_row wr (w.heap.size + 1) 0 _ _ _ HVB.out.2
      have z1 := cell_of_row wr (w.heap.size + 1) 1 _ _ _ HVB.out.2
      have fz : ∀ i, wr.frozen? ⟨w.heap.size + 1, i, none⟩ = false := fun i => frozen_of_row wr _ i _ _ HVB.out.2
      simp at q0 q1 z0 z1
      have HRES : Hid (Below w.heap.size w ((wr.setCell ⟨w.heap.size + 1, 0, none⟩ (.slice B m c2)).setCell ⟨w.heap.size + 1, 1, none⟩ (.int .i64 most)) ∧ ((wr.setCell ⟨w.heap.size + 1, 0, none⟩ (.slice B m c2)).setCell ⟨w.heap.size + 1, 1, none⟩ (.int .i64 most)).ownsRow w.heap.size 132 2 (.slice B m c2) m (rr (dropR x l))) := by
        refine ⟨(HV.out.2.1.setCell (by show w.heap.size ≤ w.heap.size + 1; omega) _).setCell (by show w.heap.size ≤ w.heap.size + 1; omega) _, own2_after HG.out fun g hg => ?_⟩
        have hg3 : g ≠ w.heap.size + 1 := by have := (own2_lt HV.out.1 g hg).1; have := HQ.out; omega
        exact (Below.heap_setCell _ _ _ _ hg3).trans (Below.heap_setCell _ _ _ _ hg3)
      have hr1 := heap_setCell_same wr (w.heap.size + 1) 0 _ 76 (.slice B m c2) HVB.out.2
      have hr2 := heap_setCell_same (wr.setCell ⟨w.heap.size + 1, 0, none⟩ (.slice B m c2)) (w.heap.size + 1) 1 _ 76 (.int .i64 most) hr1
      have e0 := cell_of_row _ (w.heap.size + 1) 0 _ _ _ hr2
      have e1 := cell_of_row _ (w.heap.size + 1) 1 _ _ _ hr2
      simp at e0 e1
      go_wp2
      exact bodyPost_ret (v := rV B m c2 most) (by simp [results, Try.results73, go_sem, rV, e0, e1]) rfl ⟨_, _, _, rfl, HRES.out.2, HRES.out.1⟩
set_option linter.unusedSimpArgs false in
set_option maxHeartbeats 8000000 in

/-- What Put answers and leaves. -/
def PutR (most : Int) (ps : Ps) (x : Nat) (z c : Int) (qs : Ps) : Prop :=
  (c = 0 ∧ ∃ p : Nat, (ps.map (·.1))[p]? = some x ∧ qs = ps.set p (x, z)) ∨
  (c = 14 ∧ x ∉ ps.map (·.1) ∧ ¬ okN x ∧ qs = ps) ∨
  (c = 10 ∧ x ∉ ps.map (·.1) ∧ okN x ∧ most ≤ (ps.length : Int) ∧ qs = ps) ∨
  (c = 0 ∧ x ∉ ps.map (·.1) ∧ okN x ∧ (ps.length : Int) < most ∧ ∃ p : Nat, Pl (ps.map (·.1)) x p ∧ qs = ps.take p ++ [(x, z)] ++ ps.drop p)
theorem up_one {ps : Ps} (hu : Up (ps.map (·.1))) {i j : Nat} {x : Nat} {u v : Int} (hi : ps[i]? = some (x, u)) (hj : ps[j]? = some (x, v)) : i = j := by
  have h1 : (ps.map (·.1))[i]? = some x := by rw [List.getElem?_map, hi]; rfl
  have h2 : (ps.map (·.1))[j]? = some x := by rw [List.getElem?_map, hj]; rfl
  rcases Nat.lt_trichotomy i j with h | h | h
  · have := hu i j x x h h1 h2; omega
  · exact h
  · have := hu j i x x h h2 h1; omega
theorem up_val {ps : Ps} (hu : Up (ps.map (·.1))) {x : Nat} {u v : Int} (h1 : (x, u) ∈ ps) (h2 : (x, v) ∈ ps) : u = v := by
  obtain ⟨i, hi⟩ := List.getElem?_of_mem h1
  obtain ⟨j, hj⟩ := List.getElem?_of_mem h2
  have := up_one hu hi hj
  subst this
  rw [hi] at hj
  injection hj with hj
  injection hj
theorem mem_fst {ps : Ps} {x : Nat} (h : x ∉ ps.map (·.1)) : ∀ e ∈ ps, e.1 ≠ x := fun e he hx => h (List.mem_map.2 ⟨e, he, hx⟩)
theorem drop_same {ps : Ps} {x : Nat} (h : x ∉ ps.map (·.1)) : dropR x ps = ps := by
  unfold dropR
  rw [List.filter_eq_self]
  intro e he
  have := mem_fst h e he
  simpa using this
theorem drop_at {ps : Ps} (hu : Up (ps.map (·.1))) {p x : Nat} {v : Int} (hp : ps[p]? = some (x, v)) : dropR x ps = ps.take p ++ ps.drop (p + 1) := by
  obtain ⟨hlt, he⟩ := List.getElem?_eq_some_iff.1 hp
  have h0 : ps = ps.take p ++ (x, v) :: ps.drop (p + 1) := by rw [← he]; simp
  have hne : ∀ j, j ≠ p → ∀ e : Nat × Int, ps[j]? = some e → e.1 ≠ x := fun j hj e hje hx => hj (by
    obtain ⟨y, u⟩ := e
    simp only at hx
    subst hx
    exact up_one hu hje hp)
  have h1 : dropR x (ps.take p) = ps.take p := by
    refine drop_same fun hm => ?_
    obtain ⟨e, hem, hex⟩ := List.mem_map.1 hm
    obtain ⟨j, hj⟩ := List.getElem?_of_mem hem
    rw [List.getElem?_take] at hj
    split at hj
    · exact hne j (by omega) e hj hex
    · simp at hj
  have h2 : dropR x (ps.drop (p + 1)) = ps.drop (p + 1) := by
    refine drop_same fun hm => ?_
    obtain ⟨e, hem, hex⟩ := List.mem_map.1 hm
    obtain ⟨j, hj⟩ := List.getElem?_of_mem hem
    rw [List.getElem?_drop] at hj
    exact hne _ (by omega) e hj hex
  have h3 : dropR x ps = dropR x (ps.take p) ++ dropR x ((x, v) :: ps.drop (p + 1)) := by
    conv => lhs; rw [h0]
    unfold dropR
    rw [List.filter_append]
  rw [h3, h1]
  have h4 : dropR x ((x, v) :: ps.drop (p + 1)) = ps.drop (p + 1) := by
    conv => rhs; rw [← h2]
    simp [dropR]
  rw [h4]
theorem drop_perm {ps rows : Ps} (h : rows.Perm ps) (x : Nat) : (dropR x rows).Perm (dropR x ps) := h.filter _
theorem put_perm {ps rows : Ps} (hu : Up (ps.map (·.1))) (h : rows.Perm ps) {p x : Nat} (z : Int) (hp : (ps.map (·.1))[p]? = some x) : (dropR x rows ++ [(x, z)]).Perm (ps.set p (x, z)) := by
  rw [List.getElem?_map] at hp
  obtain ⟨⟨y, v⟩, hpe, hy⟩ := Option.map_eq_some_iff.1 hp
  simp only at hy
  subst hy
  have hlt := (List.getElem?_eq_some_iff.1 hpe).1
  refine ((drop_perm h y).append_right _).trans ?_
  rw [drop_at hu hpe, List.set_eq_take_append_cons_drop, if_pos hlt, List.append_assoc]
  exact List.Perm.append_left _ (List.perm_append_comm)
theorem ins_perm {ps rows : Ps} (h : rows.Perm ps) {p x : Nat} (z : Int) (hx : x ∉ ps.map (·.1)) : (dropR x rows ++ [(x, z)]).Perm (ps.take p ++ [(x, z)] ++ ps.drop p) := by
  rw [drop_same (fun hm => hx ((perm_fst h x).1 hm))]
  refine (h.append_right _).trans ?_
  conv => lhs; rw [← List.take_append_drop p ps]
  rw [List.append_assoc, List.append_assoc]
  exact List.Perm.append_left _ (List.perm_append_comm)

set_option maxHeartbeats 1000000 in
theorem rright_any (x : Nat) (w : World) : Calls Try.prog 71 #[.int .u32 (x : Int)] w fun r w' => r = .returned (.bool (decide (1 ≤ x ∧ x ≤ 2147483647))) ∧ w' = w := by
  by_cases h0 : x = 0
  · subst h0
    go_enter Try.func71, Try.ntmps71
    go_wp2
    go_ret
    exact ⟨rfl, rfl⟩
  · have h1 : ¬ (x : Int) = 0 := by omega
    by_cases h2 : x ≤ 2147483647
    · have e : decide (1 ≤ x ∧ x ≤ 2147483647) = true := by rw [decide_eq_true_iff]; omega
      have h3 : (x : Int) ≤ 2147483647 := by omega
      rw [e]
      go_enter Try.func71, Try.ntmps71
      go_wp2
      go_ret
      refine ⟨?_, rfl⟩
      first | rfl | (simp; omega)
    · have e : decide (1 ≤ x ∧ x ≤ 2147483647) = false := by rw [decide_eq_false_iff_not]; omega
      have h3 : ¬ (x : Int) ≤ 2147483647 := by omega
      rw [e]
      go_enter Try.func71, Try.ntmps71
      go_wp2
      go_ret
      refine ⟨?_, rfl⟩
      first | rfl | (simp; omega)

/-- What is true behind the store of a result. -/
structure Fin (w : World) (T : Nat) (B : Option Addr) (m c2 : Nat) (most : Int) (base : Nat) (l : List (Nat × Int)) (W : World) : Prop where
  own : W.ownsRow base 132 2 (.slice B m c2) m (rr l)
  below : Below w.heap.size w W
  c0 : W.cell? ⟨T, 0, none⟩ = some (.slice B m c2)
  c1 : W.cell? ⟨T, 1, none⟩ = some (.int .i64 most)
theorem own2_type {w : World} {base T m : Nat} {v : Value} {xs : List Value} (h : w.ownsRow base T 2 v m xs) {g : Nat} (hg : v.ownBlock = some g) : ∃ cur, w.heap[g]? = some (.cells cur T (0, 0)) := by
  rcases h.2 with ⟨rfl, _⟩ | ⟨k, cap, cur, rfl, _, hk, _⟩
  · simp [Value.ownBlock] at hg
  · injection hg with hg
    subst hg
    exact ⟨cur, hk⟩
theorem fin_of {w W : World} {T : Nat} {B : Option Addr} {m c2 b2 : Nat} {most : Int} {l2 : List (Nat × Int)} (hT : w.heap.size ≤ T) (h1 : Below w.heap.size w W) (h2 : W.heap[T]? = some (.cells #[.slice none 0 0, .int .i64 0] 76 (0, 0))) (h3 : W.ownsRow b2 132 2 (.slice B m c2) m (rr l2)) : Fin w T B m c2 most b2 l2 ((W.setCell ⟨T, 0, none⟩ (.slice B m c2)).setCell ⟨T, 1, none⟩ (.int .i64 most)) := by
  have hr1 := heap_setCell_same W T 0 _ 76 (.slice B m c2) h2
  have hr2 := heap_setCell_same (W.setCell ⟨T, 0, none⟩ (.slice B m c2)) T 1 _ 76 (.int .i64 most) hr1
  have e0 := cell_of_row _ T 0 _ _ _ hr2
  have e1 := cell_of_row _ T 1 _ _ _ hr2
  simp at e0 e1
  refine ⟨own2_after h3 fun g hg => ?_, (h1.setCell hT _).setCell hT _, e0, e1⟩
  have hg3 : g ≠ T := fun e => by
    obtain ⟨cur, hc⟩ := own2_type h3 hg
    rw [e, h2] at hc
    injection hc with hc
    injection hc with _ hc
    exact absurd hc (by decide)
  exact (Below.heap_setCell _ _ _ _ hg3).trans (Below.heap_setCell _ _ _ _ hg3)

theorem wpList_append_row {w : World} {ops : Array Oper} {rest : List Oper} {op : Oper} {a : Act} {Q : Exit → Act → World → Prop} (hgd : op.guard = none) (s x : Operand)
    (ho : op.op = .call { callee := .builtin .append, args := #[s, x], argTypes := #[74, 74] }) (base G : Nat) (v : Value) (m : Nat) (l : List (Nat × Int)) (e : Nat × Int) (hs : a.eval s = v) (hx : a.eval x = .slice (some ⟨G, 0, none⟩) 1 1)
    (hown : w.ownsRow base 132 2 v m (rr l)) (hG : w.heap[G]? = some (.cells #[.int .u32 (e.1 : Int), .int .i64 e.2] 132 (0, 0))) (hm : m ≤ 1000) (hbase : base ≤ w.heap.size)
    (h : ∀ v' w', w'.ownsRow base 132 2 v' (m + 1) (rr (l ++ [e])) → w.grownBy w' v.ownBlock → wpList Try.prog ops Q rest (a.put op.dst v') w') : wpList Try.prog ops Q (op :: rest) a w := by
  refine wpList_plain hgd fun K hK => ?_
  obtain ⟨v', w', hr, h2, h3⟩ := run_row (w := w) base G op.type v m l e hown hG hm hbase
  unfold Oper.wp execOp
  simp only [ho, resolve, invoke, builtin, Sem.run_bind, Sem.run_pure, Result.andThen_ok, List.map_toArray, List.map_cons, List.map_nil, hs, hx, hr]
  exact hK _ _ (h v' w' h2 h3)

theorem after_put {w w5 w6 : World} {b2 Q T m c2 c6 : Nat} {most : Int} {B B6 : Option Addr} {xs ys : List Value} {zr : Array Value} (ho : w5.ownsRow b2 132 2 (.slice B m c2) m xs) (hq : w5.heap[Q]? = some (.cells #[.slice B m c2, .int .i64 most] 76 (0, 0))) (hz : w5.heap[T]? = some (.cells zr 76 (0, 0)))
    (hTQ : T < Q) (hw : Below w.heap.size w w5) (_hT : w.heap.size ≤ T) (hQ : w.heap.size ≤ Q) (hb2 : w.heap.size ≤ b2) (ho6 : w6.ownsRow b2 132 2 (.slice B6 (m + 1) c6) (m + 1) ys) (hg : w5.grownBy w6 (Value.ownBlock (.slice B m c2))) :
    (w6.cell? ⟨Q, 0, none⟩ = some (.slice B m c2) ∧ (∀ i, w6.frozen? ⟨Q, i, none⟩ = false) ∧ w6.cell? ⟨Q, 1, none⟩ = some (.int .i64 most) ∧ (w6.setCell ⟨Q, 0, none⟩ (.slice B6 (m + 1) c6)).cell? ⟨Q, 0, none⟩ = some (.slice B6 (m + 1) c6) ∧ (w6.setCell ⟨Q, 0, none⟩ (.slice B6 (m + 1) c6)).cell? ⟨Q, 1, none⟩ = some (.int .i64 most) ∧
      w6.cell? ⟨T, 0, none⟩ = zr[0]? ∧ w6.cell? ⟨T, 1, none⟩ = zr[1]? ∧ (w6.setCell ⟨Q, 0, none⟩ (.slice B6 (m + 1) c6)).cell? ⟨T, 0, none⟩ = zr[0]? ∧ (w6.setCell ⟨Q, 0, none⟩ (.slice B6 (m + 1) c6)).cell? ⟨T, 1, none⟩ = zr[1]? ∧ (∀ i, w6.frozen? ⟨T, i, none⟩ = false) ∧ ∀ i, (w6.setCell ⟨Q, 0, none⟩ (.slice B6 (m + 1) c6)).frozen? ⟨T, i, none⟩ = false) ∧
    Below w.heap.size w (w6.setCell ⟨Q, 0, none⟩ (.slice B6 (m + 1) c6)) ∧ (w6.setCell ⟨Q, 0, none⟩ (.slice B6 (m + 1) c6)).heap[T]? = some (.cells zr 76 (0, 0)) ∧ (w6.setCell ⟨Q, 0, none⟩ (.slice B6 (m + 1) c6)).ownsRow b2 132 2 (.slice B6 (m + 1) c6) (m + 1) ys := by
  have apart : ∀ (W : World) (v : Value) (n : Nat) (zs : List Value) (g k : Nat) (cc : Array Value), W.ownsRow b2 132 2 v n zs → W.heap[k]? = some (.cells cc 76 (0, 0)) → v.ownBlock = some g → g ≠ k := fun W v n zs g k cc h1 h2 h3 e => by
    obtain ⟨cur, hc⟩ := own2_type h1 h3
    rw [e, h2] at hc
    injection hc with hc
    injection hc with _ hc
    exact absurd hc (by decide)
  have hq6 := (hg.block Q (lt_of_block hq) (fun e => apart _ _ _ _ Q Q _ ho hq e.symm rfl)).trans hq
  have hz6 := (hg.block T (lt_of_block hz) (fun e => apart _ _ _ _ T T _ ho hz e.symm rfl)).trans hz
  have hq7 := heap_setCell_same w6 Q 0 _ 76 (.slice B6 (m + 1) c6) hq6
  have hz7 : (w6.setCell ⟨Q, 0, none⟩ (.slice B6 (m + 1) c6)).heap[T]? = some (.cells zr 76 (0, 0)) := (Below.heap_setCell _ _ _ _ (by show T ≠ Q; omega)).trans hz6
  refine ⟨⟨cell_of_row w6 Q 0 _ _ _ hq6, fun i => frozen_of_row w6 _ i _ _ hq6, cell_of_row w6 Q 1 _ _ _ hq6, by simpa using cell_of_row _ Q 0 _ _ _ hq7, by simpa using cell_of_row _ Q 1 _ _ _ hq7, cell_of_row w6 T 0 _ _ _ hz6, cell_of_row w6 T 1 _ _ _ hz6, cell_of_row _ T 0 _ _ _ hz7, cell_of_row _ T 1 _ _ _ hz7, fun i => frozen_of_row w6 _ i _ _ hz6, fun i => frozen_of_row _ _ i _ _ hz7⟩, ?_, hz7, own2_after ho6 fun g h => Below.heap_setCell _ _ _ _ (apart _ _ _ _ g Q _ ho6 hq6 h)⟩
  exact (hw.grown hg hw.size (fun g h => Nat.le_trans hb2 (own2_lt ho g h).1)).setCell hQ _

set_option linter.unusedSimpArgs false in
set_option maxHeartbeats 8000000 in
theorem rput_any (base : Nat) (A : Option Addr) (n c : Nat) (most : Int) (x : Nat) (z cd : Int) (l ps qs : Ps) (w : World) (hn : n = l.length) (hown : w.ownsRow base 132 2 (.slice A n c) n (rr l)) (hbase : base ≤ w.heap.size) (hl : n ≤ 900) (hpe : l.Perm ps) (hu : Up (ps.map (·.1))) (hok : ∀ y ∈ ps.map (·.1), okN y) (hP : PutR most ps x z cd qs) :
    Calls Try.prog 29 #[rV A n c most, .int .u32 (x : Int), .int .i64 z] w fun r w' => ∃ B m c' l', r = .returned (.tuple #[rV B m c' most, .int .i64 cd]) ∧ m = l'.length ∧ l'.Perm qs ∧ w'.ownsRow base 132 2 (.slice B m c') m (rr l') ∧ Below w.heap.size w w' := by
  unfold rV
  obtain ⟨T, hT⟩ : ∃ T, T = w.heap.size + 1 := ⟨_, rfl⟩
  obtain ⟨w0, hw0⟩ : ∃ w0, w0 = (w.alloc (.cells #[.slice A n c, .int .i64 most] 76)).alloc (.cells #[.slice none 0 0, .int .i64 0] 76) := ⟨_, rfl⟩
  have hs0 : w0.heap.size = T + 1 := by rw [hw0, hT]; simp
  have hb0 : Below w.heap.size w w0 := by rw [hw0]; exact ((Below.refl _ _).alloc (Nat.le_refl _) _).alloc (by simp) _
  have hp0 : w0.heap[w.heap.size]? = some (.cells #[.slice A n c, .int .i64 most] 76 (0, 0)) := by
    rw [hw0]
    exact (Below.heap_alloc _ _ _ (by simp)).trans (heap_alloc_new w _)
  have hz0 : w0.heap[T]? = some (.cells #[.slice none 0 0, .int .i64 0] 76 (0, 0)) := by
    have h := heap_alloc_new (w.alloc (.cells #[.slice A n c, .int .i64 most] 76)) (.cells #[.slice none 0 0, .int .i64 0] 76)
    rw [World.size_alloc] at h
    rw [hw0, hT]
    exact h
  have HT : Hid (T = w.heap.size + 1 ∧ w0.heap.size = T + 1) := ⟨hT, hs0⟩
  have H0 := Lib.hid hw0
  have HB0 := Lib.hid hb0
  have HP0 := Lib.hid hp0
  have HZ0 := Lib.hid hz0
  have HN := Lib.hid hn
  have HOW := Lib.hid hown
  have HOW0 : Hid (w0.ownsRow base 132 2 (.slice A n c) n (rr l)) := own2_after hown fun g hg => hb0.block g (own2_lt hown g hg).2
  have HR : Hid (Rs w0 w0.heap.size A l) := Rs.of_own HOW0.out
  have HFIN : Hid (∀ (W : World) (B : Option Addr) (m c2 b2 : Nat) (l2 : List (Nat × Int)), Below w.heap.size w W → W.heap[T]? = some (.cells #[.slice none 0 0, .int .i64 0] 76 (0, 0)) → W.ownsRow b2 132 2 (.slice B m c2) m (rr l2) → Fin w T B m c2 most b2 l2 ((W.setCell ⟨T, 0, none⟩ (.slice B m c2)).setCell ⟨T, 1, none⟩ (.int .i64 most))) := fun W B m c2 b2 l2 h1 h2 h3 => fin_of (by omega) h1 h2 h3
  clear hw0 hb0 hp0 hz0 hn hT hs0 hown
  have HPE := Lib.hid hpe
  have HU := Lib.hid hu
  have HLEN : Hid (n = ps.length) := by simp only [Hid]; rw [HN.out]; exact hpe.length_eq
  have HMF : Hid (∀ y, y ∈ l.map (·.1) ↔ y ∈ ps.map (·.1)) := fun y => perm_fst hpe y
  have HBS := Lib.hid hbase
  have HF0 := Lib.hid (find_any A n c most x l w0 HN.out HR.out (by omega))
  clear hpe hu hbase
  rcases hP with ⟨rfl, p, hp, hq⟩ | ⟨rfl, hx, hno, hq⟩ | ⟨rfl, hx, hxo, hfu, hq⟩ | ⟨rfl, hx, hxo, hro, p, hp, hq⟩
  · have HP := Lib.hid hp
    have HQS := Lib.hid hq
    have HXO : Hid (1 ≤ x ∧ x ≤ 2147483647) := hok x (List.mem_of_getElem? hp)
    have HXM : Hid (x ∈ l.map (·.1)) := (HMF.out x).2 (List.mem_of_getElem? hp)
    clear hp hq hok
    have hrd : decide (1 ≤ x ∧ x ≤ 2147483647) = true := by
      first | (rw [decide_eq_true_iff]; exact HXO.out) | (rw [decide_eq_false_iff_not]; exact HXO.out)
    have HRT := Lib.hid (rright_any x w0)
    rw [hrd] at HRT
    clear hrd
    go_enter Try.func29, Try.ntmps29
    go_upto_region 1 with (fail)
    rw [← H0.out, ← HT.out.1]
    go_wp2_with fail
    refine HRT.out.mono ?_
    rintro r w1 ⟨rfl, rfl⟩
    have b0 := cell_of_row w1 w.heap.size 0 _ _ _ HP0.out
    have b1 := cell_of_row w1 w.heap.size 1 _ _ _ HP0.out
    simp at b0 b1
    go_wp2_with fail
    refine HF0.out.mono ?_
    rintro r w2 ⟨⟨i, (⟨p', v', rfl, hp'⟩ | ⟨rfl, hno⟩), rfl⟩, hb2⟩
    · have HB2 := Lib.hid hb2
      have HOW2 : Hid (w2.ownsRow base 132 2 (.slice A n c) n (rr l)) := own2_after HOW0.out fun g hg => hb2.block g (own2_lt HOW0.out g hg).2
      have hpz : ¬ ((p' : Int) < 0) := by omega
      clear hp' hb2
      have HRD : Hid (Calls Try.prog 73 #[.agg #[.slice A n c, .int .i64 most], .int .u32 (x : Int)] w2 fun r w' => ∃ B m c', r = .returned (.agg #[.slice B m c', .int .i64 most]) ∧ w'.ownsRow w2.heap.size 132 2 (.slice B m c') m (rr (dropR x l)) ∧ Below w2.heap.size w2 w') := rdrop_any A n c most x l w2 HN.out (Rs.of_own HOW2.out) hl
      have hpW := (HB2.out.block _ (lt_of_block HP0.out)).trans HP0.out
      have hzW := (HB2.out.block _ (lt_of_block HZ0.out)).trans HZ0.out
      have p0 := cell_of_row w2 w.heap.size 0 _ _ _ hpW
      have p1 := cell_of_row w2 w.heap.size 1 _ _ _ hpW
      have z0 := cell_of_row w2 T 0 _ _ _ hzW
      have z1 := cell_of_row w2 T 1 _ _ _ hzW
      have fz : ∀ i, w2.frozen? ⟨T, i, none⟩ = false := fun i => frozen_of_row w2 _ i _ _ hzW
      simp at p0 p1 z0 z1
      have HZ2 := Lib.hid hzW
      clear hzW hpW
      go_wp2_with fail
      refine HRD.out.mono ?_
      rintro r w3 ⟨B, m, c2, rfl, hown3, hb3⟩
      have HOW3 := Lib.hid hown3
      have HB3 := Lib.hid hb3
      have HML : Hid (m ≤ 900) := by
        have h1 := hown3.1
        rw [rr_len] at h1
        have h2 := drop_le x l
        have := HN.out
        simp only [Hid]
        omega
      have HMQ : Hid (m = (dropR x l).length) := by have h1 := hown3.1; rw [rr_len] at h1; simp only [Hid]; omega
      have HS2 : Hid (w1.heap.size ≤ w2.heap.size) := HB2.out.size
      obtain ⟨w4, hw4⟩ : ∃ w4, w4 = (w3.alloc (.cells #[.slice B m c2, .int .i64 most] 76)) := ⟨_, rfl⟩
      have hq4 : w4.heap[w3.heap.size]? = some (.cells #[.slice B m c2, .int .i64 most] 76 (0, 0)) := by rw [hw4]; exact heap_alloc_new w3 _
      have hb4 : Below w3.heap.size w3 w4 := by rw [hw4]; exact (Below.refl _ _).alloc (Nat.le_refl _) _
      obtain ⟨w5, hw5⟩ : ∃ w5, w5 = w4.alloc (.cells #[.int .u32 (x : Int), .int .i64 z] 132) := ⟨_, rfl⟩
      have hb5 : Below w4.heap.size w4 w5 := by rw [hw5]; exact (Below.refl _ _).alloc (Nat.le_refl _) _
      have hg5 : w5.heap[w4.heap.size]? = some (.cells #[.int .u32 (x : Int), .int .i64 z] 132 (0, 0)) := by rw [hw5]; exact heap_alloc_new w4 _
      have hs4 : w4.heap.size = w3.heap.size + 1 := by rw [hw4]; simp
      have hs5 : w5.heap.size = w3.heap.size + 2 := by rw [hw5]; simp [hs4]
      have hb35 : Below w3.heap.size w3 w5 := hb4.trans (hb5.mono (by omega))
      have HG5 := Lib.hid hg5
      have HS45 := Lib.hid (And.intro hs4 hs5)
      have HO5 : Hid (w5.ownsRow w2.heap.size 132 2 (.slice B m c2) m (rr (dropR x l))) := own2_after hown3 fun g hg => hb35.block g (own2_lt hown3 g hg).2
      have HQ5 : Hid (w5.heap[w3.heap.size]? = some (.cells #[.slice B m c2, .int .i64 most] 76 (0, 0))) := (hb5.block _ (by omega)).trans hq4
      have q4 := cell_of_row w4 w3.heap.size 0 _ _ _ hq4
      simp at q4
      have HZ5 : Hid (w5.heap[T]? = some (.cells #[.slice none 0 0, .int .i64 0] 76 (0, 0))) := (hb35.block T (Nat.lt_of_lt_of_le (lt_of_block HZ2.out) hb3.size)).trans ((hb3.block T (lt_of_block HZ2.out)).trans HZ2.out)
      have HW5 : Hid (Below w.heap.size w w5) := (HB0.out.trans (HB2.out.mono HB0.out.size)).trans ((hb3.mono (Nat.le_trans HB0.out.size HB2.out.size)).trans (hb35.mono (Nat.le_trans (Nat.le_trans HB0.out.size HB2.out.size) hb3.size)))
      have HS35 : Hid (w2.heap.size ≤ w3.heap.size) := hb3.size
      have H4 := Lib.hid hw4
      have H5 := Lib.hid hw5
      clear hown3 hb3 hw4 hw5 hq4 hb4 hb5 hg5 hs4 hs5 hb35 p0 p1 z0 z1 fz
      go_upto_region 6 with (fail)
      rw [← H4.out]
      have ha5 : w4.alloc (.cells #[.int .u32 (x : Int), .int .i64 z] 132) = w5 := H5.out.symm
      have ht : ∀ W : World, W = w5 → W.ownsRow w2.heap.size 132 2 (.slice B m c2) m (rr (dropR x l)) ∧ W.heap[w4.heap.size]? = some (.cells #[.int .u32 (x : Int), .int .i64 z] 132 (0, 0)) ∧ w2.heap.size ≤ W.heap.size := fun W e => by rw [e]; exact ⟨HO5.out, HG5.out, by have := HS45.out; have := HS35.out; omega⟩
      have HTT := Lib.hid ht
      clear ht ha5
      go_wp2_with (at_builtin; refine wpList_append_row rfl (.tmp 30) (.tmp 34) rfl w2.heap.size w4.heap.size (.slice B m c2) m (dropR x l) (x, z) rfl rfl (HTT.out _ H5.out.symm).1 (HTT.out _ H5.out.symm).2.1 (by have := HML.out; omega) (HTT.out _ H5.out.symm).2.2 ?_; intro v6 w6 hown6 hg6; rw [← H5.out] at hg6; obtain ⟨B6, c6, rfl⟩ := own_form2 hown6; have HAP := Lib.hid (after_put HO5.out HQ5.out HZ5.out (by have := HT.out.2; have := HS2.out; have := HS35.out; omega) HW5.out (by have := HT.out; omega) (by have := HT.out; have := HS2.out; have := HS35.out; omega) (by have := HT.out; have := HS2.out; omega) hown6 hg6); obtain ⟨g1, g2, g3, g4, g5, g6, g7, g8, g9, ga, gb⟩ := HAP.out.1)
      have HF := Lib.hid (HFIN.out _ B6 (m + 1) c6 w2.heap.size (dropR x l ++ [(x, z)]) HAP.out.2.1 HAP.out.2.2.1 HAP.out.2.2.2)
      have e0 := HF.out.c0
      have e1 := HF.out.c1
      clear g1 g2 g3 g4 g5 g6 g7 g8 g9 ga gb q4
      exact bodyPost_ret (v := .tuple #[rV B6 (m + 1) c6 most, .int .i64 0]) (by simp [results, Try.results29, go_sem, rV, e0, e1]) rfl ⟨B6, m + 1, c6, _, rfl, by rw [List.length_append, HMQ.out]; rfl, by rw [HQS.out]; exact put_perm HU.out HPE.out z HP.out, own2_base HF.out.own (Nat.le_trans HBS.out (Nat.le_trans HB0.out.size HS2.out)), HF.out.below⟩
    · exact absurd HXM.out (fun hm => by
        obtain ⟨e, he, hex⟩ := List.mem_map.1 hm
        exact hno e he hex)
  · have HQS := Lib.hid hq
    have HX := Lib.hid hx
    have HXO : Hid (¬ (1 ≤ x ∧ x ≤ 2147483647)) := hno
    clear hx hq hok hno
    have hrd : decide (1 ≤ x ∧ x ≤ 2147483647) = false := by
      first | (rw [decide_eq_true_iff]; exact HXO.out) | (rw [decide_eq_false_iff_not]; exact HXO.out)
    have HRT := Lib.hid (rright_any x w0)
    rw [hrd] at HRT
    clear hrd
    go_enter Try.func29, Try.ntmps29
    go_upto_region 1 with (fail)
    rw [← H0.out, ← HT.out.1]
    go_wp2_with fail
    refine HRT.out.mono ?_
    rintro r w1 ⟨rfl, rfl⟩
    have b0 := cell_of_row w1 w.heap.size 0 _ _ _ HP0.out
    have b1 := cell_of_row w1 w.heap.size 1 _ _ _ HP0.out
    simp at b0 b1
    have hpW := ((Below.refl w1.heap.size w1).block _ (lt_of_block HP0.out)).trans HP0.out
    have hzW := ((Below.refl w1.heap.size w1).block _ (lt_of_block HZ0.out)).trans HZ0.out
    have p0 := cell_of_row w1 w.heap.size 0 _ _ _ hpW
    have p1 := cell_of_row w1 w.heap.size 1 _ _ _ hpW
    have z0 := cell_of_row w1 T 0 _ _ _ hzW
    have z1 := cell_of_row w1 T 1 _ _ _ hzW
    have fz : ∀ i, w1.frozen? ⟨T, i, none⟩ = false := fun i => frozen_of_row w1 _ i _ _ hzW
    simp at p0 p1 z0 z1
    have HZ1 := Lib.hid hzW
    clear hzW hpW
    have HF := Lib.hid (HFIN.out w1 A n c _ _ (HB0.out) HZ1.out (HOW0.out))
    have e0 := HF.out.c0
    have e1 := HF.out.c1
    go_wp2
    exact bodyPost_ret (v := .tuple #[rV A n c most, .int .i64 14]) (by simp [results, Try.results29, go_sem, rV, e0, e1]) rfl ⟨A, n, c, l, rfl, HN.out, by rw [HQS.out]; exact HPE.out, HF.out.own, HF.out.below⟩
  · have HQS := Lib.hid hq
    have HX := Lib.hid hx
    have HXO : Hid ((1 ≤ x ∧ x ≤ 2147483647)) := hxo
    have hfn : most ≤ (n : Int) := by have := HLEN.out; omega
    clear hx hq hok hxo hfu
    have hrd : decide (1 ≤ x ∧ x ≤ 2147483647) = true := by
      first | (rw [decide_eq_true_iff]; exact HXO.out) | (rw [decide_eq_false_iff_not]; exact HXO.out)
    have HRT := Lib.hid (rright_any x w0)
    rw [hrd] at HRT
    clear hrd
    go_enter Try.func29, Try.ntmps29
    go_upto_region 1 with (fail)
    rw [← H0.out, ← HT.out.1]
    go_wp2_with fail
    refine HRT.out.mono ?_
    rintro r w1 ⟨rfl, rfl⟩
    have b0 := cell_of_row w1 w.heap.size 0 _ _ _ HP0.out
    have b1 := cell_of_row w1 w.heap.size 1 _ _ _ HP0.out
    simp at b0 b1
    go_wp2_with fail
    refine HF0.out.mono ?_
    rintro r w2 ⟨⟨i, (⟨p', v', rfl, hp'⟩ | ⟨rfl, hno⟩), rfl⟩, hb2⟩
    · exact absurd ((HMF.out x).1 (List.mem_map.2 ⟨_, List.mem_of_getElem? hp', rfl⟩)) HX.out
    · have HB2 := Lib.hid hb2
      have HOW2 : Hid (w2.ownsRow base 132 2 (.slice A n c) n (rr l)) := own2_after HOW0.out fun g hg => hb2.block g (own2_lt HOW0.out g hg).2
      clear hb2 hno
      have hpW := (HB2.out.block _ (lt_of_block HP0.out)).trans HP0.out
      have hzW := (HB2.out.block _ (lt_of_block HZ0.out)).trans HZ0.out
      have p0 := cell_of_row w2 w.heap.size 0 _ _ _ hpW
      have p1 := cell_of_row w2 w.heap.size 1 _ _ _ hpW
      have z0 := cell_of_row w2 T 0 _ _ _ hzW
      have z1 := cell_of_row w2 T 1 _ _ _ hzW
      have fz : ∀ i, w2.frozen? ⟨T, i, none⟩ = false := fun i => frozen_of_row w2 _ i _ _ hzW
      simp at p0 p1 z0 z1
      have HZ2 := Lib.hid hzW
      clear hzW hpW
      have HF := Lib.hid (HFIN.out w2 A n c _ _ (HB0.out.trans (HB2.out.mono HB0.out.size)) HZ2.out (HOW2.out))
      have e0 := HF.out.c0
      have e1 := HF.out.c1
      go_wp2
      exact bodyPost_ret (v := .tuple #[rV A n c most, .int .i64 10]) (by simp [results, Try.results29, go_sem, rV, e0, e1]) rfl ⟨A, n, c, l, rfl, HN.out, by rw [HQS.out]; exact HPE.out, HF.out.own, HF.out.below⟩
  · have HP := Lib.hid hp
    have HQS := Lib.hid hq
    have HX := Lib.hid hx
    have HXO : Hid (1 ≤ x ∧ x ≤ 2147483647) := hxo
    have hfn : ¬ most ≤ (n : Int) := by have := HLEN.out; omega
    clear hp hq hok hx hxo hro
    have hrd : decide (1 ≤ x ∧ x ≤ 2147483647) = true := by
      first | (rw [decide_eq_true_iff]; exact HXO.out) | (rw [decide_eq_false_iff_not]; exact HXO.out)
    have HRT := Lib.hid (rright_any x w0)
    rw [hrd] at HRT
    clear hrd
    go_enter Try.func29, Try.ntmps29
    go_upto_region 1 with (fail)
    rw [← H0.out, ← HT.out.1]
    go_wp2_with fail
    refine HRT.out.mono ?_
    rintro r w1 ⟨rfl, rfl⟩
    have b0 := cell_of_row w1 w.heap.size 0 _ _ _ HP0.out
    have b1 := cell_of_row w1 w.heap.size 1 _ _ _ HP0.out
    simp at b0 b1
    go_wp2_with fail
    refine HF0.out.mono ?_
    rintro r w2 ⟨⟨i, (⟨p', v', rfl, hp'⟩ | ⟨rfl, hno⟩), rfl⟩, hb2⟩
    · exact absurd ((HMF.out x).1 (List.mem_map.2 ⟨_, List.mem_of_getElem? hp', rfl⟩)) HX.out
    · have HB2 := Lib.hid hb2
      have HOW2 : Hid (w2.ownsRow base 132 2 (.slice A n c) n (rr l)) := own2_after HOW0.out fun g hg => hb2.block g (own2_lt HOW0.out g hg).2
      clear hno hb2
      have HRD : Hid (Calls Try.prog 73 #[.agg #[.slice A n c, .int .i64 most], .int .u32 (x : Int)] w2 fun r w' => ∃ B m c', r = .returned (.agg #[.slice B m c', .int .i64 most]) ∧ w'.ownsRow w2.heap.size 132 2 (.slice B m c') m (rr (dropR x l)) ∧ Below w2.heap.size w2 w') := rdrop_any A n c most x l w2 HN.out (Rs.of_own HOW2.out) hl
      have hpW := (HB2.out.block _ (lt_of_block HP0.out)).trans HP0.out
      have hzW := (HB2.out.block _ (lt_of_block HZ0.out)).trans HZ0.out
      have p0 := cell_of_row w2 w.heap.size 0 _ _ _ hpW
      have p1 := cell_of_row w2 w.heap.size 1 _ _ _ hpW
      have z0 := cell_of_row w2 T 0 _ _ _ hzW
      have z1 := cell_of_row w2 T 1 _ _ _ hzW
      have fz : ∀ i, w2.frozen? ⟨T, i, none⟩ = false := fun i => frozen_of_row w2 _ i _ _ hzW
      simp at p0 p1 z0 z1
      have HZ2 := Lib.hid hzW
      clear hzW hpW
      go_wp2_with fail
      refine HRD.out.mono ?_
      rintro r w3 ⟨B, m, c2, rfl, hown3, hb3⟩
      have HOW3 := Lib.hid hown3
      have HB3 := Lib.hid hb3
      have HML : Hid (m ≤ 900) := by
        have h1 := hown3.1
        rw [rr_len] at h1
        have h2 := drop_le x l
        have := HN.out
        simp only [Hid]
        omega
      have HMQ : Hid (m = (dropR x l).length) := by have h1 := hown3.1; rw [rr_len] at h1; simp only [Hid]; omega
      have HS2 : Hid (w1.heap.size ≤ w2.heap.size) := HB2.out.size
      obtain ⟨w4, hw4⟩ : ∃ w4, w4 = (w3.alloc (.cells #[.slice B m c2, .int .i64 most] 76)) := ⟨_, rfl⟩
      have hq4 : w4.heap[w3.heap.size]? = some (.cells #[.slice B m c2, .int .i64 most] 76 (0, 0)) := by rw [hw4]; exact heap_alloc_new w3 _
      have hb4 : Below w3.heap.size w3 w4 := by rw [hw4]; exact (Below.refl _ _).alloc (Nat.le_refl _) _
      obtain ⟨w5, hw5⟩ : ∃ w5, w5 = w4.alloc (.cells #[.int .u32 (x : Int), .int .i64 z] 132) := ⟨_, rfl⟩
      have hb5 : Below w4.heap.size w4 w5 := by rw [hw5]; exact (Below.refl _ _).alloc (Nat.le_refl _) _
      have hg5 : w5.heap[w4.heap.size]? = some (.cells #[.int .u32 (x : Int), .int .i64 z] 132 (0, 0)) := by rw [hw5]; exact heap_alloc_new w4 _
      have hs4 : w4.heap.size = w3.heap.size + 1 := by rw [hw4]; simp
      have hs5 : w5.heap.size = w3.heap.size + 2 := by rw [hw5]; simp [hs4]
      have hb35 : Below w3.heap.size w3 w5 := hb4.trans (hb5.mono (by omega))
      have HG5 := Lib.hid hg5
      have HS45 := Lib.hid (And.intro hs4 hs5)
      have HO5 : Hid (w5.ownsRow w2.heap.size 132 2 (.slice B m c2) m (rr (dropR x l))) := own2_after hown3 fun g hg => hb35.block g (own2_lt hown3 g hg).2
      have HQ5 : Hid (w5.heap[w3.heap.size]? = some (.cells #[.slice B m c2, .int .i64 most] 76 (0, 0))) := (hb5.block _ (by omega)).trans hq4
      have q4 := cell_of_row w4 w3.heap.size 0 _ _ _ hq4
      simp at q4
      have HZ5 : Hid (w5.heap[T]? = some (.cells #[.slice none 0 0, .int .i64 0] 76 (0, 0))) := (hb35.block T (Nat.lt_of_lt_of_le (lt_of_block HZ2.out) hb3.size)).trans ((hb3.block T (lt_of_block HZ2.out)).trans HZ2.out)
      have HW5 : Hid (Below w.heap.size w w5) := (HB0.out.trans (HB2.out.mono HB0.out.size)).trans ((hb3.mono (Nat.le_trans HB0.out.size HB2.out.size)).trans (hb35.mono (Nat.le_trans (Nat.le_trans HB0.out.size HB2.out.size) hb3.size)))
      have HS35 : Hid (w2.heap.size ≤ w3.heap.size) := hb3.size
      have H4 := Lib.hid hw4
      have H5 := Lib.hid hw5
      clear hown3 hb3 hw4 hw5 hq4 hb4 hb5 hg5 hs4 hs5 hb35 p0 p1 z0 z1 fz
      go_upto_region 6 with (fail)
      rw [← H4.out]
      have ha5 : w4.alloc (.cells #[.int .u32 (x : Int), .int .i64 z] 132) = w5 := H5.out.symm
      have ht : ∀ W : World, W = w5 → W.ownsRow w2.heap.size 132 2 (.slice B m c2) m (rr (dropR x l)) ∧ W.heap[w4.heap.size]? = some (.cells #[.int .u32 (x : Int), .int .i64 z] 132 (0, 0)) ∧ w2.heap.size ≤ W.heap.size := fun W e => by rw [e]; exact ⟨HO5.out, HG5.out, by have := HS45.out; have := HS35.out; omega⟩
      have HTT := Lib.hid ht
      clear ht ha5
      go_wp2_with (at_builtin; refine wpList_append_row rfl (.tmp 30) (.tmp 34) rfl w2.heap.size w4.heap.size (.slice B m c2) m (dropR x l) (x, z) rfl rfl (HTT.out _ H5.out.symm).1 (HTT.out _ H5.out.symm).2.1 (by have := HML.out; omega) (HTT.out _ H5.out.symm).2.2 ?_; intro v6 w6 hown6 hg6; rw [← H5.out] at hg6; obtain ⟨B6, c6, rfl⟩ := own_form2 hown6; have HAP := Lib.hid (after_put HO5.out HQ5.out HZ5.out (by have := HT.out.2; have := HS2.out; have := HS35.out; omega) HW5.out (by have := HT.out; omega) (by have := HT.out; have := HS2.out; have := HS35.out; omega) (by have := HT.out; have := HS2.out; omega) hown6 hg6); obtain ⟨g1, g2, g3, g4, g5, g6, g7, g8, g9, ga, gb⟩ := HAP.out.1)
      have HF := Lib.hid (HFIN.out _ B6 (m + 1) c6 w2.heap.size (dropR x l ++ [(x, z)]) HAP.out.2.1 HAP.out.2.2.1 HAP.out.2.2.2)
      have e0 := HF.out.c0
      have e1 := HF.out.c1
      clear g1 g2 g3 g4 g5 g6 g7 g8 g9 ga gb q4
      exact bodyPost_ret (v := .tuple #[rV B6 (m + 1) c6 most, .int .i64 0]) (by simp [results, Try.results29, go_sem, rV, e0, e1]) rfl ⟨B6, m + 1, c6, _, rfl, by rw [List.length_append, HMQ.out]; rfl, by rw [HQS.out]; exact ins_perm HPE.out z HX.out, own2_base HF.out.own (Nat.le_trans HBS.out (Nat.le_trans HB0.out.size HS2.out)), HF.out.below⟩

end Go.Proofs.Ytemjmnpclknfaaa.V
