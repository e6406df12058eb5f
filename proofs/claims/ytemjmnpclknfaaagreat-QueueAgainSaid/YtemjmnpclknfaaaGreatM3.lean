/- Queue: UI, UJ, UK, one behind the other. -/
import Derived.Test.YtemjmnpclknfaaaGreatM2
import Derived.ProofKit
import Derived.OpenShut
import Derived.Lib.SmallJoins
import Derived.Deep.Slices
import Derived.Deep.Matrix
/- Queue: Usual. -/
namespace Go.Proofs.YtemjmnpclknfaaaGreat.T
open Go.RowKit
open Go.Proofs.YtemjmnpclknfaaaGreat.P (Sl un)
set_option maxRecDepth 20000
set_option linter.unusedVariables false
set_option linter.unusedSimpArgs false

set_option maxHeartbeats 4000000 in
theorem usual_any (A : Option Addr) (n c : Nat) (l : List M5) (w : World) (hn : n = l.length) (hR : Rm w A l) (hl : n ≤ 100) :
    Calls Tryz.prog 19 #[.slice A n c] w fun r w' => ∃ (cs : Array Value) (B : Option Addr) (c' : Nat), r = .returned (.agg cs) ∧ cs[13]? = some (.slice B n c') ∧ Rm w' B l ∧ Below w.heap.size w w' := by
  obtain ⟨T, hT⟩ : ∃ T, T = w.heap.size := ⟨_, rfl⟩
  obtain ⟨w0, hw0⟩ : ∃ w0, w0 = w.alloc (.cells #[.string { data := #[] }, .int .i64 0, .int .i64 0, .int .i64 0, .int .i64 0, .int .i64 0, .int .i64 0, .int .i64 0, .int .i64 0, .int .i64 0, .int .i64 0, .int .i64 0, .int .i64 0, .slice none 0 0] 30) := ⟨_, rfl⟩
  have hb0 : Below w.heap.size w w0 := by rw [hw0]; exact (Below.refl _ _).alloc (Nat.le_refl _) _
  have hq0 : w0.heap[T]? = some (.cells #[.string { data := #[] }, .int .i64 0, .int .i64 0, .int .i64 0, .int .i64 0, .int .i64 0, .int .i64 0, .int .i64 0, .int .i64 0, .int .i64 0, .int .i64 0, .int .i64 0, .int .i64 0, .slice none 0 0] 30 (0, 0)) := by rw [hw0, hT]; exact heap_alloc_new w _
  have H0 := Lib.hid hw0
  have HTT := Lib.hid hT
  have HN := Lib.hid hn
  have HC := Lib.hid (clone_m5 A n c l w0 hn (hR.after hb0) hl)
  clear hw0 hn hl hR hT
  go_enter Tryz.func19, Tryz.ntmps19
  go_upto_region 1 with (fail)
  rw [← H0.out, ← HTT.out]
  go_wp2_with fail
  refine HC.out.mono ?_
  rintro r w1 ⟨B, c1, rfl, ho1, hb1⟩
  have HM1 : Hid (Rm w1 B l) := Rm.of_own HN.out ho1
  have hq1 := (hb1.block _ (lt_of_block hq0)).trans hq0
  have f0 : ∀ i, w1.frozen? ⟨T, i, none⟩ = false := fun i => frozen_of_row w1 _ i _ _ hq1
  have d0 := cell_of_row w1 T 0 _ _ _ hq1
  have d1 := cell_of_row w1 T 1 _ _ _ hq1
  have d2 := cell_of_row w1 T 2 _ _ _ hq1
  have d3 := cell_of_row w1 T 3 _ _ _ hq1
  have d4 := cell_of_row w1 T 4 _ _ _ hq1
  have d5 := cell_of_row w1 T 5 _ _ _ hq1
  have d6 := cell_of_row w1 T 6 _ _ _ hq1
  have d7 := cell_of_row w1 T 7 _ _ _ hq1
  have d8 := cell_of_row w1 T 8 _ _ _ hq1
  have d9 := cell_of_row w1 T 9 _ _ _ hq1
  have d10 := cell_of_row w1 T 10 _ _ _ hq1
  have d11 := cell_of_row w1 T 11 _ _ _ hq1
  have d12 := cell_of_row w1 T 12 _ _ _ hq1
  have d13 := cell_of_row w1 T 13 _ _ _ hq1
  simp at d0 d1 d2 d3 d4 d5 d6 d7 d8 d9 d10 d11 d12 d13
  have HB : Hid (Below w.heap.size w w1) := hb0.trans (hb1.mono hb0.size)
  have HQ1 := Lib.hid hq1
  have HTS : Hid (w.heap.size ≤ T) := by rw [HTT.out]; exact Nat.le_refl _
  clear hb1 hb0 hq1 hq0 HC ho1
  go_wp2
  refine bodyPost_ret (v := .agg #[.string { data := #[116, 105, 108, 116] }, .int .i64 16, .int .i64 16, .int .i64 8, .int .i64 4, .int .i64 100, .int .i64 50, .int .i64 20, .int .i64 10, .int .i64 15, .int .i64 30, .int .i64 20, .int .i64 8192, .slice B n c1]) (by simp [results, Tryz.results19, go_sem, d0, d1, d2, d3, d4, d5, d6, d7, d8, d9, d10, d11, d12, d13]) rfl ⟨_, B, c1, rfl, rfl, fun hl => ?_, ?_⟩
  · obtain ⟨b, o, e1, ⟨cur, e2⟩, e3⟩ := HM1.out hl
    have hne : b ≠ T := fun e => by
      rw [e, HQ1.out] at e2
      injection e2 with e2
      injection e2 with _ e2
      exact absurd e2 (by decide)
    have k : ∀ (W : World) (i : Nat) (v : Value), (W.setCell ⟨T, i, none⟩ v).heap[b]? = W.heap[b]? := fun W i v => Below.heap_setCell _ _ _ _ hne
    have hb : ∀ W : World, W.heap[b]? = w1.heap[b]? → (∃ cur, W.heap[b]? = some (.cells cur 58 (0, 0))) ∧ ∀ (j : Nat) (v : Value), (m5 l)[j]? = some v → W.cell? ⟨b, o + j, none⟩ = some v := fun W hW => ⟨⟨cur, hW.trans e2⟩, fun j v hj => (World.cell?_of_block hW).trans (e3 j v hj)⟩
    refine ⟨b, o, e1, hb _ ?_⟩
    iterate 14 refine (k _ _ _).trans ?_
    rfl
  · iterate 14 refine Below.setCell ?_ HTS.out _
    exact HB.out
end Go.Proofs.YtemjmnpclknfaaaGreat.T

/- Queue: the law's own. -/
namespace Go.Proofs.YtemjmnpclknfaaaGreat.T
open Go.RowKit
open Go.Proofs.YtemjmnpclknfaaaGreat.P (Sl un)
set_option maxRecDepth 20000
set_option linter.unusedVariables false
set_option linter.unusedSimpArgs false

set_option maxHeartbeats 4000000 in
theorem lown_any (t : Tk) (s : Sl) (w : World) (h1 : s.n = t.mem.length) (hR : P.Rn w s.a t.mem) (hl : t.mem.length ≤ 1000) :
    Calls Tryz.prog 12 #[.agg (mC t.id t.md s t.rt t.sn)] w fun r w' => ∃ A c, r = .returned (.agg (mC t.id t.md ⟨A, s.n, c⟩ t.rt t.sn)) ∧ w'.ownsRow w.heap.size 33 1 (.slice A s.n c) s.n (un t.mem) ∧ Below w.heap.size w w' := by
  obtain ⟨G, hG⟩ : ∃ X, X = w.heap.size := ⟨_, rfl⟩
  obtain ⟨T, hT⟩ : ∃ Y, Y = w.heap.size + 1 := ⟨_, rfl⟩
  obtain ⟨w0, hw0⟩ : ∃ w0, w0 = (w.alloc (.cells (mC t.id t.md s t.rt t.sn) 36)).alloc (.cells #[.int .u32 0, .int .i64 0, .slice none 0 0, .int .i64 0, .int .i64 0] 39) := ⟨_, rfl⟩
  have hb0 : Below w.heap.size w w0 := by rw [hw0]; exact ((Below.refl _ _).alloc (Nat.le_refl _) _).alloc (by simp) _
  have hp0 : w0.heap[G]? = some (.cells (mC t.id t.md s t.rt t.sn) 36 (0, 0)) := by
    rw [hw0, hG]
    exact (Below.heap_alloc _ _ _ (by simp)).trans (heap_alloc_new w _)
  have hq0 : w0.heap[T]? = some (.cells #[.int .u32 0, .int .i64 0, .slice none 0 0, .int .i64 0, .int .i64 0] 39 (0, 0)) := by
    have h := heap_alloc_new (w.alloc (.cells (mC t.id t.md s t.rt t.sn) 36)) (.cells #[.int .u32 0, .int .i64 0, .slice none 0 0, .int .i64 0, .int .i64 0] 39)
    rw [World.size_alloc] at h
    rw [hw0, hT]
    exact h
  have HNG : Hid (G ≠ T) := by simp only [Hid]; omega
  have HTW : Hid (w.heap.size ≤ T) := by simp only [Hid]; omega
  have HSS : Hid (∀ W, Below w0.heap.size w0 W → (fun W : World => W.cell? ⟨G, 0, none⟩ = some (.int .u32 (t.id : Int)) ∧ W.cell? ⟨G, 1, none⟩ = some (.int .i64 t.md) ∧ W.cell? ⟨G, 2, none⟩ = some (.slice s.a s.n s.c) ∧ W.cell? ⟨G, 3, none⟩ = some (.int .i64 t.rt) ∧ W.cell? ⟨G, 4, none⟩ = some (.int .i64 t.sn)) W) := fun W hW => by
    have hq := (hW.block G (lt_of_block hp0)).trans hp0
    have x0 := cell_of_row _ G 0 _ _ _ hq
    have x1 := cell_of_row _ G 1 _ _ _ hq
    have x2 := cell_of_row _ G 2 _ _ _ hq
    have x3 := cell_of_row _ G 3 _ _ _ hq
    have x4 := cell_of_row _ G 4 _ _ _ hq
    exact ⟨by simpa using x0, by simpa using x1, by simpa using x2, by simpa using x3, by simpa using x4⟩
  have HBR : Hid (Below w0.heap.size w0 w0) := Below.refl _ _
  have HRN := Lib.hid (hR.after hb0)
  have HH1 := Lib.hid h1
  have HLL := Lib.hid hl
  have HB0 := Lib.hid hb0
  have HQT := Lib.hid hq0
  have H0 := Lib.hid hw0
  have HG := Lib.hid hG
  have HT := Lib.hid hT
  clear hw0 hb0 hp0 hq0 hG hT h1 hR hl
  go_enter Tryz.func12, Tryz.ntmps12
  go_upto_region 1 with (fail)
  rw [← H0.out, ← HT.out, ← HG.out]
  have HDk : Hid (Below w0.heap.size w0 w0.drew) := HBR.out.drew
  refine wp_region_held_drew (S := fun W : World => W.cell? ⟨G, 0, none⟩ = some (.int .u32 (t.id : Int)) ∧ W.cell? ⟨G, 1, none⟩ = some (.int .i64 t.md) ∧ W.cell? ⟨G, 2, none⟩ = some (.slice s.a s.n s.c) ∧ W.cell? ⟨G, 3, none⟩ = some (.int .i64 t.rt) ∧ W.cell? ⟨G, 4, none⟩ = some (.int .i64 t.sn)) (by kernel_rfl) (HSS.out _ (HDk.out)) (fun hHeld => ?_)
  obtain ⟨Wk0, hW0⟩ : ∃ W0, W0 = w0.drew := ⟨_, rfl⟩
  rw [← hW0] at hHeld HDk ⊢
  clear hW0
  refine wpAnyH_take (i := 0) (oi := ?oi0k) (v := ?v0k) ?hi0k ?hs0k ?hf0k ?hr0k ?hQ0k ?hy0k ?hS0k ?h0k
  case hi0k => exact (by simp only [List.getElem?_toArray, List.getElem?_cons_zero]; rfl)
  case hs0k => kernel_rfl
  case hf0k => kernel_rfl
  case hr0k => kernel_rfl
  case hQ0k => exact fun _ _ _ h => h
  case hy0k =>
    refine Or.inl ⟨rfl, ?_⟩
    intro W hSw
    obtain ⟨q0, q1, q2, q3, q4⟩ := hSw
    go_simp
    try with_reducible rfl
  case hS0k => assumption
  try simp only [Act.put, List.setIfInBounds_toArray, List.set_cons_zero, List.set_cons_succ]
  refine wpAnyH_take (i := 1) (oi := ?oi1k) (v := ?v1k) ?hi1k ?hs1k ?hf1k ?hr1k ?hQ1k ?hy1k ?hS1k ?h1k
  case hi1k => exact (by simp only [List.getElem?_toArray, List.getElem?_cons_succ, List.getElem?_cons_zero]; rfl)
  case hs1k => kernel_rfl
  case hf1k => kernel_rfl
  case hr1k => kernel_rfl
  case hQ1k => exact fun _ _ _ h => h
  case hy1k =>
    refine Or.inl ⟨rfl, ?_⟩
    intro W hSw
    obtain ⟨q0, q1, q2, q3, q4⟩ := hSw
    go_simp
    try with_reducible rfl
  case hS1k => assumption
  try simp only [Act.put, List.setIfInBounds_toArray, List.set_cons_zero, List.set_cons_succ]
  refine wpAnyH_take (i := 2) (oi := ?oi2k) (v := ?v2k) ?hi2k ?hs2k ?hf2k ?hr2k ?hQ2k ?hy2k ?hS2k ?h2k
  case hi2k => exact (by simp only [List.getElem?_toArray, List.getElem?_cons_succ, List.getElem?_cons_zero]; rfl)
  case hs2k => kernel_rfl
  case hf2k => kernel_rfl
  case hr2k => kernel_rfl
  case hQ2k => exact fun _ _ _ h => h
  case hy2k =>
    refine Or.inl ⟨rfl, ?_⟩
    intro W hSw
    obtain ⟨q0, q1, q2, q3, q4⟩ := hSw
    go_simp
    try with_reducible rfl
  case hS2k => assumption
  try simp only [Act.put, List.setIfInBounds_toArray, List.set_cons_zero, List.set_cons_succ]
  refine wpAnyH_take (i := 3) (oi := ?oi3k) (v := ?v3k) ?hi3k ?hs3k ?hf3k ?hr3k ?hQ3k ?hy3k ?hS3k ?h3k
  case hi3k => exact (by simp only [List.getElem?_toArray, List.getElem?_cons_succ, List.getElem?_cons_zero]; rfl)
  case hs3k => kernel_rfl
  case hf3k => kernel_rfl
  case hr3k => kernel_rfl
  case hQ3k => exact fun _ _ _ h => h
  case hy3k =>
    refine Or.inl ⟨rfl, ?_⟩
    intro W hSw
    obtain ⟨q0, q1, q2, q3, q4⟩ := hSw
    go_simp
    try with_reducible rfl
  case hS3k => assumption
  try simp only [Act.put, List.setIfInBounds_toArray, List.set_cons_zero, List.set_cons_succ]
  refine wpAnyH_take (i := 5) (oi := ?oi5k) (v := ?v5k) ?hi5k ?hs5k ?hf5k ?hr5k ?hQ5k ?hy5k ?hS5k ?h5k
  case hi5k => exact (by simp only [List.getElem?_toArray, List.getElem?_cons_succ, List.getElem?_cons_zero]; rfl)
  case hs5k => kernel_rfl
  case hf5k => kernel_rfl
  case hr5k => kernel_rfl
  case hQ5k => exact fun _ _ _ h => h
  case hy5k =>
    refine Or.inl ⟨rfl, ?_⟩
    intro W hSw
    obtain ⟨q0, q1, q2, q3, q4⟩ := hSw
    go_simp
    try with_reducible rfl
  case hS5k => assumption
  try simp only [Act.put, List.setIfInBounds_toArray, List.set_cons_zero, List.set_cons_succ]
  refine wpAnyH_take (i := 6) (oi := ?oi6k) (v := ?v6k) ?hi6k ?hs6k ?hf6k ?hr6k ?hQ6k ?hy6k ?hS6k ?h6k
  case hi6k => exact (by simp only [List.getElem?_toArray, List.getElem?_cons_succ, List.getElem?_cons_zero]; rfl)
  case hs6k => kernel_rfl
  case hf6k => kernel_rfl
  case hr6k => kernel_rfl
  case hQ6k => exact fun _ _ _ h => h
  case hy6k =>
    refine Or.inl ⟨rfl, ?_⟩
    intro W hSw
    obtain ⟨q0, q1, q2, q3, q4⟩ := hSw
    go_simp
    try with_reducible rfl
  case hS6k => assumption
  try simp only [Act.put, List.setIfInBounds_toArray, List.set_cons_zero, List.set_cons_succ]
  refine wpAnyH_take (i := 8) (oi := ?oi8k) (v := ?v8k) ?hi8k ?hs8k ?hf8k ?hr8k ?hQ8k ?hy8k ?hS8k ?h8k
  case hi8k => exact (by simp only [List.getElem?_toArray, List.getElem?_cons_succ, List.getElem?_cons_zero]; rfl)
  case hs8k => kernel_rfl
  case hf8k => kernel_rfl
  case hr8k => kernel_rfl
  case hQ8k => exact fun _ _ _ h => h
  case hy8k =>
    refine Or.inl ⟨rfl, ?_⟩
    intro W hSw
    obtain ⟨q0, q1, q2, q3, q4⟩ := hSw
    go_simp
    try with_reducible rfl
  case hS8k => assumption
  try simp only [Act.put, List.setIfInBounds_toArray, List.set_cons_zero, List.set_cons_succ]
  refine wpAnyH_take (i := 9) (oi := ?oi9k) (v := ?v9k) ?hi9k ?hs9k ?hf9k ?hr9k ?hQ9k ?hy9k ?hS9k ?h9k
  case hi9k => exact (by simp only [List.getElem?_toArray, List.getElem?_cons_succ, List.getElem?_cons_zero]; rfl)
  case hs9k => kernel_rfl
  case hf9k => kernel_rfl
  case hr9k => kernel_rfl
  case hQ9k => exact fun _ _ _ h => h
  case hy9k =>
    refine Or.inl ⟨rfl, ?_⟩
    intro W hSw
    obtain ⟨q0, q1, q2, q3, q4⟩ := hSw
    go_simp
    try with_reducible rfl
  case hS9k => assumption
  try simp only [Act.put, List.setIfInBounds_toArray, List.set_cons_zero, List.set_cons_succ]
  refine wpAnyH_take (i := 10) (oi := ?oi10k) (v := ?v10k) ?hi10k ?hs10k ?hf10k ?hr10k ?hQ10k ?hy10k ?hS10k ?h10k
  case hi10k => exact (by simp only [List.getElem?_toArray, List.getElem?_cons_succ, List.getElem?_cons_zero]; rfl)
  case hs10k => kernel_rfl
  case hf10k => kernel_rfl
  case hr10k => kernel_rfl
  case hQ10k => exact fun _ _ _ h => h
  case hy10k =>
    refine Or.inl ⟨rfl, ?_⟩
    intro W hSw
    obtain ⟨q0, q1, q2, q3, q4⟩ := hSw
    go_simp
    try with_reducible rfl
  case hS10k => assumption
  try simp only [Act.put, List.setIfInBounds_toArray, List.set_cons_zero, List.set_cons_succ]
  refine wpAnyH_take (i := 11) (oi := ?oi11k) (v := ?v11k) ?hi11k ?hs11k ?hf11k ?hr11k ?hQ11k ?hy11k ?hS11k ?h11k
  case hi11k => exact (by simp only [List.getElem?_toArray, List.getElem?_cons_succ, List.getElem?_cons_zero]; rfl)
  case hs11k => kernel_rfl
  case hf11k => kernel_rfl
  case hr11k => kernel_rfl
  case hQ11k => exact fun _ _ _ h => h
  case hy11k =>
    refine Or.inl ⟨rfl, ?_⟩
    intro W hSw
    obtain ⟨q0, q1, q2, q3, q4⟩ := hSw
    go_simp
    try with_reducible rfl
  case hS11k => assumption
  try simp only [Act.put, List.setIfInBounds_toArray, List.set_cons_zero, List.set_cons_succ]
  refine wpAnyH_ready (rs := [4]) (by kernel_rfl) (by simp) ?_
  refine AllReadyH.cons (o := _) rfl (fun K hK => ?_) AllReadyH.nil
  go_simp
  obtain ⟨KE, hKE⟩ : ∃ k, k = Wk0.heap.size := ⟨_, rfl⟩
  obtain ⟨We, hwe⟩ : ∃ X, X = Wk0.alloc (.cells #[] 33) := ⟨_, rfl⟩
  have hbe : Below Wk0.heap.size Wk0 We := by rw [hwe]; exact (Below.refl _ _).alloc (Nat.le_refl _) _
  have hoe : We.ownsRow KE 33 1 (.slice (some ⟨KE, 0, none⟩) 0 0) 0 [] := ⟨rfl, .inr ⟨KE, 0, #[], rfl, Nat.le_refl _, by rw [hwe, hKE]; exact heap_alloc_new _ _, Nat.le_refl _, Nat.zero_le _, rfl, rfl⟩⟩
  have HBE := Lib.hid (HDk.out.trans (hbe.mono HDk.out.size))
  have HKE : Hid (w0.heap.size ≤ KE) := by rw [hKE]; exact HDk.out.size
  obtain ⟨v1, W1, hr1, ho1, hg1⟩ := P.app_rn We KE 34 0 _ [] hoe s.a s.n s.c t.mem HH1.out (HRN.out.after HBE.out) (by have := HH1.out; have := HLL.out; omega) (by rw [hKE]; exact hbe.size)
  rw [Nat.zero_add, List.nil_append] at ho1
  obtain ⟨A1, c1, rfl⟩ := own_form1 ho1
  have HO1 := Lib.hid ho1
  have HB1 : Hid (Below w0.heap.size w0 W1) := HBE.out.grown hg1 HBE.out.size (fun k hk => by have e : KE = k := Option.some.inj hk; have := HKE.out; omega)
  rw [← hwe, ← hKE]
  clear hwe hbe hoe hKE ho1 hg1
  refine hK.out _ _ (HSS.out _ HBE.out) (fun hHeld => ?_)
  clear hK K
  try simp only [Act.put, List.setIfInBounds_toArray, List.set_cons_zero, List.set_cons_succ]
  refine wpAnyH_ready (rs := [7]) (by kernel_rfl) (by simp) ?_
  refine AllReadyH.cons (o := _) rfl (fun K hK => ?_) AllReadyH.nil
  refine P.step_append_run rfl _ _ 34 34 rfl _ _ rfl rfl hr1 ?_
  refine hK.out _ _ (HSS.out _ HB1.out) (fun hHeld => ?_)
  clear hK K hr1
  try simp only [Act.put, List.setIfInBounds_toArray, List.set_cons_zero, List.set_cons_succ]
  refine wpAnyH_take (i := 12) (oi := ?oi12k) (v := ?v12k) ?hi12k ?hs12k ?hf12k ?hr12k ?hQ12k ?hy12k ?hS12k ?h12k
  case hi12k => exact (by simp only [List.getElem?_toArray, List.getElem?_cons_succ, List.getElem?_cons_zero]; rfl)
  case hs12k => kernel_rfl
  case hf12k => kernel_rfl
  case hr12k => kernel_rfl
  case hQ12k => exact fun _ _ _ h => h
  case hy12k =>
    refine Or.inl ⟨rfl, ?_⟩
    intro W hSw
    obtain ⟨q0, q1, q2, q3, q4⟩ := hSw
    go_simp
    try with_reducible rfl
  case hS12k => assumption
  try simp only [Act.put, List.setIfInBounds_toArray, List.set_cons_zero, List.set_cons_succ]
  refine wpAnyH_ready (rs := [13]) (by kernel_rfl) (by simp) ?_
  refine AllReadyH.cons (o := _) rfl (fun K hK => ?_) AllReadyH.nil
  have hqr := (HB1.out.block T (lt_of_block HQT.out)).trans HQT.out
  have x0 := cell_of_row _ T 0 _ _ _ hqr
  have x1 := cell_of_row _ T 1 _ _ _ hqr
  have x2 := cell_of_row _ T 2 _ _ _ hqr
  have x3 := cell_of_row _ T 3 _ _ _ hqr
  have x4 := cell_of_row _ T 4 _ _ _ hqr
  simp at x0 x1 x2 x3 x4
  have xf : ∀ i, W1.frozen? ⟨T, i, none⟩ = false := fun i => frozen_of_row _ _ i _ _ hqr
  go_simp
  obtain ⟨W9, hW9⟩ : ∃ W, W = (((((W1.setCell ⟨T, 0, none⟩ (.int .u32 (t.id : Int))).setCell ⟨T, 1, none⟩ (.int .i64 t.md)).setCell ⟨T, 2, none⟩ (.slice A1 s.n c1)).setCell ⟨T, 3, none⟩ (.int .i64 t.rt)).setCell ⟨T, 4, none⟩ (.int .i64 t.sn)) := ⟨_, rfl⟩
  have HC9 : Hid (W9.cell? ⟨T, 0, none⟩ = some (.int .u32 (t.id : Int)) ∧ W9.cell? ⟨T, 1, none⟩ = some (.int .i64 t.md) ∧ W9.cell? ⟨T, 2, none⟩ = some (.slice A1 s.n c1) ∧ W9.cell? ⟨T, 3, none⟩ = some (.int .i64 t.rt) ∧ W9.cell? ⟨T, 4, none⟩ = some (.int .i64 t.sn)) := by
    have h := three (.int .u32 (t.id : Int)) (.int .i64 t.md) (.slice A1 s.n c1) (.int .i64 t.rt) (.int .i64 t.sn) hqr
    rw [hW9]
    exact ⟨h.1, h.2.1, h.2.2.1, h.2.2.2.1, h.2.2.2.2.1⟩
  have HB9 : Hid (Below w.heap.size w W9) := by rw [hW9]; exact three_below (.int .u32 (t.id : Int)) (.int .i64 t.md) (.slice A1 s.n c1) (.int .i64 t.rt) (.int .i64 t.sn) (HB0.out.trans (HB1.out.mono HB0.out.size)) HTW.out
  have HG9 : Hid (W9.cell? ⟨G, 0, none⟩ = some (.int .u32 (t.id : Int)) ∧ W9.cell? ⟨G, 1, none⟩ = some (.int .i64 t.md) ∧ W9.cell? ⟨G, 2, none⟩ = some (.slice s.a s.n s.c) ∧ W9.cell? ⟨G, 3, none⟩ = some (.int .i64 t.rt) ∧ W9.cell? ⟨G, 4, none⟩ = some (.int .i64 t.sn)) := by
    obtain ⟨q0, q1, q2, q3, q4⟩ := HSS.out _ HB1.out
    have hk : ∀ i, W9.cell? ⟨G, i, none⟩ = W1.cell? ⟨G, i, none⟩ := fun i => World.cell?_of_block (by rw [hW9]; iterate 5 rw [Below.heap_setCell _ _ _ _ HNG.out])
    exact ⟨(hk 0).trans q0, (hk 1).trans q1, (hk 2).trans q2, (hk 3).trans q3, (hk 4).trans q4⟩
  have HO9 : Hid (W9.ownsRow w.heap.size 33 1 (.slice A1 s.n c1) s.n (un t.mem)) := by
    refine P.own_base' (P.own_after HO1.out fun g hg => ?_) (Nat.le_trans HB0.out.size HKE.out)
    obtain ⟨cur, hc⟩ := own_type HO1.out hg
    have hne : g ≠ T := fun e => by
      subst e
      rw [hqr] at hc
      injection hc with hc
      injection hc with _ hc
      exact absurd hc (by decide)
    rw [hW9]
    iterate 5 rw [Below.heap_setCell _ _ _ _ hne]
  rw [← hW9]
  clear hW9 hqr xf x0 x1 x2 x3 x4
  refine hK.out _ _ HG9.out (fun hHeld => ?_)
  clear hK K
  try simp only [Act.put, List.setIfInBounds_toArray, List.set_cons_zero, List.set_cons_succ]
  refine wpAnyH_done (by kernel_rfl) ?_ _
  go_wp2_with fail
  obtain ⟨e0, e1, e2, e3, e4⟩ := HC9.out
  exact bodyPost_ret (v := .agg (mC t.id t.md ⟨A1, s.n, c1⟩ t.rt t.sn)) (by simp [results, Tryz.results12, go_sem, e0, e1, e2, e3, e4]) rfl ⟨A1, c1, rfl, HO9.out, HB9.out⟩
end Go.Proofs.YtemjmnpclknfaaaGreat.T

/- Queue: tickets that came in. -/
namespace Go.Proofs.YtemjmnpclknfaaaGreat.T
open Go.RowKit Go.Maps Go.ChangeShapes
open Go.Joins
open Go.Proofs.YtemjmnpclknfaaaGreat.P (Sl un)
set_option maxRecDepth 20000
set_option linter.unusedVariables false
set_option linter.unusedSimpArgs false

theorem nums_of {H : Type} {enc : TypeId × Value → H} {W : World} {m : Nat} {c0 : Value} {y0 : DataW H × List MemPlace} (h : DataW.trod enc Tryz.prog W 0 (fun _ => true) true m 34 [c0] = some y0) :
    ∃ (A : Option Addr) (c : Nat) (l : List Nat), c0 = .slice A l.length c ∧ P.Rn W A l ∧ l.length ≤ 9223372036854775807 ∧ l.length ≤ c ∧ ∀ e ∈ l, e < 4294967296 := by
  have k26 : Tryz.prog.cellsOf 33 = 1 := by kernel_rfl
  rcases Deep.open_slice Tryz.underlying34 h with ⟨hcs, _⟩ | ⟨a, n, c, m, k, D, Pl, hcs, _, hl, hm, hmm, _, hx⟩
  · simp at hcs
    subst hcs
    exact ⟨none, 0, [], rfl, fun h => by simp at h, by simp, by simp, fun e he => by cases he⟩
  · simp at hcs
    subst hcs
    rw [k26] at hx
    have each : ∀ i, i < n → ∃ e : Nat, e < 4294967296 ∧ W.cell? (a.add (i * 1)) = some (.int .u32 (e : Int)) := fun i hi => by
      obtain ⟨cs', h1, h2⟩ := hx i (by rw [hmm]; simp; omega)
      obtain ⟨_, hlen, hcell⟩ := World.cells?_some h1
      match cs', hlen with
      | [c0], _ =>
        obtain ⟨x0, e0, _, w0⟩ := DataW.trod_int Tryz.underlying33 h2
        simp only [List.cons.injEq, and_true] at e0
        subst e0
        have b0 := bounds_u32 w0
        have q0 := hcell 0 (by omega)
        rw [Deep.add_add] at q0
        exact ⟨x0.toNat, by omega, by simpa [show (x0.toNat : Int) = x0 by omega] using q0⟩
    obtain ⟨f, hf⟩ := Deep.choose_lt each
    refine ⟨some a, c, (List.range n).map f, by simp, fun h0 => ?_, by unfold maxLen at hm; simp; omega, by simpa using hl, fun e he => ?_⟩
    · simp at h0
      have hc0 := (hf 0 h0).2
      obtain ⟨b, off, spot⟩ := a
      have hspot : spot = none := by simpa [Addr.add] using World.cell?_spot hc0
      subst hspot
      refine ⟨b, off, rfl, World.block_lt_of_cell? W ⟨b, off + 0 * 1, none⟩ (by rw [← Go.WideShapes.add_plain]; exact hc0), fun i e he => ?_⟩
      rw [List.getElem?_map] at he
      obtain ⟨i', hi', rfl⟩ := Option.map_eq_some_iff.1 he
      obtain ⟨hin, rfl⟩ := List.getElem?_eq_some_iff.1 hi'
      simp at hin
      simp only [List.getElem_range]
      obtain ⟨_, r0⟩ := hf i hin
      rw [Go.WideShapes.add_plain, Nat.mul_one] at r0
      exact r0
    · obtain ⟨i, hi, rfl⟩ := List.mem_map.1 he
      exact (hf i (List.mem_range.1 hi)).1
/-- A ticket that came in: where its players lie. -/
structure Tc where
  a : Option Addr
  c : Nat
  t : Tk
instance : Inhabited Tc := ⟨⟨none, 0, ⟨0, 0, [], 0, 0⟩⟩⟩
abbrev tC (e : Tc) : Array Value := #[.int .u32 (e.t.id : Int), .int .i64 e.t.md, .slice e.a e.t.mem.length e.c, .int .i64 e.t.rt, .int .i64 e.t.sn]
def Rk (w : World) (e : Tc) : Prop := P.Rn w e.a e.t.mem ∧ e.t.mem.length ≤ 9223372036854775807 ∧ e.t.id < 4294967296 ∧ (∀ x ∈ e.t.mem, x < 4294967296) ∧ (-9223372036854775808 ≤ e.t.md ∧ e.t.md < 9223372036854775808)
theorem tic_of {H : Type} {enc : TypeId × Value → H} {W : World} {m : Nat} {c0 c1 c2 c3 c4 : Value} {y : DataW H × List MemPlace} (h : DataW.trod enc Tryz.prog W 0 (fun _ => true) true m 36 [c0, c1, c2, c3, c4] = some y) :
    ∃ e : Tc, #[c0, c1, c2, c3, c4] = tC e ∧ Rk W e := by
  have k26 : Tryz.prog.cellsOf 33 = 1 := by kernel_rfl
  have k3 : Tryz.prog.cellsOf 3 = 1 := by kernel_rfl
  have k27 : Tryz.prog.cellsOf 34 = 1 := by kernel_rfl
  have k2 : Tryz.prog.cellsOf 2 = 1 := by kernel_rfl
  obtain ⟨xs, m', _, _, _, hlen', hx'⟩ := DataW.trod_struct Tryz.underlying36 h
  match xs, hlen' with
  | [y0, y1, y2, y3, y4], _ =>
    have g0 : DataW.trod enc Tryz.prog W 0 (fun _ => true) true m' 33 [c0] = some y0 := by simpa [Value.cells, k26] using hx' 0 _ rfl
    have g1 : DataW.trod enc Tryz.prog W 0 (fun _ => true) true m' 3 [c1] = some y1 := by simpa [Value.cells, k26, k3] using hx' 1 _ rfl
    have g2 : DataW.trod enc Tryz.prog W 0 (fun _ => true) true m' 34 [c2] = some y2 := by simpa [Value.cells, k26, k3, k27] using hx' 2 _ rfl
    have g3 : DataW.trod enc Tryz.prog W 0 (fun _ => true) true m' 3 [c3] = some y3 := by simpa [Value.cells, k26, k3, k27] using hx' 3 _ rfl
    have g4 : DataW.trod enc Tryz.prog W 0 (fun _ => true) true m' 2 [c4] = some y4 := by simpa [Value.cells, k26, k3, k27, k2] using hx' 4 _ rfl
    obtain ⟨x0, e0, _, w0⟩ := DataW.trod_int Tryz.underlying33 g0
    obtain ⟨x1, e1, _, w1⟩ := DataW.trod_int Tryz.underlying3 g1
    obtain ⟨x3, e3, _, w3⟩ := DataW.trod_int Tryz.underlying3 g3
    obtain ⟨x4, e4, _, w4⟩ := DataW.trod_int Tryz.underlying2 g4
    simp only [List.cons.injEq, and_true] at e0 e1 e3 e4
    subst e0 e1 e3 e4
    obtain ⟨A, c, l, rfl, hr, hl, hlc, hlt⟩ := nums_of g2
    have b0 := bounds_u32 w0
    have b1 := bounds_i64 w1
    have b3 := bounds_i64 w3
    have b4 := bounds_i64 w4
    refine ⟨⟨A, c, ⟨x0.toNat, x1, l, x3, x4⟩⟩, ?_, hr, hl, by show x0.toNat < _; omega, hlt, by show _ ≤ x1; omega, by show x1 < _; omega⟩
    simp only [tC, show ((x0.toNat : Nat) : Int) = x0 by omega]
theorem open_tic {H : Type} {enc : TypeId × Value → H} {W : World} {r : Reach} {b0 : Nat} {v : Value} {d : DataW H} {q : List MemPlace} (hv : Value.okWide Tryz.prog W r b0 36 v) (h : DataW.Trod enc Tryz.prog W 0 (fun _ => true) true 36 v d q) :
    ∃ e : Tc, v = .agg (tC e) ∧ Rk W e := by
  obtain ⟨cs, rfl, hsz⟩ := WideShapes.okWide_struct Tryz.underlying36 hv
  obtain ⟨fuel, hf⟩ := h
  have h5 : cs.size = 5 := hsz.trans (show Tryz.prog.cellsOf 36 = 5 by kernel_rfl)
  obtain ⟨l, rfl⟩ : ∃ l, cs = List.toArray l := ⟨cs.toList, by simp⟩
  match l, h5 with
  | [c0, c1, c2, c3, c4], _ =>
    obtain ⟨e, h1, h2⟩ := tic_of (c0 := c0) (c1 := c1) (c2 := c2) (c3 := c3) (c4 := c4) hf
    exact ⟨e, by rw [← h1], h2⟩
/-- The acts l are read from A on. -/
def Ts (w : World) (B : Nat) (A : Option Addr) (l : List Tc) : Prop :=
  0 < l.length → ∃ b o, A = some ⟨b, o, none⟩ ∧ b < B ∧ ∀ i e, l[i]? = some e → w.cell? ⟨b, o + i * 5, none⟩ = some (.int .u32 (e.t.id : Int)) ∧ w.cell? ⟨b, o + i * 5 + 1, none⟩ = some (.int .i64 e.t.md) ∧ w.cell? ⟨b, o + i * 5 + 2, none⟩ = some (.slice e.a e.t.mem.length e.c) ∧ w.cell? ⟨b, o + i * 5 + 3, none⟩ = some (.int .i64 e.t.rt) ∧ w.cell? ⟨b, o + i * 5 + 4, none⟩ = some (.int .i64 e.t.sn)
theorem open_tics {H : Type} {enc : TypeId × Value → H} {W : World} {r : Reach} {b0 : Nat} {v : Value} {d : DataW H} {q : List MemPlace} (hv : Value.okWide Tryz.prog W r b0 32 v) (h : DataW.Trod enc Tryz.prog W 0 (fun _ => true) true 32 v d q) :
    ∃ (p : Option Addr × Nat) (l : List Tc), v = .slice p.1 l.length p.2 ∧ Ts W W.heap.size p.1 l ∧ l.length ≤ 9223372036854775807 ∧ ∀ e ∈ l, Rk W e := by
  obtain ⟨A, n, c, rfl⟩ := WideShapes.okWide_slice Tryz.underlying32 hv
  obtain ⟨fuel, hf⟩ := h
  have c4 : Tryz.prog.cellsOf 36 = 5 := by kernel_rfl
  rcases Deep.open_slice Tryz.underlying32 hf with ⟨hcs, _⟩ | ⟨a, len, cap, m, k, D, Pl, hcs, _, hl, hm, hmm, _, hx⟩
  · simp [Value.cells] at hcs
    obtain ⟨rfl, rfl, rfl⟩ := hcs
    exact ⟨(none, 0), [], rfl, fun h => by simp at h, by simp, fun e he => by simp at he⟩
  · simp [Value.cells] at hcs
    obtain ⟨rfl, rfl, rfl⟩ := hcs
    rw [c4] at hx
    have each : ∀ i, i < n → ∃ e : Tc, Rk W e ∧ W.cell? (a.add (i * 5)) = some (.int .u32 (e.t.id : Int)) ∧ W.cell? (a.add (i * 5 + 1)) = some (.int .i64 e.t.md) ∧ W.cell? (a.add (i * 5 + 2)) = some (.slice e.a e.t.mem.length e.c) ∧ W.cell? (a.add (i * 5 + 3)) = some (.int .i64 e.t.rt) ∧ W.cell? (a.add (i * 5 + 4)) = some (.int .i64 e.t.sn) := fun i hi => by
      obtain ⟨cs', h1, h2⟩ := hx i (by rw [hmm]; simp; omega)
      obtain ⟨_, hlen, hcell⟩ := World.cells?_some h1
      match cs', hlen with
      | [x0, x1, x2, x3, x4], _ =>
        obtain ⟨e, he, hr⟩ := tic_of h2
        simp only [tC, Array.mk.injEq, List.cons.injEq, and_true] at he
        obtain ⟨rfl, rfl, rfl, rfl, rfl⟩ := he
        have q0 := hcell 0 (by omega)
        have q1 := hcell 1 (by omega)
        have q2 := hcell 2 (by omega)
        have q3 := hcell 3 (by omega)
        have q4 := hcell 4 (by omega)
        rw [Deep.add_add] at q0 q1 q2 q3 q4
        exact ⟨e, hr, by simpa using q0, by simpa using q1, by simpa using q2, by simpa using q3, by simpa using q4⟩
    obtain ⟨f, hf⟩ := Deep.choose_lt each
    refine ⟨(some a, c), (List.range n).map f, by simp, fun h0 => ?_, by unfold maxLen at hm; simp; omega, fun e he => by
      obtain ⟨i, hi, rfl⟩ := List.mem_map.1 he
      exact (hf i (List.mem_range.1 hi)).1⟩
    simp at h0
    have hc0 := (hf 0 h0).2.1
    obtain ⟨b, off, spot⟩ := a
    have hspot : spot = none := by simpa [Addr.add] using World.cell?_spot hc0
    subst hspot
    refine ⟨b, off, rfl, World.block_lt_of_cell? W ⟨b, off + 0 * 5, none⟩ (by rw [← Go.WideShapes.add_plain]; exact hc0), fun i e he => ?_⟩
    rw [List.getElem?_map] at he
    obtain ⟨i', hi', rfl⟩ := Option.map_eq_some_iff.1 he
    obtain ⟨hin, rfl⟩ := List.getElem?_eq_some_iff.1 hi'
    simp at hin
    simp only [List.getElem_range]
    have hq := (hf i hin).2
    rw [Go.WideShapes.add_plain, Go.WideShapes.add_plain, Go.WideShapes.add_plain, Go.WideShapes.add_plain, Go.WideShapes.add_plain] at hq
    exact ⟨hq.1, by rw [Nat.add_assoc]; exact hq.2.1, by rw [Nat.add_assoc]; exact hq.2.2.1, by rw [Nat.add_assoc]; exact hq.2.2.2.1, by rw [Nat.add_assoc]; exact hq.2.2.2.2⟩
end Go.Proofs.YtemjmnpclknfaaaGreat.T
