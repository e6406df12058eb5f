/- Party: no id is free; two rows of numbers that are alike. -/
import Derived.Test.YtjlpmdokmfmdiaaPF
namespace Go.Proofs.Ytjlpmdokmfmdiaa.P
open Go.RowKit
set_option maxRecDepth 20000
set_option linter.unusedVariables false
set_option linter.unusedSimpArgs false

set_option maxHeartbeats 2000000 in
theorem free_full (R : Nat) (most : Int) (vi vt : Value) (ids : List Nat) (ths : List Mk) (w : World) (h : IsR w R most vi vt ids ths) (hf : min most 2147483647 ≤ (ids.length : Int)) :
    Calls Try.prog 124 #[.pointer (some ⟨R, 0, none⟩)] w fun r w' => r = .returned (.int .u32 0) ∧ Below w.heap.size w w' := by
  obtain ⟨w0, hw0⟩ : ∃ w0, w0 = w.alloc (.cells #[.pointer (some ⟨R, 0, none⟩)] 109) := ⟨_, rfl⟩
  have hb0 : Below w.heap.size w w0 := by rw [hw0]; exact (Below.refl _ _).alloc (Nat.le_refl _) _
  have hp0 : w0.heap[w.heap.size]? = some (.cells #[.pointer (some ⟨R, 0, none⟩)] 109 (0, 0)) := by rw [hw0]; exact heap_alloc_new w _
  have c0 := cell_of_one hp0
  have HF := Lib.hid (full_any R most vi vt ids ths w0 (h.after hb0))
  have hfd : decide (min most 2147483647 ≤ (ids.length : Int)) = true := by rw [decide_eq_true_iff]; exact hf
  rw [hfd] at HF
  have H0 := Lib.hid hw0
  clear h hf hfd hw0 hp0
  go_enter Try.func124, Try.ntmps124
  go_upto_region 1 with (fail)
  rw [← H0.out]
  go_wp2_with fail
  refine HF.out.mono ?_
  rintro r w1 ⟨rfl, hb1⟩
  go_wp2
  go_ret
  exact ⟨rfl, hb0.trans (hb1.mono hb0.size)⟩

set_option maxHeartbeats 4000000 in
theorem same_eq (v v' : Value) (l : List Nat) (w : World) (hl : l.length ≤ 1000) (h : S32 w v l) (h' : S32 w v' l) :
    Calls Try.prog 27 #[v, v'] w fun r w' => r = .returned (.bool true) ∧ Below w.heap.size w w' := by
  obtain ⟨A, c, rfl, h1⟩ := h
  obtain ⟨B, d, rfl, h2⟩ := h'
  obtain ⟨n, hn⟩ : ∃ n, n = l.length := ⟨_, rfl⟩
  rw [← hn] at h1 h2 hl ⊢
  have H1 := Lib.hid h1
  have H2 := Lib.hid h2
  have HN := Lib.hid hn
  have HBr : Hid (Below w.heap.size w w) := Below.refl _ _
  clear h1 h2 hn
  go_enter Try.func27, Try.ntmps27
  go_wp2_with fail
  go_loopw [5] (fun u wr => ∃ k : Nat, k ≤ n ∧ u = .int .i64 (k : Int) ∧ Hid (Below w.heap.size w wr)) (fun u _ => n - (intOf u).toNat)
  case atStart => exact ⟨0, by omega, rfl, HBr.out⟩
  case round =>
    obtain ⟨k, hk, rfl, HV⟩ := hrel
    by_cases hlt : k < n
    · obtain ⟨b1, o1, rfl, hb1, ha1⟩ := H1.out (by omega)
      obtain ⟨b2, o2, rfl, hb2, ha2⟩ := H2.out (by omega)
      obtain ⟨y, hy⟩ : ∃ y, l[k]? = some y := ⟨l[k]'(by rw [← HN.out]; exact hlt), List.getElem?_eq_getElem _⟩
      have HD : Hid (Below w.heap.size w wr.drew) := HV.out.drew
      have HA1 : Hid (wr.drew.cell? ⟨b1, o1 + k, none⟩ = some (.int .u32 (y : Int))) := (HD.out.cell (p := ⟨b1, _, none⟩) hb1).trans (ha1 k y hy)
      have HA2 : Hid (wr.drew.cell? ⟨b2, o2 + k, none⟩ = some (.int .u32 (y : Int))) := (HD.out.cell (p := ⟨b2, _, none⟩) hb2).trans (ha2 k y hy)
      clear hy ha1 ha2 hb1 hb2
      go_upto_region 6 with (fail)
      have HSr : Hid ((fun W : World => W.cell? ⟨b1, o1 + k, none⟩ = some (.int .u32 (y : Int)) ∧ W.cell? ⟨b2, o2 + k, none⟩ = some (.int .u32 (y : Int))) wr.drew) := ⟨HA1.out, HA2.out⟩
      refine wp_region_held_drew (S := fun W : World => W.cell? ⟨b1, o1 + k, none⟩ = some (.int .u32 (y : Int)) ∧ W.cell? ⟨b2, o2 + k, none⟩ = some (.int .u32 (y : Int))) (by kernel_rfl) HSr.out (fun hHeld => ?_)
      obtain ⟨W0, hW0⟩ : ∃ W0, W0 = wr.drew := ⟨_, rfl⟩
      rw [← hW0] at hHeld HD HSr ⊢
      clear hW0
      refine wpAnyH_take (i := 0) (oi := ?oi0a) (v := ?v0a) ?hi0a ?hs0a ?hf0a ?hr0a ?hQ0a ?hy0a ?hS0a ?h0a
      case hi0a => exact (by simp only [List.getElem?_toArray, List.getElem?_cons_zero]; rfl)
      case hs0a => kernel_rfl
      case hf0a => kernel_rfl
      case hr0a => kernel_rfl
      case hQ0a => exact fun _ _ _ h => h
      case hy0a =>
        refine Or.inl ⟨rfl, ?_⟩
        intro W hSw
        obtain ⟨y0, y1⟩ := hSw
        go_simp
        try with_reducible rfl
      case hS0a => assumption
      try simp only [Act.put, List.setIfInBounds_toArray, List.set_cons_zero, List.set_cons_succ]
      refine wpAnyH_take (i := 1) (oi := ?oi1a) (v := ?v1a) ?hi1a ?hs1a ?hf1a ?hr1a ?hQ1a ?hy1a ?hS1a ?h1a
      case hi1a => exact (by simp only [List.getElem?_toArray, List.getElem?_cons_succ, List.getElem?_cons_zero]; rfl)
      case hs1a => kernel_rfl
      case hf1a => kernel_rfl
      case hr1a => kernel_rfl
      case hQ1a => exact fun _ _ _ h => h
      case hy1a =>
        refine Or.inl ⟨rfl, ?_⟩
        intro W hSw
        obtain ⟨y0, y1⟩ := hSw
        go_simp
        try with_reducible rfl
      case hS1a => assumption
      try simp only [Act.put, List.setIfInBounds_toArray, List.set_cons_zero, List.set_cons_succ]
      refine wpAnyH_take (i := 2) (oi := ?oi2a) (v := ?v2a) ?hi2a ?hs2a ?hf2a ?hr2a ?hQ2a ?hy2a ?hS2a ?h2a
      case hi2a => exact (by simp only [List.getElem?_toArray, List.getElem?_cons_succ, List.getElem?_cons_zero]; rfl)
      case hs2a => kernel_rfl
      case hf2a => kernel_rfl
      case hr2a => kernel_rfl
      case hQ2a => exact fun _ _ _ h => h
      case hy2a =>
        refine Or.inl ⟨rfl, ?_⟩
        intro W hSw
        obtain ⟨y0, y1⟩ := hSw
        go_simp
        try with_reducible rfl
      case hS2a => assumption
      try simp only [Act.put, List.setIfInBounds_toArray, List.set_cons_zero, List.set_cons_succ]
      refine wpAnyH_take (i := 3) (oi := ?oi3a) (v := ?v3a) ?hi3a ?hs3a ?hf3a ?hr3a ?hQ3a ?hy3a ?hS3a ?h3a
      case hi3a => exact (by simp only [List.getElem?_toArray, List.getElem?_cons_succ, List.getElem?_cons_zero]; rfl)
      case hs3a => kernel_rfl
      case hf3a => kernel_rfl
      case hr3a => kernel_rfl
      case hQ3a => exact fun _ _ _ h => h
      case hy3a =>
        refine Or.inl ⟨rfl, ?_⟩
        intro W hSw
        obtain ⟨y0, y1⟩ := hSw
        go_simp
        try with_reducible rfl
      case hS3a => assumption
      try simp only [Act.put, List.setIfInBounds_toArray, List.set_cons_zero, List.set_cons_succ]
      refine wpAnyH_take (i := 4) (oi := ?oi4a) (v := ?v4a) ?hi4a ?hs4a ?hf4a ?hr4a ?hQ4a ?hy4a ?hS4a ?h4a
      case hi4a => exact (by simp only [List.getElem?_toArray, List.getElem?_cons_succ, List.getElem?_cons_zero]; rfl)
      case hs4a => kernel_rfl
      case hf4a => kernel_rfl
      case hr4a => kernel_rfl
      case hQ4a => exact fun _ _ _ h => h
      case hy4a =>
        refine Or.inl ⟨rfl, ?_⟩
        intro W hSw
        obtain ⟨y0, y1⟩ := hSw
        go_simp
        try with_reducible rfl
      case hS4a => assumption
      try simp only [Act.put, List.setIfInBounds_toArray, List.set_cons_zero, List.set_cons_succ]
      refine wpAnyH_take (i := 5) (oi := ?oi5a) (v := ?v5a) ?hi5a ?hs5a ?hf5a ?hr5a ?hQ5a ?hy5a ?hS5a ?h5a
      case hi5a => exact (by simp only [List.getElem?_toArray, List.getElem?_cons_succ, List.getElem?_cons_zero]; rfl)
      case hs5a => kernel_rfl
      case hf5a => kernel_rfl
      case hr5a => kernel_rfl
      case hQ5a => exact fun _ _ _ h => h
      case hy5a =>
        refine Or.inl ⟨rfl, ?_⟩
        intro W hSw
        obtain ⟨y0, y1⟩ := hSw
        go_simp
        try with_reducible rfl
      case hS5a => assumption
      try simp only [Act.put, List.setIfInBounds_toArray, List.set_cons_zero, List.set_cons_succ]
      refine wpAnyH_take (i := 6) (oi := ?oi6a) (v := ?v6a) ?hi6a ?hs6a ?hf6a ?hr6a ?hQ6a ?hy6a ?hS6a ?h6a
      case hi6a => exact (by simp only [List.getElem?_toArray, List.getElem?_cons_succ, List.getElem?_cons_zero]; rfl)
      case hs6a => kernel_rfl
      case hf6a => kernel_rfl
      case hr6a => kernel_rfl
      case hQ6a => exact fun _ _ _ h => h
      case hy6a =>
        refine Or.inl ⟨rfl, ?_⟩
        intro W hSw
        obtain ⟨y0, y1⟩ := hSw
        go_simp
        try with_reducible rfl
      case hS6a => assumption
      try simp only [Act.put, List.setIfInBounds_toArray, List.set_cons_zero, List.set_cons_succ]
      refine wpAnyH_take (i := 7) (oi := ?oi7a) (v := ?v7a) ?hi7a ?hs7a ?hf7a ?hr7a ?hQ7a ?hy7a ?hS7a ?h7a
      case hi7a => exact (by simp only [List.getElem?_toArray, List.getElem?_cons_succ, List.getElem?_cons_zero]; rfl)
      case hs7a => kernel_rfl
      case hf7a => kernel_rfl
      case hr7a => kernel_rfl
      case hQ7a => exact fun _ _ _ h => h
      case hy7a =>
        refine Or.inl ⟨rfl, ?_⟩
        intro W hSw
        obtain ⟨y0, y1⟩ := hSw
        go_simp
        try with_reducible rfl
      case hS7a => assumption
      try simp only [Act.put, List.setIfInBounds_toArray, List.set_cons_zero, List.set_cons_succ]
      refine wpAnyH_take (i := 8) (oi := ?oi8a) (v := ?v8a) ?hi8a ?hs8a ?hf8a ?hr8a ?hQ8a ?hy8a ?hS8a ?h8a
      case hi8a => exact (by simp only [List.getElem?_toArray, List.getElem?_cons_succ, List.getElem?_cons_zero]; rfl)
      case hs8a => kernel_rfl
      case hf8a => kernel_rfl
      case hr8a => kernel_rfl
      case hQ8a => exact fun _ _ _ h => h
      case hy8a =>
        refine Or.inl ⟨rfl, ?_⟩
        intro W hSw
        obtain ⟨y0, y1⟩ := hSw
        go_simp
        try with_reducible rfl
      case hS8a => assumption
      try simp only [Act.put, List.setIfInBounds_toArray, List.set_cons_zero, List.set_cons_succ]
      refine wpAnyH_done (by kernel_rfl) ?_ _
      go_wp2
      go_roundw
      case rel => exact ⟨k + 1, by omega, by go_num, HD.out⟩
      case measure => simp [intOf] <;> omega
    · have hkn : k = n := by omega
      subst hkn
      go_wp2
      go_ret
      exact ⟨rfl, HV.out⟩





end Go.Proofs.Ytjlpmdokmfmdiaa.P
