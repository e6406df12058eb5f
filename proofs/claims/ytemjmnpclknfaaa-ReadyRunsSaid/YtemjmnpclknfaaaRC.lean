/- Ready: the document's Same. -/
import Derived.Test.YtemjmnpclknfaaaRB
namespace Go.Proofs.Ytemjmnpclknfaaa.P
open Go.RowKit
set_option maxRecDepth 20000
set_option linter.unusedVariables false
set_option linter.unusedSimpArgs false

theorem S32.of_fl {w : World} {R : Nat} {vi : Value} {s : Sl} {l : List Nat} (h : Fl w R vi s l) : S32 w (.slice s.a s.n s.c) l := ⟨s.a, s.c, by rw [h.1], h.rn⟩
theorem S32.of_rn {w : World} {s : Sl} {l : List Nat} (h1 : s.n = l.length) (h : Rn w s.a l) : S32 w (.slice s.a s.n s.c) l := ⟨s.a, s.c, by rw [h1], h⟩
set_option maxHeartbeats 4000000 in
theorem same_eq (v v' : Value) (l : List Nat) (w : World) (hl : l.length ≤ 1000) (h : S32 w v l) (h' : S32 w v' l) :
    Calls Try.prog 15 #[v, v'] w fun r w' => r = .returned (.bool true) ∧ Below w.heap.size w w' := by
  obtain ⟨A, c, rfl, h1⟩ := h
  obtain ⟨B, d, rfl, h2⟩ := h'
  obtain ⟨n, hn⟩ : ∃ n, n = l.length := ⟨_, rfl⟩
  rw [← hn] at h1 h2 hl ⊢
  have H1 := Lib.hid h1
  have H2 := Lib.hid h2
  have HN := Lib.hid hn
  have HBr : Hid (Below w.heap.size w w) := Below.refl _ _
  clear h1 h2 hn
  go_enter Try.func15, Try.ntmps15
  go_wp2_with fail
  go_loopw [5] (fun u wr => ∃ k : Nat, k ≤ n ∧ u = .int .i64 (k : Int) ∧ Hid (Below w.heap.size w wr)) (fun u _ => n - (intOf u).toNat)
  case atStart => exact ⟨0, by omega, rfl, HBr.out⟩
  case round =>
    obtain ⟨k, hk, rfl, HV⟩ := hrel
    by_cases hlt : k < n
    · obtain ⟨b1, o1, rfl, hb1, ha1⟩ := H1.out (by omega)
      obtain ⟨b2, o2, rfl, hb2, ha2⟩ := H2.out (by omega)
      obtain ⟨y, hy⟩ : ∃ y, l[k]? = some y := ⟨l[k]'(by rw [← HN.out]; exact hlt), List.getElem?_eq_getElem _⟩
      have HD : Hid (Below w.heap.size w wr.drew) := HV.out.drew
      have HA1 : Hid (wr.drew.cell? ⟨b1, o1 + k, none⟩ = some (.int .u32 (y : Int))) := (HD.out.cell (p := ⟨b1, _, none⟩) hb1).trans (ha1 k y hy)
      have HA2 : Hid (wr.drew.cell? ⟨b2, o2 + k, none⟩ = some (.int .u32 (y : Int))) := (HD.out.cell (p := ⟨b2, _, none⟩) hb2).trans (ha2 k y hy)
      clear hy ha1 ha2 hb1 hb2
      go_upto_region 6 with (fail)
      have HSr : Hid ((fun W : World => W.cell? ⟨b1, o1 + k, none⟩ = some (.int .u32 (y : Int)) ∧ W.cell? ⟨b2, o2 + k, none⟩ = some (.int .u32 (y : Int))) wr.drew) := ⟨HA1.out, HA2.out⟩
      refine wp_region_held_drew (S := fun W : World => W.cell? ⟨b1, o1 + k, none⟩ = some (.int .u32 (y : Int)) ∧ W.cell? ⟨b2, o2 + k, none⟩ = some (.int .u32 (y : Int))) (by kernel_rfl) HSr.out (fun hHeld => ?_)
      obtain ⟨W0, hW0⟩ : ∃ W0, W0 = wr.drew := ⟨_, rfl⟩
      rw [← hW0] at hHeld HD HSr ⊢
      clear hW0
      refine wpAnyH_take (i := 0) (oi := ?oi0a) (v := ?v0a) ?hi0a ?hs0a ?hf0a ?hr0a ?hQ0a ?hy0a ?hS0a ?h0a
      case hi0a => exact (by simp only [List.getElem?_toArray, List.getElem?_cons_zero]; rfl)
      case hs0a => kernel_rfl
      case hf0a => kernel_rfl
      case hr0a => kernel_rfl
      case hQ0a => exact fun _ _ _ h => h
      case hy0a =>
        refine Or.inl ⟨rfl, ?_⟩
        intro W hSw
        obtain ⟨y0, y1⟩ := hSw
        go_simp
        try with_reducible rfl
      case hS0a => assumption
      try simp only [Act.put, List.setIfInBounds_toArray, List.set_cons_zero, List.set_cons_succ]
      refine wpAnyH_take (i := 1) (oi := ?oi1a) (v := ?v1a) ?hi1a ?hs1a ?hf1a ?hr1a ?hQ1a ?hy1a ?hS1a ?h1a
      case hi1a => exact (by simp only [List.getElem?_toArray, List.getElem?_cons_succ, List.getElem?_cons_zero]; rfl)
      case hs1a => kernel_rfl
      case hf1a => kernel_rfl
      case hr1a => kernel_rfl
      case hQ1a => exact fun _ _ _ h => h
      case hy1a =>
        refine Or.inl ⟨rfl, ?_⟩
        intro W hSw
        obtain ⟨y0, y1⟩ := hSw
        go_simp
        try with_reducible rfl
      case hS1a => assumption
      try simp only [Act.put, List.setIfInBounds_toArray, List.set_cons_zero, List.set_cons_succ]
      refine wpAnyH_take (i := 2) (oi := ?oi2a) (v := ?v2a) ?hi2a ?hs2a ?hf2a ?hr2a ?hQ2a ?hy2a ?hS2a ?h2a
      case hi2a => exact (by simp only [List.getElem?_toArray, List.getElem?_cons_succ, List.getElem?_cons_zero]; rfl)
      case hs2a => kernel_rfl
      case hf2a => kernel_rfl
      case hr2a => kernel_rfl
      case hQ2a => exact fun _ _ _ h => h
      case hy2a =>
        refine Or.inl ⟨rfl, ?_⟩
        intro W hSw
        obtain ⟨y0, y1⟩ := hSw
        go_simp
        try with_reducible rfl
      case hS2a => assumption
      try simp only [Act.put, List.setIfInBounds_toArray, List.set_cons_zero, List.set_cons_succ]
      refine wpAnyH_take (i := 3) (oi := ?oi3a) (v := ?v3a) ?hi3a ?hs3a ?hf3a ?hr3a ?hQ3a ?hy3a ?hS3a ?h3a
      case hi3a => exact (by simp only [List.getElem?_toArray, List.getElem?_cons_succ, List.getElem?_cons_zero]; rfl)
      case hs3a => kernel_rfl
      case hf3a => kernel_rfl
      case hr3a => kernel_rfl
      case hQ3a => exact fun _ _ _ h => h
      case hy3a =>
        refine Or.inl ⟨rfl, ?_⟩
        intro W hSw
        obtain ⟨y0, y1⟩ := hSw
        go_simp
        try with_reducible rfl
      case hS3a => assumption
      try simp only [Act.put, List.setIfInBounds_toArray, List.set_cons_zero, List.set_cons_succ]
      refine wpAnyH_take (i := 4) (oi := ?oi4a) (v := ?v4a) ?hi4a ?hs4a ?hf4a ?hr4a ?hQ4a ?hy4a ?hS4a ?h4a
      case hi4a => exact (by simp only [List.getElem?_toArray, List.getElem?_cons_succ, List.getElem?_cons_zero]; rfl)
      case hs4a => kernel_rfl
      case hf4a => kernel_rfl
      case hr4a => kernel_rfl
      case hQ4a => exact fun _ _ _ h => h
      case hy4a =>
        refine Or.inl ⟨rfl, ?_⟩
        intro W hSw
        obtain ⟨y0, y1⟩ := hSw
        go_simp
        try with_reducible rfl
      case hS4a => assumption
      try simp only [Act.put, List.setIfInBounds_toArray, List.set_cons_zero, List.set_cons_succ]
      refine wpAnyH_take (i := 5) (oi := ?oi5a) (v := ?v5a) ?hi5a ?hs5a ?hf5a ?hr5a ?hQ5a ?hy5a ?hS5a ?h5a
      case hi5a => exact (by simp only [List.getElem?_toArray, List.getElem?_cons_succ, List.getElem?_cons_zero]; rfl)
      case hs5a => kernel_rfl
      case hf5a => kernel_rfl
      case hr5a => kernel_rfl
      case hQ5a => exact fun _ _ _ h => h
      case hy5a =>
        refine Or.inl ⟨rfl, ?_⟩
        intro W hSw
        obtain ⟨y0, y1⟩ := hSw
        go_simp
        try with_reducible rfl
      case hS5a => assumption
      try simp only [Act.put, List.setIfInBounds_toArray, List.set_cons_zero, List.set_cons_succ]
      refine wpAnyH_take (i := 6) (oi := ?oi6a) (v := ?v6a) ?hi6a ?hs6a ?hf6a ?hr6a ?hQ6a ?hy6a ?hS6a ?h6a
      case hi6a => exact (by simp only [List.getElem?_toArray, List.getElem?_cons_succ, List.getElem?_cons_zero]; rfl)
      case hs6a => kernel_rfl
      case hf6a => kernel_rfl
      case hr6a => kernel_rfl
      case hQ6a => exact fun _ _ _ h => h
      case hy6a =>
        refine Or.inl ⟨rfl, ?_⟩
        intro W hSw
        obtain ⟨y0, y1⟩ := hSw
        go_simp
        try with_reducible rfl
      case hS6a => assumption
      try simp only [Act.put, List.setIfInBounds_toArray, List.set_cons_zero, List.set_cons_succ]
      refine wpAnyH_take (i := 7) (oi := ?oi7a) (v := ?v7a) ?hi7a ?hs7a ?hf7a ?hr7a ?hQ7a ?hy7a ?hS7a ?h7a
      case hi7a => exact (by simp only [List.getElem?_toArray, List.getElem?_cons_succ, List.getElem?_cons_zero]; rfl)
      case hs7a => kernel_rfl
      case hf7a => kernel_rfl
      case hr7a => kernel_rfl
      case hQ7a => exact fun _ _ _ h => h
      case hy7a =>
        refine Or.inl ⟨rfl, ?_⟩
        intro W hSw
        obtain ⟨y0, y1⟩ := hSw
        go_simp
        try with_reducible rfl
      case hS7a => assumption
      try simp only [Act.put, List.setIfInBounds_toArray, List.set_cons_zero, List.set_cons_succ]
      refine wpAnyH_take (i := 8) (oi := ?oi8a) (v := ?v8a) ?hi8a ?hs8a ?hf8a ?hr8a ?hQ8a ?hy8a ?hS8a ?h8a
      case hi8a => exact (by simp only [List.getElem?_toArray, List.getElem?_cons_succ, List.getElem?_cons_zero]; rfl)
      case hs8a => kernel_rfl
      case hf8a => kernel_rfl
      case hr8a => kernel_rfl
      case hQ8a => exact fun _ _ _ h => h
      case hy8a =>
        refine Or.inl ⟨rfl, ?_⟩
        intro W hSw
        obtain ⟨y0, y1⟩ := hSw
        go_simp
        try with_reducible rfl
      case hS8a => assumption
      try simp only [Act.put, List.setIfInBounds_toArray, List.set_cons_zero, List.set_cons_succ]
      refine wpAnyH_done (by kernel_rfl) ?_ _
      go_wp2
      go_roundw
      case rel => exact ⟨k + 1, by omega, by go_num, HD.out⟩
      case measure => simp [intOf] <;> omega
    · have hkn : k = n := by omega
      subst hkn
      go_wp2
      go_ret
      exact ⟨rfl, HV.out⟩





set_option maxHeartbeats 4000000 in
theorem same_any (x : Nat) (l : Int) (m v m2 v2 : Sl) (L1 L2 : List Nat) (w : World) (f1 : S32 w (.slice m.a m.n m.c) L1) (f2 : S32 w (.slice v.a v.n v.c) L2) (g1 : S32 w (.slice m2.a m2.n m2.c) L1) (g2 : S32 w (.slice v2.a v2.n v2.c) L2) (h1 : L1.length ≤ 100) (h2 : L2.length ≤ 100) :
    Calls Try.prog 39 #[.agg (dC x l m v), .agg (dC x l m2 v2)] w fun r w' => r = .returned (.bool true) ∧ Below w.heap.size w w' := by
  obtain ⟨X, hX⟩ : ∃ X, X = w.heap.size := ⟨_, rfl⟩
  obtain ⟨Y, hY⟩ : ∃ Y, Y = w.heap.size + 1 := ⟨_, rfl⟩
  obtain ⟨w0, hw0⟩ : ∃ w0, w0 = (w.alloc (.cells #[.int .u32 (x : Int), .slice m.a m.n m.c, .slice v.a v.n v.c, .int .i64 l] 36)).alloc (.cells #[.int .u32 (x : Int), .slice m2.a m2.n m2.c, .slice v2.a v2.n v2.c, .int .i64 l] 36) := ⟨_, rfl⟩
  have hb0 : Below w.heap.size w w0 := by rw [hw0]; exact ((Below.refl _ _).alloc (Nat.le_refl _) _).alloc (by simp) _
  have hp0 : w0.heap[X]? = some (.cells #[.int .u32 (x : Int), .slice m.a m.n m.c, .slice v.a v.n v.c, .int .i64 l] 36 (0, 0)) := by
    rw [hw0, hX]
    exact (Below.heap_alloc _ _ _ (by simp)).trans (heap_alloc_new w _)
  have hq0 : w0.heap[Y]? = some (.cells #[.int .u32 (x : Int), .slice m2.a m2.n m2.c, .slice v2.a v2.n v2.c, .int .i64 l] 36 (0, 0)) := by
    have h := heap_alloc_new (w.alloc (.cells #[.int .u32 (x : Int), .slice m.a m.n m.c, .slice v.a v.n v.c, .int .i64 l] 36)) (.cells #[.int .u32 (x : Int), .slice m2.a m2.n m2.c, .slice v2.a v2.n v2.c, .int .i64 l] 36)
    rw [World.size_alloc] at h
    rw [hw0, hY]
    exact h
  have H0 := Lib.hid hw0
  have HB0 := Lib.hid hb0
  have HP0 := Lib.hid hp0
  have HQ0 := Lib.hid hq0
  have HXX := Lib.hid hX
  have HYY := Lib.hid hY
  have z0 := cell_of_row w0 X 0 _ _ _ hp0
  have z1 := cell_of_row w0 X 1 _ _ _ hp0
  have z2 := cell_of_row w0 X 2 _ _ _ hp0
  have z3 := cell_of_row w0 X 3 _ _ _ hp0
  simp at z0 z1 z2 z3
  have y0 := cell_of_row w0 Y 0 _ _ _ hq0
  have y1 := cell_of_row w0 Y 1 _ _ _ hq0
  have y2 := cell_of_row w0 Y 2 _ _ _ hq0
  have y3 := cell_of_row w0 Y 3 _ _ _ hq0
  simp at y0 y1 y2 y3
  have HS1 := Lib.hid (same_eq (.slice m.a m.n m.c) (.slice m2.a m2.n m2.c) L1 w0 (by omega) (f1.after hb0) (g1.after hb0))
  have HF : Hid (S32 w0 (.slice v.a v.n v.c) L2 ∧ S32 w0 (.slice v2.a v2.n v2.c) L2 ∧ L2.length ≤ 100) := ⟨f2.after hb0, g2.after hb0, h2⟩
  clear hw0 hb0 hp0 hq0 hX hY f1 f2 g1 g2 h1 h2
  go_enter Try.func39, Try.ntmps39
  go_upto_region 1 with (fail)
  rw [← H0.out, ← HYY.out, ← HXX.out]
  go_wp2_with fail
  refine HS1.out.mono ?_
  rintro r w1 ⟨rfl, hb1⟩
  have hp1 := (hb1.block _ (lt_of_block HP0.out)).trans HP0.out
  have hq1 := (hb1.block _ (lt_of_block HQ0.out)).trans HQ0.out
  clear z0 z1 z2 z3 y0 y1 y2 y3
  have z0 := cell_of_row w1 X 0 _ _ _ hp1
  have z1 := cell_of_row w1 X 1 _ _ _ hp1
  have z2 := cell_of_row w1 X 2 _ _ _ hp1
  have z3 := cell_of_row w1 X 3 _ _ _ hp1
  simp at z0 z1 z2 z3
  have y0 := cell_of_row w1 Y 0 _ _ _ hq1
  have y1 := cell_of_row w1 Y 1 _ _ _ hq1
  have y2 := cell_of_row w1 Y 2 _ _ _ hq1
  have y3 := cell_of_row w1 Y 3 _ _ _ hq1
  simp at y0 y1 y2 y3
  have HS2 := Lib.hid (same_eq (.slice v.a v.n v.c) (.slice v2.a v2.n v2.c) L2 w1 (by have := HF.out.2.2; omega) (HF.out.1.after hb1) (HF.out.2.1.after hb1))
  have HB1 : Hid (Below w.heap.size w w1) := HB0.out.trans (hb1.mono HB0.out.size)
  clear hp1 hq1 hb1
  go_wp2_with fail
  refine HS2.out.mono ?_
  rintro r w2 ⟨rfl, hb2⟩
  have HB2 : Hid (Below w.heap.size w w2) := HB1.out.trans (hb2.mono HB1.out.size)
  clear hb2
  go_wp2
  go_ret
  exact ⟨rfl, HB2.out⟩
end Go.Proofs.Ytemjmnpclknfaaa.P
