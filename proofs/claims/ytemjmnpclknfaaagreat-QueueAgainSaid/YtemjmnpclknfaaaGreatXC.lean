/- Queue: the document's Same; calls on no queue. -/
import Derived.Test.YtemjmnpclknfaaaGreatXB
import Derived.Test.YtemjmnpclknfaaaGreatM4
namespace Go.Proofs.YtemjmnpclknfaaaGreat.T
open Go.RowKit
open Go.Proofs.YtemjmnpclknfaaaGreat.P (Sl un)
set_option maxRecDepth 20000
set_option linter.unusedVariables false
set_option linter.unusedSimpArgs false

def S32 (w : World) (v : Value) (l : List Nat) : Prop := ∃ A c, v = .slice A l.length c ∧ (0 < l.length → ∃ b o, A = some ⟨b, o, none⟩ ∧ b < w.heap.size ∧ At32 w b o l)
set_option maxHeartbeats 4000000 in
theorem same_eq (v v' : Value) (l : List Nat) (w : World) (hl : l.length ≤ 1000) (h : S32 w v l) (h' : S32 w v' l) :
    Calls Tryz.prog 21 #[v, v'] w fun r w' => r = .returned (.bool true) ∧ Below w.heap.size w w' := by
  obtain ⟨A, c, rfl, h1⟩ := h
  obtain ⟨B, d, rfl, h2⟩ := h'
  obtain ⟨n, hn⟩ : ∃ n, n = l.length := ⟨_, rfl⟩
  rw [← hn] at h1 h2 hl ⊢
  have H1 := Lib.hid h1
  have H2 := Lib.hid h2
  have HN := Lib.hid hn
  have HBr : Hid (Below w.heap.size w w) := Below.refl _ _
  clear h1 h2 hn
  go_enter Tryz.func21, Tryz.ntmps21
  go_wp2_with fail
  go_loopw [5] (fun u wr => ∃ k : Nat, k ≤ n ∧ u = .int .i64 (k : Int) ∧ Hid (Below w.heap.size w wr)) (fun u _ => n - (intOf u).toNat)
  case atStart => exact ⟨0, by omega, rfl, HBr.out⟩
  case round =>
    obtain ⟨k, hk, rfl, HV⟩ := hrel
    by_cases hlt : k < n
    · obtain ⟨b1, o1, rfl, hb1, ha1⟩ := H1.out (by omega)
      obtain ⟨b2, o2, rfl, hb2, ha2⟩ := H2.out (by omega)
      obtain ⟨y, hy⟩ : ∃ y, l[k]? = some y := ⟨l[k]'(by rw [← HN.out]; exact hlt), List.getElem?_eq_getElem _⟩
      have HD : Hid (Below w.heap.size w wr.drew) := HV.out.drew
      have HA1 : Hid (wr.drew.cell? ⟨b1, o1 + k, none⟩ = some (.int .u32 (y : Int))) := (HD.out.cell (p := ⟨b1, _, none⟩) hb1).trans (ha1 k y hy)
      have HA2 : Hid (wr.drew.cell? ⟨b2, o2 + k, none⟩ = some (.int .u32 (y : Int))) := (HD.out.cell (p := ⟨b2, _, none⟩) hb2).trans (ha2 k y hy)
      clear hy ha1 ha2 hb1 hb2
      go_upto_region 6 with (fail)
      have HSr : Hid ((fun W : World => W.cell? ⟨b1, o1 + k, none⟩ = some (.int .u32 (y : Int)) ∧ W.cell? ⟨b2, o2 + k, none⟩ = some (.int .u32 (y : Int))) wr.drew) := ⟨HA1.out, HA2.out⟩
      refine wp_region_held_drew (S := fun W : World => W.cell? ⟨b1, o1 + k, none⟩ = some (.int .u32 (y : Int)) ∧ W.cell? ⟨b2, o2 + k, none⟩ = some (.int .u32 (y : Int))) (by kernel_rfl) HSr.out (fun hHeld => ?_)
      obtain ⟨W0, hW0⟩ : ∃ W0, W0 = wr.drew := ⟨_, rfl⟩
      rw [← hW0] at hHeld HD HSr ⊢
      clear hW0
      refine wpAnyH_take (i := 0) (oi := ?oi0a) (v := ?v0a) ?hi0a ?hs0a ?hf0a ?hr0a ?hQ0a ?hy0a ?hS0a ?h0a
      case hi0a => exact (by simp only [List.getElem?_toArray, List.getElem?_cons_zero]; rfl)
      case hs0a => kernel_rfl
      case hf0a => kernel_rfl
      case hr0a => kernel_rfl
      case hQ0a => exact fun _ _ _ h => h
      case hy0a =>
        refine Or.inl ⟨rfl, ?_⟩
        intro W hSw
        obtain ⟨y0, y1⟩ := hSw
        go_simp
        try with_reducible rfl
      case hS0a => assumption
      try simp only [Act.put, List.setIfInBounds_toArray, List.set_cons_zero, List.set_cons_succ]
      refine wpAnyH_take (i := 1) (oi := ?oi1a) (v := ?v1a) ?hi1a ?hs1a ?hf1a ?hr1a ?hQ1a ?hy1a ?hS1a ?h1a
      case hi1a => exact (by simp only [List.getElem?_toArray, List.getElem?_cons_succ, List.getElem?_cons_zero]; rfl)
      case hs1a => kernel_rfl
      case hf1a => kernel_rfl
      case hr1a => kernel_rfl
      case hQ1a => exact fun _ _ _ h => h
      case hy1a =>
        refine Or.inl ⟨rfl, ?_⟩
        intro W hSw
        obtain ⟨y0, y1⟩ := hSw
        go_simp
        try with_reducible rfl
      case hS1a => assumption
      try simp only [Act.put, List.setIfInBounds_toArray, List.set_cons_zero, List.set_cons_succ]
      refine wpAnyH_take (i := 2) (oi := ?oi2a) (v := ?v2a) ?hi2a ?hs2a ?hf2a ?hr2a ?hQ2a ?hy2a ?hS2a ?h2a
      case hi2a => exact (by simp only [List.getElem?_toArray, List.getElem?_cons_succ, List.getElem?_cons_zero]; rfl)
      case hs2a => kernel_rfl
      case hf2a => kernel_rfl
      case hr2a => kernel_rfl
      case hQ2a => exact fun _ _ _ h => h
      case hy2a =>
        refine Or.inl ⟨rfl, ?_⟩
        intro W hSw
        obtain ⟨y0, y1⟩ := hSw
        go_simp
        try with_reducible rfl
      case hS2a => assumption
      try simp only [Act.put, List.setIfInBounds_toArray, List.set_cons_zero, List.set_cons_succ]
      refine wpAnyH_take (i := 3) (oi := ?oi3a) (v := ?v3a) ?hi3a ?hs3a ?hf3a ?hr3a ?hQ3a ?hy3a ?hS3a ?h3a
      case hi3a => exact (by simp only [List.getElem?_toArray, List.getElem?_cons_succ, List.getElem?_cons_zero]; rfl)
      case hs3a => kernel_rfl
      case hf3a => kernel_rfl
      case hr3a => kernel_rfl
      case hQ3a => exact fun _ _ _ h => h
      case hy3a =>
        refine Or.inl ⟨rfl, ?_⟩
        intro W hSw
        obtain ⟨y0, y1⟩ := hSw
        go_simp
        try with_reducible rfl
      case hS3a => assumption
      try simp only [Act.put, List.setIfInBounds_toArray, List.set_cons_zero, List.set_cons_succ]
      refine wpAnyH_take (i := 4) (oi := ?oi4a) (v := ?v4a) ?hi4a ?hs4a ?hf4a ?hr4a ?hQ4a ?hy4a ?hS4a ?h4a
      case hi4a => exact (by simp only [List.getElem?_toArray, List.getElem?_cons_succ, List.getElem?_cons_zero]; rfl)
      case hs4a => kernel_rfl
      case hf4a => kernel_rfl
      case hr4a => kernel_rfl
      case hQ4a => exact fun _ _ _ h => h
      case hy4a =>
        refine Or.inl ⟨rfl, ?_⟩
        intro W hSw
        obtain ⟨y0, y1⟩ := hSw
        go_simp
        try with_reducible rfl
      case hS4a => assumption
      try simp only [Act.put, List.setIfInBounds_toArray, List.set_cons_zero, List.set_cons_succ]
      refine wpAnyH_take (i := 5) (oi := ?oi5a) (v := ?v5a) ?hi5a ?hs5a ?hf5a ?hr5a ?hQ5a ?hy5a ?hS5a ?h5a
      case hi5a => exact (by simp only [List.getElem?_toArray, List.getElem?_cons_succ, List.getElem?_cons_zero]; rfl)
      case hs5a => kernel_rfl
      case hf5a => kernel_rfl
      case hr5a => kernel_rfl
      case hQ5a => exact fun _ _ _ h => h
      case hy5a =>
        refine Or.inl ⟨rfl, ?_⟩
        intro W hSw
        obtain ⟨y0, y1⟩ := hSw
        go_simp
        try with_reducible rfl
      case hS5a => assumption
      try simp only [Act.put, List.setIfInBounds_toArray, List.set_cons_zero, List.set_cons_succ]
      refine wpAnyH_take (i := 6) (oi := ?oi6a) (v := ?v6a) ?hi6a ?hs6a ?hf6a ?hr6a ?hQ6a ?hy6a ?hS6a ?h6a
      case hi6a => exact (by simp only [List.getElem?_toArray, List.getElem?_cons_succ, List.getElem?_cons_zero]; rfl)
      case hs6a => kernel_rfl
      case hf6a => kernel_rfl
      case hr6a => kernel_rfl
      case hQ6a => exact fun _ _ _ h => h
      case hy6a =>
        refine Or.inl ⟨rfl, ?_⟩
        intro W hSw
        obtain ⟨y0, y1⟩ := hSw
        go_simp
        try with_reducible rfl
      case hS6a => assumption
      try simp only [Act.put, List.setIfInBounds_toArray, List.set_cons_zero, List.set_cons_succ]
      refine wpAnyH_take (i := 7) (oi := ?oi7a) (v := ?v7a) ?hi7a ?hs7a ?hf7a ?hr7a ?hQ7a ?hy7a ?hS7a ?h7a
      case hi7a => exact (by simp only [List.getElem?_toArray, List.getElem?_cons_succ, List.getElem?_cons_zero]; rfl)
      case hs7a => kernel_rfl
      case hf7a => kernel_rfl
      case hr7a => kernel_rfl
      case hQ7a => exact fun _ _ _ h => h
      case hy7a =>
        refine Or.inl ⟨rfl, ?_⟩
        intro W hSw
        obtain ⟨y0, y1⟩ := hSw
        go_simp
        try with_reducible rfl
      case hS7a => assumption
      try simp only [Act.put, List.setIfInBounds_toArray, List.set_cons_zero, List.set_cons_succ]
      refine wpAnyH_take (i := 8) (oi := ?oi8a) (v := ?v8a) ?hi8a ?hs8a ?hf8a ?hr8a ?hQ8a ?hy8a ?hS8a ?h8a
      case hi8a => exact (by simp only [List.getElem?_toArray, List.getElem?_cons_succ, List.getElem?_cons_zero]; rfl)
      case hs8a => kernel_rfl
      case hf8a => kernel_rfl
      case hr8a => kernel_rfl
      case hQ8a => exact fun _ _ _ h => h
      case hy8a =>
        refine Or.inl ⟨rfl, ?_⟩
        intro W hSw
        obtain ⟨y0, y1⟩ := hSw
        go_simp
        try with_reducible rfl
      case hS8a => assumption
      try simp only [Act.put, List.setIfInBounds_toArray, List.set_cons_zero, List.set_cons_succ]
      refine wpAnyH_done (by kernel_rfl) ?_ _
      go_wp2
      go_roundw
      case rel => exact ⟨k + 1, by omega, by go_num, HD.out⟩
      case measure => simp [intOf] <;> omega
    · have hkn : k = n := by omega
      subst hkn
      go_wp2
      go_ret
      exact ⟨rfl, HV.out⟩

theorem same_rn (A B : Option Addr) (n c d : Nat) (l : List Nat) (w : World) (hn : n = l.length) (hl : l.length ≤ 1000) (h1 : P.Rn w A l) (h2 : P.Rn w B l) :
    Calls Tryz.prog 21 #[.slice A n c, .slice B n d] w fun r w' => r = .returned (.bool true) ∧ Below w.heap.size w w' := by
  subst hn
  exact same_eq _ _ l w hl ⟨A, c, rfl, h1⟩ ⟨B, d, rfl, h2⟩
theorem waiting_nil (w : World) : Calls Tryz.prog 25 #[.pointer none] w fun r w' => r = .returned (.pointer none) ∧ w' = w := by
  go_enter Tryz.func25, Tryz.ntmps25
  go_wp2
  go_ret
  exact ⟨rfl, by first | rfl | trivial⟩
theorem place_nil (x : Nat) (w : World) : Calls Tryz.prog 49 #[.pointer none, .int .u32 (x : Int)] w fun r w' => r = .returned (.tuple #[.int .i64 0, .bool false]) ∧ w' = w := by
  go_enter Tryz.func49, Tryz.ntmps49
  go_wp2
  exact bodyPost_ret (v := .tuple #[.int .i64 0, .bool false]) (by simp [results, Tryz.results49, go_sem]) rfl ⟨rfl, by first | rfl | trivial⟩
set_option maxHeartbeats 2000000 in
theorem rdrop_nil (x : Nat) (w : World) :
    Calls Tryz.prog 26 #[.pointer none, .int .u32 (x : Int)] w fun r w' => r = .returned (.tuple #[.agg mZ, .bool false]) ∧ Below w.heap.size w w' := by
  obtain ⟨w0, hw0⟩ : ∃ w0, w0 = w.alloc (.cells (mZ) 39) := ⟨_, rfl⟩
  have hb0 : Below w.heap.size w w0 := by rw [hw0]; exact (Below.refl _ _).alloc (Nat.le_refl _) _
  have hq0 : w0.heap[w.heap.size]? = some (.cells (mZ) 39 (0, 0)) := by rw [hw0]; exact heap_alloc_new w _
  have z0 := cell_of_row w0 w.heap.size 0 _ _ _ hq0
  have z1 := cell_of_row w0 w.heap.size 1 _ _ _ hq0
  have z2 := cell_of_row w0 w.heap.size 2 _ _ _ hq0
  have z3 := cell_of_row w0 w.heap.size 3 _ _ _ hq0
  have z4 := cell_of_row w0 w.heap.size 4 _ _ _ hq0
  simp at z0 z1 z2 z3 z4
  have H0 := Lib.hid hw0
  have HB0 := Lib.hid hb0
  have HQ0 := Lib.hid hq0
  have zf : ∀ i, w0.frozen? ⟨w.heap.size, i, none⟩ = false := fun i => frozen_of_row w0 _ i _ _ hq0
  clear hw0 hb0 hq0
  have HP := Lib.hid (place_nil x w0)
  go_enter Tryz.func26, Tryz.ntmps26
  go_wp2_with fail
  rw [← H0.out]
  refine HP.out.mono ?_
  rintro r w' ⟨rfl, rfl⟩
  have hq1 : (w'.alloc (.cells (mZ) 39)).heap[w.heap.size]? = some (.cells (mZ) 39 (0, 0)) := (Below.heap_alloc _ _ _ (lt_of_block HQ0.out)).trans HQ0.out
  have y0 := cell_of_row _ w.heap.size 0 _ _ _ hq1
  have y1 := cell_of_row _ w.heap.size 1 _ _ _ hq1
  have y2 := cell_of_row _ w.heap.size 2 _ _ _ hq1
  have y3 := cell_of_row _ w.heap.size 3 _ _ _ hq1
  have y4 := cell_of_row _ w.heap.size 4 _ _ _ hq1
  have yf : ∀ i, (w'.alloc (.cells (mZ) 39)).frozen? ⟨w.heap.size, i, none⟩ = false := fun i => frozen_of_row _ _ i _ _ hq1
  have HT := Lib.hid (three (.int .u32 0) (.int .i64 0) (.slice none 0 0) (.int .i64 0) (.int .i64 0) hq1)
  have HTB := Lib.hid (three_below (.int .u32 0) (.int .i64 0) (.slice none 0 0) (.int .i64 0) (.int .i64 0) (HB0.out.alloc HB0.out.size (.cells (mZ) 39)) (Nat.le_refl w.heap.size))
  clear hq1
  go_wp2
  obtain ⟨e0, e1, e2, e3, e4, _⟩ := HT.out
  exact bodyPost_ret (v := .tuple #[.agg mZ, .bool false]) (by simp [results, Tryz.results26, go_sem, e0, e1, e2, e3, e4]) rfl ⟨rfl, HTB.out⟩
theorem rids_nil (w : World) : Calls Tryz.prog 60 #[.pointer none] w fun r w' => r = .returned (.slice none 0 0) ∧ w' = w := by
  go_enter Tryz.func60, Tryz.ntmps60
  go_wp2
  go_ret
  exact ⟨rfl, by first | rfl | trivial⟩
theorem rlen_nil (w : World) : Calls Tryz.prog 48 #[.pointer none] w fun r w' => r = .returned (.int .i64 0) ∧ w' = w := by
  go_enter Tryz.func48, Tryz.ntmps48
  go_wp2
  go_ret
  exact ⟨rfl, by first | rfl | trivial⟩
theorem qlen_nil (w : World) : Calls Tryz.prog 22 #[.pointer none] w fun r w' => r = .returned (.int .i64 0) ∧ w' = w := by
  go_enter Tryz.func22, Tryz.ntmps22
  go_wp2_with fail
  refine (waiting_nil w).mono ?_
  rintro r w1 ⟨rfl, hw⟩
  have hw := hw.symm
  subst hw
  go_wp2_with fail
  refine (rlen_nil w).mono ?_
  rintro r w1 ⟨rfl, hw⟩
  have hw := hw.symm
  subst hw
  go_wp2
  go_ret
  exact ⟨rfl, by first | rfl | trivial⟩
theorem qput_nil (id : Nat) (md rt sn : Int) (s : Sl) (w : World) : Calls Tryz.prog 11 #[.pointer none, .agg (mC id md s rt sn)] w fun r w' => r = .returned (.int .i64 10) ∧ Below w.heap.size w w' := by
  go_enter Tryz.func11, Tryz.ntmps11
  go_wp2
  go_ret
  exact ⟨rfl, (Below.refl _ _).alloc (Nat.le_refl _) _⟩
theorem those_nil (f : Value) (w : World) : Calls Tryz.prog 33 #[.pointer none, f] w fun r w' => r = .returned (.slice none 0 0) ∧ w' = w := by
  go_enter Tryz.func33, Tryz.ntmps33
  go_wp2_with fail
  refine (waiting_nil w).mono ?_
  rintro r w1 ⟨rfl, hw⟩
  have hw := hw.symm
  subst hw
  go_wp2_with fail
  refine (rids_nil w).mono ?_
  rintro r w1 ⟨rfl, hw⟩
  have hw := hw.symm
  subst hw
  go_wp2_with fail
  go_loopw [5, 14] (fun v u wr => u = .int .i64 0 ∧ v = .slice none 0 0 ∧ wr = w) (fun _ _ _ => 0)
  case atStart => exact ⟨rfl, rfl, by first | rfl | trivial⟩
  case round =>
    obtain ⟨rfl, rfl, rfl⟩ := hrel
    go_wp2
    go_ret
    exact ⟨rfl, by first | rfl | trivial⟩
theorem qof_nil (p : Nat) (w : World) : Calls Tryz.prog 16 #[.pointer none, .int .u32 (p : Int)] w fun r w' => r = .returned (.int .u32 0) ∧ Below w.heap.size w w' := by
  obtain ⟨T, hT⟩ : ∃ T, T = w.heap.size := ⟨_, rfl⟩
  obtain ⟨w0, hw0⟩ : ∃ w0, w0 = w.alloc (.cells #[.int .u32 (p : Int)] 33) := ⟨_, rfl⟩
  have HB0 : Hid (Below w.heap.size w w0) := by rw [hw0]; exact (Below.refl _ _).alloc (Nat.le_refl _) _
  have H0 := Lib.hid hw0
  have HT := Lib.hid hT
  clear hw0 hT
  go_enter Tryz.func16, Tryz.ntmps16
  go_upto_region 1 with (fail)
  rw [← H0.out, ← HT.out]
  go_wp2_with fail
  refine (those_nil _ w0).mono ?_
  rintro r w1 ⟨rfl, hw⟩
  have hw := hw.symm
  subst hw
  go_wp2
  go_ret
  exact ⟨rfl, HB0.out⟩
theorem qmode_nil (m : Int) (w : World) : Calls Tryz.prog 20 #[.pointer none, .int .i64 m] w fun r w' => r = .returned (.slice none 0 0) ∧ Below w.heap.size w w' := by
  have HOF := Lib.hid (of_any m w)
  obtain ⟨w1, hw1⟩ : ∃ W, W = w.alloc (.cells #[.int .i64 m] 3) := ⟨_, rfl⟩
  have HB1 : Hid (Below w.heap.size w w1) := by rw [hw1]; exact (Below.refl _ _).alloc (Nat.le_refl _) _
  rw [← hw1] at HOF
  clear hw1
  go_enter Tryz.func20, Tryz.ntmps20
  go_wp2_with fail
  refine HOF.out.mono ?_
  rintro r wq ⟨rfl, hw⟩
  have hw := hw.symm
  subst hw
  go_wp2_with fail
  refine (those_nil _ w1).mono ?_
  rintro r w2 ⟨rfl, hw⟩
  have hw := hw.symm
  subst hw
  go_wp2_with fail
  refine (qsort_few none 0 0 (by omega) _ w1).mono ?_
  rintro r w2 ⟨rfl, hw⟩
  have hw := hw.symm
  subst hw
  go_wp2_with fail
  go_loopw [16] (fun u wr => u = .int .i64 0 ∧ wr = w1) (fun _ _ => 0)
  case atStart => exact ⟨rfl, by first | rfl | trivial⟩
  case round =>
    obtain ⟨rfl, rfl⟩ := hrel
    go_wp2
    go_ret
    exact ⟨rfl, HB1.out⟩
set_option maxHeartbeats 2000000 in
theorem qdrop_nil (x : Nat) (w : World) : Calls Tryz.prog 7 #[.pointer none, .int .u32 (x : Int)] w fun r w' => r = .returned (.tuple #[.agg #[.int .u32 0, .int .i64 0, .slice none 0 0, .int .i64 0, .int .i64 0], .bool false]) ∧ Below w.heap.size w w' := by
  obtain ⟨T, hT⟩ : ∃ T, T = w.heap.size := ⟨_, rfl⟩
  obtain ⟨w0, hw0⟩ : ∃ w0, w0 = w.alloc (.cells #[.int .u32 0, .int .i64 0, .slice none 0 0, .int .i64 0, .int .i64 0] 39) := ⟨_, rfl⟩
  have hb0 : Below w.heap.size w w0 := by rw [hw0]; exact (Below.refl _ _).alloc (Nat.le_refl _) _
  have hq0 : w0.heap[T]? = some (.cells #[.int .u32 0, .int .i64 0, .slice none 0 0, .int .i64 0, .int .i64 0] 39 (0, 0)) := by rw [hw0, hT]; exact heap_alloc_new w _
  have HDR := Lib.hid (rdrop_nil x w0)
  have H0 := Lib.hid hw0
  have HT := Lib.hid hT
  have HQ0 := Lib.hid hq0
  have HB0 := Lib.hid hb0
  clear hw0 hT hb0 hq0
  go_enter Tryz.func7, Tryz.ntmps7
  go_upto_region 1 with (fail)
  rw [← H0.out, ← HT.out]
  go_wp2_with fail
  refine (waiting_nil w0).mono ?_
  rintro r wq ⟨rfl, hw⟩
  have hw := hw.symm
  subst hw
  go_wp2_with fail
  refine HDR.out.mono ?_
  rintro r w1 ⟨rfl, hb1⟩
  have hq1 := (hb1.block T (lt_of_block HQ0.out)).trans HQ0.out
  have x0 := cell_of_row w1 T 0 _ _ _ hq1
  have x1 := cell_of_row w1 T 1 _ _ _ hq1
  have x2 := cell_of_row w1 T 2 _ _ _ hq1
  have x3 := cell_of_row w1 T 3 _ _ _ hq1
  have x4 := cell_of_row w1 T 4 _ _ _ hq1
  simp at x0 x1 x2 x3 x4
  have xf : ∀ i, w1.frozen? ⟨T, i, none⟩ = false := fun i => frozen_of_row _ _ i _ _ hq1
  have HTT := Lib.hid (three (.int .u32 0) (.int .i64 0) (.slice none 0 0) (.int .i64 0) (.int .i64 0) hq1)
  have HTB := Lib.hid (three_below (k := w.heap.size) (B := T) (.int .u32 0) (.int .i64 0) (.slice none 0 0) (.int .i64 0) (.int .i64 0) (HB0.out.trans (hb1.mono HB0.out.size)) (by rw [HT.out]; exact Nat.le_refl _))
  clear hb1 hq1
  go_wp2
  obtain ⟨t0, t1, t2, t3, t4, _⟩ := HTT.out
  exact bodyPost_ret (v := .tuple #[.agg #[.int .u32 0, .int .i64 0, .slice none 0 0, .int .i64 0, .int .i64 0], .bool false]) (by simp [results, Tryz.results7, go_sem, t0, t1, t2, t3, t4]) rfl ⟨rfl, HTB.out⟩
end Go.Proofs.YtemjmnpclknfaaaGreat.T
