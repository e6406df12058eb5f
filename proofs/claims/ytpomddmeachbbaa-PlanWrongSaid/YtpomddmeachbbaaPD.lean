/- Plan: PlanWrong's walk. -/
import Derived.Test.YtpomddmeachbbaaP6
import Derived.Test.YtpomddmeachbbaaP8
import Derived.Test.YtpomddmeachbbaaPC
namespace Go.Proofs.Ytpomddmeachbbaa
open Go.RowKit
set_option maxRecDepth 20000

set_option linter.unusedSimpArgs false in
set_option maxHeartbeats 20000000 in
theorem wrong_walk (C : Cfg) (A : Option Addr) (c0 : Nat) (l : List Md) (k b s c e : Int) (w : World) (hM : Ms w w.heap.size A l) (hl : l.length ≤ 9223372036854775807) (hk : C.key.length ≤ 9223372036854775807) :
    Calls Try.prog 3 #[.agg (C.cells (.slice A l.length c0)), mV k b s c e] w fun r w' => r = .returned (.bool true) ∧ Below w.heap.size w w' := by
  obtain ⟨n, hn⟩ : ∃ n, n = l.length := ⟨_, rfl⟩
  rw [← hn] at hl ⊢
  obtain ⟨w0, hw0⟩ : ∃ w0, w0 = (w.alloc (.cells (C.cells (.slice A n c0)) 24)).alloc (.cells (mCells k b s c e) 26) := ⟨_, rfl⟩
  have hb0 : Below w.heap.size w w0 := by rw [hw0]; exact ((Below.refl _ _).alloc (Nat.le_refl _) _).alloc (by simp) _
  have hp0 : w0.heap[w.heap.size]? = some (.cells (C.cells (.slice A n c0)) 24 (0, 0)) := by rw [hw0]; exact (Below.heap_alloc _ _ _ (by simp)).trans (heap_alloc_new w _)
  have hq0 : w0.heap[w.heap.size + 1]? = some (.cells (mCells k b s c e) 26 (0, 0)) := by
    have := heap_alloc_new (w.alloc (.cells (C.cells (.slice A n c0)) 24)) (.cells (mCells k b s c e) 26)
    rw [World.size_alloc] at this
    rw [hw0]; exact this
  obtain ⟨P, hP⟩ : ∃ P, P = w.heap.size := ⟨_, rfl⟩
  obtain ⟨Q, hQ⟩ : ∃ Q, Q = P + 1 := ⟨_, rfl⟩
  have HB0 := Lib.hid hb0
  have HM : Hid (Ms w0 w0.heap.size A l) := (hM.below hb0).mono hb0.size
  rw [← hP] at hp0 hq0
  rw [← hQ] at hq0
  have HCE : Hid (∀ W, Below w0.heap.size w0 W → (W.cell? ⟨P, 0, none⟩ = some (sV C.key) ∧ W.cell? ⟨P, 1, none⟩ = some (.int .i64 C.n1) ∧ W.cell? ⟨P, 2, none⟩ = some (.int .i64 C.n2) ∧ W.cell? ⟨P, 3, none⟩ = some (.int .i64 C.n3) ∧ W.cell? ⟨P, 4, none⟩ = some (.int .i64 C.n4) ∧ W.cell? ⟨P, 5, none⟩ = some (.int .i64 C.t1) ∧ W.cell? ⟨P, 6, none⟩ = some (.int .i64 C.t2) ∧ W.cell? ⟨P, 7, none⟩ = some (.int .i64 C.t3) ∧ W.cell? ⟨P, 8, none⟩ = some (.int .i64 C.t4) ∧ W.cell? ⟨P, 9, none⟩ = some (.int .i64 C.t5) ∧ W.cell? ⟨P, 10, none⟩ = some (.int .i64 C.t6) ∧ W.cell? ⟨P, 11, none⟩ = some (.int .i64 C.rate) ∧ W.cell? ⟨P, 12, none⟩ = some (.int .i64 C.out) ∧ W.cell? ⟨P, 13, none⟩ = some (.slice A n c0)) ∧ W.cell? ⟨Q, 0, none⟩ = some (.int .i64 k) ∧ W.cell? ⟨Q, 1, none⟩ = some (.int .i64 b) ∧ W.cell? ⟨Q, 2, none⟩ = some (.int .i64 s) ∧ W.cell? ⟨Q, 3, none⟩ = some (.int .i64 c) ∧ W.cell? ⟨Q, 4, none⟩ = some (.int .i64 e)) := fun W hW => by
    have e1 := (hW.block _ (lt_of_block hp0)).trans hp0
    have e2 := (hW.block _ (lt_of_block hq0)).trans hq0
    exact ⟨⟨cell_of_row W _ 0 _ _ _ e1, cell_of_row W _ 1 _ _ _ e1, cell_of_row W _ 2 _ _ _ e1, cell_of_row W _ 3 _ _ _ e1, cell_of_row W _ 4 _ _ _ e1, cell_of_row W _ 5 _ _ _ e1, cell_of_row W _ 6 _ _ _ e1, cell_of_row W _ 7 _ _ _ e1, cell_of_row W _ 8 _ _ _ e1, cell_of_row W _ 9 _ _ _ e1, cell_of_row W _ 10 _ _ _ e1, cell_of_row W _ 11 _ _ _ e1, cell_of_row W _ 12 _ _ _ e1, cell_of_row W _ 13 _ _ _ e1⟩, cell_of_row W _ 0 _ _ _ e2, cell_of_row W _ 1 _ _ _ e2, cell_of_row W _ 2 _ _ _ e2, cell_of_row W _ 3 _ _ _ e2, cell_of_row W _ 4 _ _ _ e2⟩
  have H0 := Lib.hid hw0
  have HP := Lib.hid hP
  have HQ := Lib.hid hQ
  have HN := Lib.hid hn
  have HBr : Hid (Below w0.heap.size w0 w0) := Below.refl _ _
  obtain ⟨⟨x0, x1, x2, x3, x4, x5, x6, x7, x8, x9, x10, x11, x12, x13⟩, z0, z1, z2, z3, z4⟩ := HCE.out w0 HBr.out
  clear hw0 hb0 hp0 hq0 hP hQ hM hn
  by_cases h1 : 10 < n
  · have t : decide ((n : Int) > 10) = true := by rw [decide_eq_true_iff]; omega
    go_enter Try.func3, Try.ntmps3
    go_upto_region 1 with (fail)
    rw [← H0.out, ← HP.out, ← HQ.out]
    go_wp2
    go_ret
    exact ⟨rfl, HB0.out⟩
  have t1 : decide ((n : Int) > 10) = false := by rw [decide_eq_false_iff_not]; omega
  by_cases h2 : 300 < C.key.length
  · have t2 : decide ((C.key.length : Int) > 300) = true := by rw [decide_eq_true_iff]; omega
    go_enter Try.func3, Try.ntmps3
    go_upto_region 1 with (fail)
    rw [← H0.out, ← HP.out, ← HQ.out]
    go_wp2
    go_ret
    exact ⟨rfl, HB0.out⟩
  have t2 : decide ((C.key.length : Int) > 300) = false := by rw [decide_eq_false_iff_not]; omega
  obtain ⟨rs, hrs⟩ : ∃ rs, rs = wrongC C l := ⟨_, rfl⟩
  obtain ⟨mw, hmw⟩ : ∃ mw, mw = wrongM k b s c e := ⟨_, rfl⟩
  have hn1000 : n ≤ 1000 := by omega
  have HC1 : Hid (∀ W, Ms W W.heap.size A l → Calls Try.prog 12 #[.agg (C.cells (.slice A n c0))] W fun r w' => ∃ B c', r = .returned (.agg (C.cells (.slice B n c'))) ∧ Ms w' w'.heap.size B l ∧ Below W.heap.size W w') := fun W h => config_any C A n c0 l W HN.out h hn1000
  have HC2 : Hid (∀ W B c', Ms W W.heap.size B l → Calls Try.prog 13 #[.agg (C.cells (.slice B n c'))] W fun r w' => r = .returned (sV rs) ∧ Below W.heap.size W w') := fun W B c' h => by rw [hrs]; exact cwrong_any C B n c' l W HN.out h hn1000
  have HC3 : Hid (∀ W, Ms W W.heap.size A l → Calls Try.prog 14 #[.agg (C.cells (.slice A n c0))] W fun r w' => r = .returned (sV rs) ∧ Below W.heap.size W w') := fun W h => by rw [hrs]; exact rcwrong_any C A n c0 l W HN.out h hn1000
  have HC4 : Hid (∀ W, Calls Try.prog 16 #[mV k b s c e] W fun r w' => r = .returned (sV mw) ∧ Below W.heap.size W w') := fun W => by rw [hmw]; exact wrongM_any k b s c e W
  have HC5 : Hid (∀ W, Calls Try.prog 17 #[mV k b s c e] W fun r w' => r = .returned (sV mw) ∧ Below W.heap.size W w') := fun W => by rw [hmw]; exact rwrongM_any k b s c e W
  clear hrs hmw hn1000
  go_enter Try.func3, Try.ntmps3
  go_upto_region 1 with (fail)
  rw [← H0.out, ← HP.out, ← HQ.out]
  go_upto_region 3 with (fail)
  clear x0 x1 x2 x3 x4 x5 x6 x7 x8 x9 x10 x11 x12 x13 z0 z1 z2 z3 z4 t1 t2
  have HD : Hid (Below w0.heap.size w0 w0.drew) := HBr.out.drew
  refine wp_region_held_drew (S := fun W : World => (W.cell? ⟨P, 0, none⟩ = some (sV C.key) ∧ W.cell? ⟨P, 1, none⟩ = some (.int .i64 C.n1) ∧ W.cell? ⟨P, 2, none⟩ = some (.int .i64 C.n2) ∧ W.cell? ⟨P, 3, none⟩ = some (.int .i64 C.n3) ∧ W.cell? ⟨P, 4, none⟩ = some (.int .i64 C.n4) ∧ W.cell? ⟨P, 5, none⟩ = some (.int .i64 C.t1) ∧ W.cell? ⟨P, 6, none⟩ = some (.int .i64 C.t2) ∧ W.cell? ⟨P, 7, none⟩ = some (.int .i64 C.t3) ∧ W.cell? ⟨P, 8, none⟩ = some (.int .i64 C.t4) ∧ W.cell? ⟨P, 9, none⟩ = some (.int .i64 C.t5) ∧ W.cell? ⟨P, 10, none⟩ = some (.int .i64 C.t6) ∧ W.cell? ⟨P, 11, none⟩ = some (.int .i64 C.rate) ∧ W.cell? ⟨P, 12, none⟩ = some (.int .i64 C.out) ∧ W.cell? ⟨P, 13, none⟩ = some (.slice A n c0)) ∧ W.cell? ⟨Q, 0, none⟩ = some (.int .i64 k) ∧ W.cell? ⟨Q, 1, none⟩ = some (.int .i64 b) ∧ W.cell? ⟨Q, 2, none⟩ = some (.int .i64 s) ∧ W.cell? ⟨Q, 3, none⟩ = some (.int .i64 c) ∧ W.cell? ⟨Q, 4, none⟩ = some (.int .i64 e)) (by kernel_rfl) (HCE.out _ (HD.out)) (fun hHeld => ?_)
  obtain ⟨W0, hW0⟩ : ∃ W0, W0 = w0.drew := ⟨_, rfl⟩
  rw [← hW0] at hHeld HD ⊢
  clear hW0
  refine wpAnyH_take (i := 0) (oi := ?oi0) (v := ?v0) ?hi0 ?hs0 ?hf0 ?hr0 ?hQ0 ?hy0 ?hS0 ?h0
  case hi0 => exact (by simp only [List.getElem?_toArray, List.getElem?_cons_zero]; rfl)
  case hs0 => kernel_rfl
  case hf0 => kernel_rfl
  case hr0 => kernel_rfl
  case hQ0 => exact fun _ _ _ h => h
  case hy0 =>
    refine Or.inl ⟨rfl, ?_⟩
    intro W hSw
    obtain ⟨⟨y0, y1, y2, y3, y4, y5, y6, y7, y8, y9, y10, y11, y12, y13⟩, z0, z1, z2, z3, z4⟩ := hSw
    go_simp
    try with_reducible rfl
  case hS0 => assumption
  try simp only [Act.put, List.setIfInBounds_toArray, List.set_cons_zero, List.set_cons_succ]
  refine wpAnyH_take (i := 3) (oi := ?oi3) (v := ?v3) ?hi3 ?hs3 ?hf3 ?hr3 ?hQ3 ?hy3 ?hS3 ?h3
  case hi3 => exact (by simp only [List.getElem?_toArray, List.getElem?_cons_succ, List.getElem?_cons_zero]; rfl)
  case hs3 => kernel_rfl
  case hf3 => kernel_rfl
  case hr3 => kernel_rfl
  case hQ3 => exact fun _ _ _ h => h
  case hy3 =>
    refine Or.inl ⟨rfl, ?_⟩
    intro W hSw
    obtain ⟨⟨y0, y1, y2, y3, y4, y5, y6, y7, y8, y9, y10, y11, y12, y13⟩, z0, z1, z2, z3, z4⟩ := hSw
    go_simp
    try with_reducible rfl
  case hS3 => assumption
  try simp only [Act.put, List.setIfInBounds_toArray, List.set_cons_zero, List.set_cons_succ]
  refine wpAnyH_ready (rs := [1]) (by kernel_rfl) (by simp) ?_
  refine AllReadyH.cons (o := _) rfl (fun K hK => ?_) AllReadyH.nil
  go_simp
  refine (HC1.out W0 (by have hb := HD; exact (HM.out.below hb.out).mono hb.out.size)).mono ?_
  rintro r W1 ⟨B1, c1q, rfl, hMB, hbq⟩
  have HB1 := Lib.hid (HD.out.trans (hbq.mono HD.out.size))
  clear hbq
  have HMB := Lib.hid hMB
  clear hMB
  refine hK.out _ _ (HCE.out _ (HB1.out)) (fun hHeld => ?_)
  clear hK K
  try simp only [Act.put, List.setIfInBounds_toArray, List.set_cons_zero, List.set_cons_succ]
  refine wpAnyH_ready (rs := [2]) (by kernel_rfl) (by simp) ?_
  refine AllReadyH.cons (o := _) rfl (fun K hK => ?_) AllReadyH.nil
  go_simp
  refine (HC2.out W1 B1 c1q HMB.out).mono ?_
  rintro r W2 ⟨rfl, hbq⟩
  have HB2 := Lib.hid (HB1.out.trans (hbq.mono HB1.out.size))
  clear hbq
  refine hK.out _ _ (HCE.out _ (HB2.out)) (fun hHeld => ?_)
  clear hK K
  try simp only [Act.put, List.setIfInBounds_toArray, List.set_cons_zero, List.set_cons_succ]
  refine wpAnyH_ready (rs := [4]) (by kernel_rfl) (by simp) ?_
  refine AllReadyH.cons (o := _) rfl (fun K hK => ?_) AllReadyH.nil
  go_simp
  refine (HC3.out W2 (by have hb := HB2; exact (HM.out.below hb.out).mono hb.out.size)).mono ?_
  rintro r W3 ⟨rfl, hbq⟩
  have HB3 := Lib.hid (HB2.out.trans (hbq.mono HB2.out.size))
  clear hbq
  refine hK.out _ _ (HCE.out _ (HB3.out)) (fun hHeld => ?_)
  clear hK K
  try simp only [Act.put, List.setIfInBounds_toArray, List.set_cons_zero, List.set_cons_succ]
  refine wpAnyH_take (i := 5) (oi := ?oi5) (v := ?v5) ?hi5 ?hs5 ?hf5 ?hr5 ?hQ5 ?hy5 ?hS5 ?h5
  case hi5 => exact (by simp only [List.getElem?_toArray, List.getElem?_cons_succ, List.getElem?_cons_zero]; rfl)
  case hs5 => kernel_rfl
  case hf5 => kernel_rfl
  case hr5 => kernel_rfl
  case hQ5 => exact fun _ _ _ h => h
  case hy5 =>
    refine Or.inl ⟨rfl, ?_⟩
    intro W hSw
    obtain ⟨⟨y0, y1, y2, y3, y4, y5, y6, y7, y8, y9, y10, y11, y12, y13⟩, z0, z1, z2, z3, z4⟩ := hSw
    go_simp
    try with_reducible rfl
  case hS5 => assumption
  try simp only [Act.put, List.setIfInBounds_toArray, List.set_cons_zero, List.set_cons_succ]
  refine wpAnyH_take (i := 6) (oi := ?oi6) (v := ?v6) ?hi6 ?hs6 ?hf6 ?hr6 ?hQ6 ?hy6 ?hS6 ?h6
  case hi6 => exact (by simp only [List.getElem?_toArray, List.getElem?_cons_succ, List.getElem?_cons_zero]; rfl)
  case hs6 => kernel_rfl
  case hf6 => kernel_rfl
  case hr6 => kernel_rfl
  case hQ6 => exact fun _ _ _ h => h
  case hy6 =>
    refine Or.inl ⟨rfl, ?_⟩
    intro W hSw
    obtain ⟨⟨y0, y1, y2, y3, y4, y5, y6, y7, y8, y9, y10, y11, y12, y13⟩, z0, z1, z2, z3, z4⟩ := hSw
    go_simp
    try with_reducible rfl
  case hS6 => assumption
  try simp only [Act.put, List.setIfInBounds_toArray, List.set_cons_zero, List.set_cons_succ]
  refine wpAnyH_take (i := 7) (oi := ?oi7) (v := ?v7) ?hi7 ?hs7 ?hf7 ?hr7 ?hQ7 ?hy7 ?hS7 ?h7
  case hi7 => exact (by simp only [List.getElem?_toArray, List.getElem?_cons_succ, List.getElem?_cons_zero]; rfl)
  case hs7 => kernel_rfl
  case hf7 => kernel_rfl
  case hr7 => kernel_rfl
  case hQ7 => exact fun _ _ _ h => h
  case hy7 =>
    refine Or.inl ⟨rfl, ?_⟩
    intro W hSw
    obtain ⟨⟨y0, y1, y2, y3, y4, y5, y6, y7, y8, y9, y10, y11, y12, y13⟩, z0, z1, z2, z3, z4⟩ := hSw
    go_simp
    try with_reducible rfl
  case hS7 => assumption
  try simp only [Act.put, List.setIfInBounds_toArray, List.set_cons_zero, List.set_cons_succ]
  refine wpAnyH_take (i := 10) (oi := ?oi10) (v := ?v10) ?hi10 ?hs10 ?hf10 ?hr10 ?hQ10 ?hy10 ?hS10 ?h10
  case hi10 => exact (by simp only [List.getElem?_toArray, List.getElem?_cons_succ, List.getElem?_cons_zero]; rfl)
  case hs10 => kernel_rfl
  case hf10 => kernel_rfl
  case hr10 => kernel_rfl
  case hQ10 => exact fun _ _ _ h => h
  case hy10 =>
    refine Or.inl ⟨rfl, ?_⟩
    intro W hSw
    obtain ⟨⟨y0, y1, y2, y3, y4, y5, y6, y7, y8, y9, y10, y11, y12, y13⟩, z0, z1, z2, z3, z4⟩ := hSw
    go_simp
    try with_reducible rfl
  case hS10 => assumption
  try simp only [Act.put, List.setIfInBounds_toArray, List.set_cons_zero, List.set_cons_succ]
  refine wpAnyH_ready (rs := [8]) (by kernel_rfl) (by simp) ?_
  refine AllReadyH.cons (o := _) rfl (fun K hK => ?_) AllReadyH.nil
  go_simp
  refine (mode_any k b s c e W3).mono ?_
  rintro r W4 ⟨rfl, hbq⟩
  have HB4 := Lib.hid (HB3.out.trans (hbq.mono HB3.out.size))
  clear hbq
  refine hK.out _ _ (HCE.out _ (HB4.out)) (fun hHeld => ?_)
  clear hK K
  try simp only [Act.put, List.setIfInBounds_toArray, List.set_cons_zero, List.set_cons_succ]
  refine wpAnyH_ready (rs := [9]) (by kernel_rfl) (by simp) ?_
  refine AllReadyH.cons (o := _) rfl (fun K hK => ?_) AllReadyH.nil
  go_simp
  refine (HC4.out W4).mono ?_
  rintro r W5 ⟨rfl, hbq⟩
  have HB5 := Lib.hid (HB4.out.trans (hbq.mono HB4.out.size))
  clear hbq
  refine hK.out _ _ (HCE.out _ (HB5.out)) (fun hHeld => ?_)
  clear hK K
  try simp only [Act.put, List.setIfInBounds_toArray, List.set_cons_zero, List.set_cons_succ]
  refine wpAnyH_ready (rs := [11]) (by kernel_rfl) (by simp) ?_
  refine AllReadyH.cons (o := _) rfl (fun K hK => ?_) AllReadyH.nil
  go_simp
  refine (HC5.out W5).mono ?_
  rintro r W6 ⟨rfl, hbq⟩
  have HB6 := Lib.hid (HB5.out.trans (hbq.mono HB5.out.size))
  clear hbq
  refine hK.out _ _ (HCE.out _ (HB6.out)) (fun hHeld => ?_)
  clear hK K
  try simp only [Act.put, List.setIfInBounds_toArray, List.set_cons_zero, List.set_cons_succ]
  refine wpAnyH_take (i := 12) (oi := ?oi12) (v := ?v12) ?hi12 ?hs12 ?hf12 ?hr12 ?hQ12 ?hy12 ?hS12 ?h12
  case hi12 => exact (by simp only [List.getElem?_toArray, List.getElem?_cons_succ, List.getElem?_cons_zero]; rfl)
  case hs12 => kernel_rfl
  case hf12 => kernel_rfl
  case hr12 => kernel_rfl
  case hQ12 => exact fun _ _ _ h => h
  case hy12 =>
    refine Or.inl ⟨rfl, ?_⟩
    intro W hSw
    obtain ⟨⟨y0, y1, y2, y3, y4, y5, y6, y7, y8, y9, y10, y11, y12, y13⟩, z0, z1, z2, z3, z4⟩ := hSw
    go_simp
    try with_reducible rfl
  case hS12 => assumption
  try simp only [Act.put, List.setIfInBounds_toArray, List.set_cons_zero, List.set_cons_succ]
  refine wpAnyH_take (i := 13) (oi := ?oi13) (v := ?v13) ?hi13 ?hs13 ?hf13 ?hr13 ?hQ13 ?hy13 ?hS13 ?h13
  case hi13 => exact (by simp only [List.getElem?_toArray, List.getElem?_cons_succ, List.getElem?_cons_zero]; rfl)
  case hs13 => kernel_rfl
  case hf13 => kernel_rfl
  case hr13 => kernel_rfl
  case hQ13 => exact fun _ _ _ h => h
  case hy13 =>
    refine Or.inl ⟨rfl, ?_⟩
    intro W hSw
    obtain ⟨⟨y0, y1, y2, y3, y4, y5, y6, y7, y8, y9, y10, y11, y12, y13⟩, z0, z1, z2, z3, z4⟩ := hSw
    go_simp
    try with_reducible rfl
  case hS13 => assumption
  try simp only [Act.put, List.setIfInBounds_toArray, List.set_cons_zero, List.set_cons_succ]
  refine wpAnyH_take (i := 14) (oi := ?oi14) (v := ?v14) ?hi14 ?hs14 ?hf14 ?hr14 ?hQ14 ?hy14 ?hS14 ?h14
  case hi14 => exact (by simp only [List.getElem?_toArray, List.getElem?_cons_succ, List.getElem?_cons_zero]; rfl)
  case hs14 => kernel_rfl
  case hf14 => kernel_rfl
  case hr14 => kernel_rfl
  case hQ14 => exact fun _ _ _ h => h
  case hy14 =>
    refine Or.inl ⟨rfl, ?_⟩
    intro W hSw
    obtain ⟨⟨y0, y1, y2, y3, y4, y5, y6, y7, y8, y9, y10, y11, y12, y13⟩, z0, z1, z2, z3, z4⟩ := hSw
    go_simp
    try with_reducible rfl
  case hS14 => assumption
  try simp only [Act.put, List.setIfInBounds_toArray, List.set_cons_zero, List.set_cons_succ]
  refine wpAnyH_ready (rs := [15]) (by kernel_rfl) (by simp) ?_
  refine AllReadyH.cons (o := _) rfl (fun K hK => ?_) AllReadyH.nil
  go_simp
  refine (pawake W6).mono ?_
  rintro r W7 ⟨rfl, hbq⟩
  have HB7 := Lib.hid (HB6.out.trans (hbq.mono HB6.out.size))
  clear hbq
  refine hK.out _ _ (HCE.out _ (HB7.out)) (fun hHeld => ?_)
  clear hK K
  try simp only [Act.put, List.setIfInBounds_toArray, List.set_cons_zero, List.set_cons_succ]
  refine wpAnyH_take (i := 16) (oi := ?oi16) (v := ?v16) ?hi16 ?hs16 ?hf16 ?hr16 ?hQ16 ?hy16 ?hS16 ?h16
  case hi16 => exact (by simp only [List.getElem?_toArray, List.getElem?_cons_succ, List.getElem?_cons_zero]; rfl)
  case hs16 => kernel_rfl
  case hf16 => kernel_rfl
  case hr16 => kernel_rfl
  case hQ16 => exact fun _ _ _ h => h
  case hy16 =>
    refine Or.inl ⟨rfl, ?_⟩
    intro W hSw
    obtain ⟨⟨y0, y1, y2, y3, y4, y5, y6, y7, y8, y9, y10, y11, y12, y13⟩, z0, z1, z2, z3, z4⟩ := hSw
    go_simp
    try with_reducible rfl
  case hS16 => assumption
  try simp only [Act.put, List.setIfInBounds_toArray, List.set_cons_zero, List.set_cons_succ]
  refine wpAnyH_take (i := 17) (oi := ?oi17) (v := ?v17) ?hi17 ?hs17 ?hf17 ?hr17 ?hQ17 ?hy17 ?hS17 ?h17
  case hi17 => exact (by simp only [List.getElem?_toArray, List.getElem?_cons_succ, List.getElem?_cons_zero]; rfl)
  case hs17 => kernel_rfl
  case hf17 => kernel_rfl
  case hr17 => kernel_rfl
  case hQ17 => exact fun _ _ _ h => h
  case hy17 =>
    refine Or.inl ⟨rfl, ?_⟩
    intro W hSw
    obtain ⟨⟨y0, y1, y2, y3, y4, y5, y6, y7, y8, y9, y10, y11, y12, y13⟩, z0, z1, z2, z3, z4⟩ := hSw
    go_simp
    try with_reducible rfl
  case hS17 => assumption
  try simp only [Act.put, List.setIfInBounds_toArray, List.set_cons_zero, List.set_cons_succ]
  refine wpAnyH_done (by kernel_rfl) ?_ _
  try go_wp2
  go_ret
  exact ⟨rfl, HB0.out.trans (HB7.out.mono HB0.out.size)⟩
end Go.Proofs.Ytpomddmeachbbaa
