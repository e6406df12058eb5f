/- Plan: PlanWindows' walk. -/
import Derived.Test.YtpomddmeachbbaaP6
import Derived.Test.YtpomddmeachbbaaP7
import Derived.Test.YtpomddmeachbbaaP8
namespace Go.Proofs.Ytpomddmeachbbaa
open Go.RowKit
set_option maxRecDepth 20000

set_option linter.unusedSimpArgs false in
set_option maxHeartbeats 4000000 in
theorem windows_walk (k b s c e x : Int) (w : World) (hx : -9223372036854775808 ≤ x ∧ x ≤ 9223372036854775807) :
    Calls Try.prog 4 #[mV k b s c e, .int .i64 x] w fun r w' => r = .returned (.bool true) ∧ Below w.heap.size w w' := by
  obtain ⟨w0, hw0⟩ : ∃ w0, w0 = w.alloc (.cells (mCells k b s c e) 26) := ⟨_, rfl⟩
  have hb0 : Below w.heap.size w w0 := by rw [hw0]; exact (Below.refl _ _).alloc (Nat.le_refl _) _
  have hp0 : w0.heap[w.heap.size]? = some (.cells (mCells k b s c e) 26 (0, 0)) := by rw [hw0]; exact heap_alloc_new w _
  have HCE : Hid (∀ W, Below w0.heap.size w0 W → W.cell? ⟨w.heap.size, 0, none⟩ = some (.int .i64 k) ∧ W.cell? ⟨w.heap.size, 1, none⟩ = some (.int .i64 b) ∧ W.cell? ⟨w.heap.size, 2, none⟩ = some (.int .i64 s) ∧ W.cell? ⟨w.heap.size, 3, none⟩ = some (.int .i64 c) ∧ W.cell? ⟨w.heap.size, 4, none⟩ = some (.int .i64 e)) := fun W hW => by
    have e2 := (hW.block _ (lt_of_block hp0)).trans hp0
    exact ⟨cell_of_row W _ 0 _ _ _ e2, cell_of_row W _ 1 _ _ _ e2, cell_of_row W _ 2 _ _ _ e2, cell_of_row W _ 3 _ _ _ e2, cell_of_row W _ 4 _ _ _ e2⟩
  obtain ⟨res, hres⟩ : ∃ res, res = win k b s c e x := ⟨_, rfl⟩
  have HWa : Hid (∀ W, Calls Try.prog 19 #[mV k b s c e, .int .i64 x] W fun r w' => r = .returned (.int .i64 res) ∧ Below W.heap.size W w') := fun W => by rw [hres]; exact window_any k b s c e x W hx
  have HWb : Hid (∀ W, Calls Try.prog 20 #[mV k b s c e, .int .i64 x] W fun r w' => r = .returned (.int .i64 res) ∧ Below W.heap.size W w') := fun W => by rw [hres]; exact rwindow_any k b s c e x W hx
  have H0 := Lib.hid hw0
  have HB0 := Lib.hid hb0
  have HBr : Hid (Below w0.heap.size w0 w0) := Below.refl _ _
  clear hw0 hb0 hp0 hres
  go_enter Try.func4, Try.ntmps4
  go_upto_region 1 with (fail)
  rw [← H0.out]
  have HD : Hid (Below w0.heap.size w0 w0.drew) := HBr.out.drew
  refine wp_region_held_drew (S := fun W : World => W.cell? ⟨w.heap.size, 0, none⟩ = some (.int .i64 k) ∧ W.cell? ⟨w.heap.size, 1, none⟩ = some (.int .i64 b) ∧ W.cell? ⟨w.heap.size, 2, none⟩ = some (.int .i64 s) ∧ W.cell? ⟨w.heap.size, 3, none⟩ = some (.int .i64 c) ∧ W.cell? ⟨w.heap.size, 4, none⟩ = some (.int .i64 e)) (by kernel_rfl) (HCE.out _ HD.out) (fun hHeld => ?_)
  obtain ⟨W0, hW0⟩ : ∃ W0, W0 = w0.drew := ⟨_, rfl⟩
  rw [← hW0] at hHeld HD ⊢
  clear hW0
  refine wpAnyH_take (i := 0) (oi := ?oi0) (v := ?v0) ?hi0 ?hs0 ?hf0 ?hr0 ?hQ0 ?hy0 ?hS0 ?h0
  case hi0 => exact (by simp only [List.getElem?_toArray, List.getElem?_cons_zero]; rfl)
  case hs0 => kernel_rfl
  case hf0 => kernel_rfl
  case hr0 => kernel_rfl
  case hQ0 => exact fun _ _ _ h => h
  case hy0 =>
    refine Or.inl ⟨rfl, ?_⟩
    intro W hSw
    obtain ⟨y0, y1, y2, y3, y4⟩ := hSw
    go_simp
    try with_reducible rfl
  case hS0 => assumption
  try simp only [Act.put, List.setIfInBounds_toArray, List.set_cons_zero, List.set_cons_succ]
  refine wpAnyH_take (i := 2) (oi := ?oi2) (v := ?v2) ?hi2 ?hs2 ?hf2 ?hr2 ?hQ2 ?hy2 ?hS2 ?h2
  case hi2 => exact (by simp only [List.getElem?_toArray, List.getElem?_cons_succ, List.getElem?_cons_zero]; rfl)
  case hs2 => kernel_rfl
  case hf2 => kernel_rfl
  case hr2 => kernel_rfl
  case hQ2 => exact fun _ _ _ h => h
  case hy2 =>
    refine Or.inl ⟨rfl, ?_⟩
    intro W hSw
    obtain ⟨y0, y1, y2, y3, y4⟩ := hSw
    go_simp
    try with_reducible rfl
  case hS2 => assumption
  try simp only [Act.put, List.setIfInBounds_toArray, List.set_cons_zero, List.set_cons_succ]
  refine wpAnyH_take (i := 4) (oi := ?oi4) (v := ?v4) ?hi4 ?hs4 ?hf4 ?hr4 ?hQ4 ?hy4 ?hS4 ?h4
  case hi4 => exact (by simp only [List.getElem?_toArray, List.getElem?_cons_succ, List.getElem?_cons_zero]; rfl)
  case hs4 => kernel_rfl
  case hf4 => kernel_rfl
  case hr4 => kernel_rfl
  case hQ4 => exact fun _ _ _ h => h
  case hy4 =>
    refine Or.inl ⟨rfl, ?_⟩
    intro W hSw
    obtain ⟨y0, y1, y2, y3, y4⟩ := hSw
    go_simp
    try with_reducible rfl
  case hS4 => assumption
  try simp only [Act.put, List.setIfInBounds_toArray, List.set_cons_zero, List.set_cons_succ]
  refine wpAnyH_take (i := 5) (oi := ?oi5) (v := ?v5) ?hi5 ?hs5 ?hf5 ?hr5 ?hQ5 ?hy5 ?hS5 ?h5
  case hi5 => exact (by simp only [List.getElem?_toArray, List.getElem?_cons_succ, List.getElem?_cons_zero]; rfl)
  case hs5 => kernel_rfl
  case hf5 => kernel_rfl
  case hr5 => kernel_rfl
  case hQ5 => exact fun _ _ _ h => h
  case hy5 =>
    refine Or.inl ⟨rfl, ?_⟩
    intro W hSw
    obtain ⟨y0, y1, y2, y3, y4⟩ := hSw
    go_simp
    try with_reducible rfl
  case hS5 => assumption
  try simp only [Act.put, List.setIfInBounds_toArray, List.set_cons_zero, List.set_cons_succ]
  refine wpAnyH_ready (rs := [1]) (by kernel_rfl) (by simp) ?_
  refine AllReadyH.cons (o := _) rfl (fun K hK => ?_) AllReadyH.nil
  go_simp
  refine (mode_any k b s c e W0).mono ?_
  rintro r W1 ⟨rfl, hbq⟩
  have HB1 := Lib.hid (HD.out.trans (hbq.mono HD.out.size))
  clear hbq
  refine hK.out _ _ (HCE.out _ HB1.out) (fun hHeld => ?_)
  clear hK K
  try simp only [Act.put, List.setIfInBounds_toArray, List.set_cons_zero, List.set_cons_succ]
  refine wpAnyH_ready (rs := [3]) (by kernel_rfl) (by simp) ?_
  refine AllReadyH.cons (o := _) rfl (fun K hK => ?_) AllReadyH.nil
  go_simp
  refine (HWa.out W1).mono ?_
  rintro r W2 ⟨rfl, hbq⟩
  have HB2 := Lib.hid (HB1.out.trans (hbq.mono HB1.out.size))
  clear hbq
  refine hK.out _ _ (HCE.out _ HB2.out) (fun hHeld => ?_)
  clear hK K
  try simp only [Act.put, List.setIfInBounds_toArray, List.set_cons_zero, List.set_cons_succ]
  refine wpAnyH_ready (rs := [6]) (by kernel_rfl) (by simp) ?_
  refine AllReadyH.cons (o := _) rfl (fun K hK => ?_) AllReadyH.nil
  go_simp
  refine (HWb.out W2).mono ?_
  rintro r W3 ⟨rfl, hbq⟩
  have HB3 := Lib.hid (HB2.out.trans (hbq.mono HB2.out.size))
  clear hbq
  refine hK.out _ _ (HCE.out _ HB3.out) (fun hHeld => ?_)
  clear hK K
  try simp only [Act.put, List.setIfInBounds_toArray, List.set_cons_zero, List.set_cons_succ]
  refine wpAnyH_take (i := 7) (oi := ?oi7) (v := ?v7) ?hi7 ?hs7 ?hf7 ?hr7 ?hQ7 ?hy7 ?hS7 ?h7
  case hi7 => exact (by simp only [List.getElem?_toArray, List.getElem?_cons_succ, List.getElem?_cons_zero]; rfl)
  case hs7 => kernel_rfl
  case hf7 => kernel_rfl
  case hr7 => kernel_rfl
  case hQ7 => exact fun _ _ _ h => h
  case hy7 =>
    refine Or.inl ⟨rfl, ?_⟩
    intro W hSw
    obtain ⟨y0, y1, y2, y3, y4⟩ := hSw
    go_simp
    try with_reducible rfl
  case hS7 => assumption
  try simp only [Act.put, List.setIfInBounds_toArray, List.set_cons_zero, List.set_cons_succ]
  refine wpAnyH_take (i := 8) (oi := ?oi8) (v := ?v8) ?hi8 ?hs8 ?hf8 ?hr8 ?hQ8 ?hy8 ?hS8 ?h8
  case hi8 => exact (by simp only [List.getElem?_toArray, List.getElem?_cons_succ, List.getElem?_cons_zero]; rfl)
  case hs8 => kernel_rfl
  case hf8 => kernel_rfl
  case hr8 => kernel_rfl
  case hQ8 => exact fun _ _ _ h => h
  case hy8 =>
    refine Or.inl ⟨rfl, ?_⟩
    intro W hSw
    obtain ⟨y0, y1, y2, y3, y4⟩ := hSw
    go_simp
    try with_reducible rfl
  case hS8 => assumption
  try simp only [Act.put, List.setIfInBounds_toArray, List.set_cons_zero, List.set_cons_succ]
  refine wpAnyH_ready (rs := [9]) (by kernel_rfl) (by simp) ?_
  refine AllReadyH.cons (o := _) rfl (fun K hK => ?_) AllReadyH.nil
  go_simp
  refine (pawake W3).mono ?_
  rintro r W4 ⟨rfl, hbq⟩
  have HB4 := Lib.hid (HB3.out.trans (hbq.mono HB3.out.size))
  clear hbq
  refine hK.out _ _ (HCE.out _ HB4.out) (fun hHeld => ?_)
  clear hK K
  try simp only [Act.put, List.setIfInBounds_toArray, List.set_cons_zero, List.set_cons_succ]
  refine wpAnyH_take (i := 10) (oi := ?oi10) (v := ?v10) ?hi10 ?hs10 ?hf10 ?hr10 ?hQ10 ?hy10 ?hS10 ?h10
  case hi10 => exact (by simp only [List.getElem?_toArray, List.getElem?_cons_succ, List.getElem?_cons_zero]; rfl)
  case hs10 => kernel_rfl
  case hf10 => kernel_rfl
  case hr10 => kernel_rfl
  case hQ10 => exact fun _ _ _ h => h
  case hy10 =>
    refine Or.inl ⟨rfl, ?_⟩
    intro W hSw
    obtain ⟨y0, y1, y2, y3, y4⟩ := hSw
    go_simp
    try with_reducible rfl
  case hS10 => assumption
  try simp only [Act.put, List.setIfInBounds_toArray, List.set_cons_zero, List.set_cons_succ]
  refine wpAnyH_take (i := 11) (oi := ?oi11) (v := ?v11) ?hi11 ?hs11 ?hf11 ?hr11 ?hQ11 ?hy11 ?hS11 ?h11
  case hi11 => exact (by simp only [List.getElem?_toArray, List.getElem?_cons_succ, List.getElem?_cons_zero]; rfl)
  case hs11 => kernel_rfl
  case hf11 => kernel_rfl
  case hr11 => kernel_rfl
  case hQ11 => exact fun _ _ _ h => h
  case hy11 =>
    refine Or.inl ⟨rfl, ?_⟩
    intro W hSw
    obtain ⟨y0, y1, y2, y3, y4⟩ := hSw
    go_simp
    try with_reducible rfl
  case hS11 => assumption
  try simp only [Act.put, List.setIfInBounds_toArray, List.set_cons_zero, List.set_cons_succ]
  refine wpAnyH_done (by kernel_rfl) ?_ _
  try go_wp2
  go_ret
  exact ⟨rfl, HB0.out.trans (HB4.out.mono HB0.out.size)⟩
end Go.Proofs.Ytpomddmeachbbaa
