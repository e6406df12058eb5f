/- Any eight words, brought on by any block, are what the document says: ShaSteps returns true for every input. -/
import Derived.Test.YtbnmblhpoaaegaaDoorSA
import Derived.ChangeKeysEq
namespace Go.Proofs.YtbnmblhpoaaegaaDoor
open Go.RowKit

theorem eqItems_self (w : World) (d e n : Nat) (k k' : IntKind) (xs : Array Value) (he : Tryd.prog.underlying e = some (.int k')) (ha : ∀ w, (isAgg e).run Tryd.prog w = .ok false w) :
    ∀ (is : List Nat), (∀ i ∈ is, ∃ x : Int, xs[i * n]? = some (.int k x)) → (Op.eqItems (d + 1) e n xs xs is).run Tryd.prog w = .ok true w
  | [], _ => by simp [Op.eqItems]
  | i :: is, h => by
    obtain ⟨x, hx⟩ := h i (by simp)
    have ih := eqItems_self w d e n k k' xs he ha is (fun j hj => h j (by simp [hj]))
    have hp : (part e xs (i * n)).run Tryd.prog w = .ok (.int k x) w := by simp [part, Sem.run_bind, ha, hx]
    simp only [Op.eqItems, Sem.run_bind, hp, Result.andThen_ok, run_equalIn_int w d e k k' x x he]
    simp [ih]
theorem eq_words (h : List W32) (hl : h.length = 8) (w : World) : (Op.equalIn 10000 23 (.agg (wv h).toArray) (.agg (wv h).toArray)).run Tryd.prog w = .ok true w := by
  cases hq : Tryd.prog.info? 22 with
  | none => exact absurd Tryd.size22 (by simp [hq])
  | some i =>
    rw [run_equalIn_array w 9999 _ _ Tryd.underlying23 hq]
    refine eqItems_self w 9998 22 _ .u32 _ _ Tryd.underlying22 Tryd.plain22 _ (fun i hi => ?_)
    have hc : Tryd.prog.cellsOf 22 = 1 := by kernel_rfl
    have hi8 : i < h.length := by rw [hl]; simpa using hi
    rw [hc, Nat.mul_one]
    exact ⟨iv h[i], by simp [wv, hi8]⟩
theorem eq_bytes (l : List UInt8) (hl : l.length = 32) (w : World) : (Op.equalIn 10000 30 (.agg (bv l).toArray) (.agg (bv l).toArray)).run Tryd.prog w = .ok true w := by
  cases hq : Tryd.prog.info? 5 with
  | none => exact absurd Tryd.size5 (by simp [hq])
  | some i =>
    rw [run_equalIn_array w 9999 _ _ Tryd.underlying30 hq]
    refine eqItems_self w 9998 5 _ .u8 _ _ Tryd.underlying5 Tryd.plain5 _ (fun i hi => ?_)
    have hc : Tryd.prog.cellsOf 5 = 1 := by kernel_rfl
    have hi8 : i < l.length := by rw [hl]; simpa using hi
    rw [hc, Nat.mul_one]
    exact ⟨_, by simp [bv, hi8]; rfl⟩
theorem size_alloc1 (w : World) (o : Obj) : (w.alloc o).heap.size = w.heap.size + 1 := by simp
theorem pb_block {w : World} {B : Nat} {bl : List UInt8} (h : w.rangeAt B 0 (bv bl)) (hb : bl.length = 64) (hB : B < w.heap.size) : Pb w (.slice (some ⟨B, 0, none⟩) 64 64) bl :=
  ⟨_, 64, by rw [hb], by omega, fun _ => ⟨B, 0, rfl, hB, h⟩⟩

set_option linter.unusedSimpArgs false
set_option maxHeartbeats 2000000 in
set_option maxRecDepth 4000 in
theorem steps_walk (h : List W32) (hl : h.length = 8) (bl : List UInt8) (hb : bl.length = 64) (w : World) (hk : Kt w) (hf : Ft w) (h1 : 1 < w.heap.size) :
    Calls Tryd.prog 3 #[.agg (wv h).toArray, .agg (bv bl).toArray] w fun e w' => e = .returned (.bool true) ∧ Below w.heap.size w w' := by
  have heq := fun W => eq_words (stepP h bl) (stepP_length h bl hl) W
  obtain ⟨S, hS⟩ : ∃ S, S = stepP h bl := ⟨_, rfl⟩
  have hs1 := fun W hK hz => step_any h hl bl hb W hK hz
  have hs2 := fun v W hP => rstep_any h hl v bl hb W hP
  have J1 := Lib.hid (show (Tryd.prog.info? 23).map (·.size) = some (wv h).length by rw [Tryd.size23]; simp [wv, hl])
  have J2 := Lib.hid (show (Tryd.prog.info? 24).map (·.size) = some (bv bl).length by rw [Tryd.size24]; simp [bv, hb])
  rw [← hS] at heq hs1 hs2
  have HS1 := Lib.hid hs1
  have HS2 := Lib.hid hs2
  have HL := Lib.hid hl
  have HB := Lib.hid hb
  have HK := Lib.hid hk
  have HF := Lib.hid hf
  have H1 := Lib.hid (show 0 < w.heap.size ∧ 1 < w.heap.size by omega)
  clear hS hs1 hs2 hl hb hk hf h1
  go_enter Tryd.func3, Tryd.ntmps3
  go_upto_region 1 with (fail)
  obtain ⟨w1, hw1⟩ : ∃ w1, w1 = (w.alloc (.cells (wv h).toArray 23)).alloc (.cells (bv bl).toArray 24) := ⟨_, rfl⟩
  rw [← hw1]
  have hra : w1.drew.rangeAt w.heap.size 0 (wv h) := fun j u hu => by
    have hr : w1.drew.heap[w.heap.size]? = some (.cells (wv h).toArray 23 (0, 0)) := by
      rw [hw1]
      exact (Below.heap_alloc _ _ _ (by simp)).trans (heap_alloc_new w _)
    rw [cell_of_row w1.drew _ (0 + j) _ _ _ hr, Nat.zero_add, List.getElem?_toArray, hu]
  have hrb : w1.drew.rangeAt (w.heap.size + 1) 0 (bv bl) := fun j u hu => by
    have hr : w1.drew.heap[w.heap.size + 1]? = some (.cells (bv bl).toArray 24 (0, 0)) := by
      rw [hw1]
      have := heap_alloc_new (w.alloc (.cells (wv h).toArray 23)) (.cells (bv bl).toArray 24)
      rw [size_alloc1] at this
      exact this
    rw [cell_of_row w1.drew _ (0 + j) _ _ _ hr, Nat.zero_add, List.getElem?_toArray, hu]
  have hb1 : Below w.heap.size w w1 := by
    rw [hw1]
    exact ((Below.refl _ _).alloc (Nat.le_refl _) _).alloc (by simp) _
  have HZ := Lib.hid (show w.heap.size + 1 < w1.heap.size by rw [hw1]; simp)
  have HRA := Lib.hid hra
  have HRB := Lib.hid hrb
  have HB1 := Lib.hid hb1
  clear hw1 hra hrb hb1
  refine wp_region_held_drew (S := fun W => W.rangeAt w.heap.size 0 (wv h) ∧ W.rangeAt (w.heap.size + 1) 0 (bv bl)) (by kernel_rfl) ⟨HRA.out, HRB.out⟩ (fun hHeld => ?_)
  obtain ⟨W0, hW0⟩ : ∃ W0, W0 = w1.drew := ⟨_, rfl⟩
  have hb0 : Below w.heap.size w W0 := by rw [hW0]; exact HB1.out.drew
  rw [← hW0] at hHeld ⊢
  have HB0 := Lib.hid hb0
  have HZ0 := Lib.hid (show w.heap.size + 1 < W0.heap.size by rw [hW0]; exact HZ.out)
  clear hW0 hb0
  refine wpAnyH_take (i := 0) (oi := ?oi0) (v := .agg (wv h).toArray) ?hi0 ?hs0 ?hf0 ?hr0 ?hQ0 ?hy0 ?hS0 ?h0
  case hi0 => exact (by simp only [List.getElem?_toArray, List.getElem?_cons_zero]; rfl)
  case hs0 => kernel_rfl
  case hf0 => kernel_rfl
  case hr0 => kernel_rfl
  case hQ0 => exact fun _ _ _ h => h
  case hy0 =>
    exact yieldsIf_load_mid rfl 23 (.tmp 2) rfl w.heap.size 0 rfl (wv h) _ (fun (W : World) (h : W.rangeAt w.heap.size 0 (wv h) ∧ W.rangeAt (w.heap.size + 1) 0 (bv bl)) => h.1) Tryd.underlying23 rfl J1.out
  case hS0 => assumption
  try simp only [Act.put, List.setIfInBounds_toArray, List.set_cons_zero, List.set_cons_succ]
  refine wpAnyH_take (i := 1) (oi := ?oi1) (v := .agg (bv bl).toArray) ?hi1 ?hs1 ?hf1 ?hr1 ?hQ1 ?hy1 ?hS1 ?h1
  case hi1 => exact (by simp only [List.getElem?_toArray, List.getElem?_cons_succ, List.getElem?_cons_zero]; rfl)
  case hs1 => kernel_rfl
  case hf1 => kernel_rfl
  case hr1 => kernel_rfl
  case hQ1 => exact fun _ _ _ h => h
  case hy1 =>
    exact yieldsIf_load_mid rfl 24 (.tmp 3) rfl (w.heap.size + 1) 0 rfl (bv bl) _ (fun (W : World) (h : W.rangeAt w.heap.size 0 (wv h) ∧ W.rangeAt (w.heap.size + 1) 0 (bv bl)) => h.2) Tryd.underlying24 rfl J2.out
  case hS1 => assumption
  try simp only [Act.put, List.setIfInBounds_toArray, List.set_cons_zero, List.set_cons_succ]
  refine wpAnyH_take (i := 3) (oi := ?oi3) (v := .agg (wv h).toArray) ?hi3 ?hs3 ?hf3 ?hr3 ?hQ3 ?hy3 ?hS3 ?h3
  case hi3 => exact (by simp only [List.getElem?_toArray, List.getElem?_cons_succ, List.getElem?_cons_zero]; rfl)
  case hs3 => kernel_rfl
  case hf3 => kernel_rfl
  case hr3 => kernel_rfl
  case hQ3 => exact fun _ _ _ h => h
  case hy3 =>
    exact yieldsIf_load_mid rfl 23 (.tmp 2) rfl w.heap.size 0 rfl (wv h) _ (fun (W : World) (h : W.rangeAt w.heap.size 0 (wv h) ∧ W.rangeAt (w.heap.size + 1) 0 (bv bl)) => h.1) Tryd.underlying23 rfl J1.out
  case hS3 => assumption
  try simp only [Act.put, List.setIfInBounds_toArray, List.set_cons_zero, List.set_cons_succ]
  refine wpAnyH_take (i := 4) (oi := ?oi4) (v := ?v4) ?hi4 ?hs4 ?hf4 ?hr4 ?hQ4 ?hy4 ?hS4 ?h4
  case hi4 => exact (by simp only [List.getElem?_toArray, List.getElem?_cons_succ, List.getElem?_cons_zero]; rfl)
  case hs4 => kernel_rfl
  case hf4 => kernel_rfl
  case hr4 => kernel_rfl
  case hQ4 => exact fun _ _ _ h => h
  case hy4 =>
    refine Or.inl ⟨rfl, ?_⟩
    intro W hSw
    go_simp
    try with_reducible rfl
  case hS4 => assumption
  try simp only [Act.put, List.setIfInBounds_toArray, List.set_cons_zero, List.set_cons_succ]
  refine wpAnyH_ready (rs := [2]) (by kernel_rfl) (by simp) ?_
  refine AllReadyH.cons (o := _) rfl (fun K hK => ?_) AllReadyH.nil
  go_simp
  refine (HS1.out W0 (HK.out.below HB0.out H1.out.1) (by have := HZ0.out; omega)).mono ?_
  intro e W1 hp
  obtain ⟨rfl, hc1⟩ := hp
  have hz1 := hc1.size
  have hkeep1 : (W1.rangeAt w.heap.size 0 (wv h) ∧ W1.rangeAt (w.heap.size + 1) 0 (bv bl)) := ⟨fun j u hu => (hc1.cell (p := ⟨w.heap.size, 0 + j, none⟩) (by have := HZ0.out; simp; omega)).trans (hHeld.1 j u hu), fun j u hu => (hc1.cell (p := ⟨w.heap.size + 1, 0 + j, none⟩) (by have := HZ0.out; simp; omega)).trans (hHeld.2 j u hu)⟩
  have HB1 := Lib.hid (HB0.out.trans (hc1.mono HB0.out.size))
  have HZ1 := Lib.hid (show w.heap.size + 1 < W1.heap.size by have := HZ0.out; omega)
  clear hc1 hz1 hHeld
  refine hK.out _ _ hkeep1 (fun hHeld => ?_)
  clear hK K
  try simp only [Act.put, List.setIfInBounds_toArray, List.set_cons_zero, List.set_cons_succ]
  refine wpAnyH_ready (rs := [5]) (by kernel_rfl) (by simp) ?_
  refine AllReadyH.cons (o := _) rfl (fun K hK => ?_) AllReadyH.nil
  go_simp
  refine (HS2.out _ W1 (pb_block hHeld.2 HB.out (by have := HZ1.out; omega))).mono ?_
  intro e W2 hp
  obtain ⟨rfl, hc2⟩ := hp
  have hz2 := hc2.size
  have hkeep2 : (W2.rangeAt w.heap.size 0 (wv h) ∧ W2.rangeAt (w.heap.size + 1) 0 (bv bl)) := ⟨fun j u hu => (hc2.cell (p := ⟨w.heap.size, 0 + j, none⟩) (by have := HZ1.out; simp; omega)).trans (hHeld.1 j u hu), fun j u hu => (hc2.cell (p := ⟨w.heap.size + 1, 0 + j, none⟩) (by have := HZ1.out; simp; omega)).trans (hHeld.2 j u hu)⟩
  have HB2 := Lib.hid (HB1.out.trans (hc2.mono HB1.out.size))
  have HZ2 := Lib.hid (show w.heap.size + 1 < W2.heap.size by have := HZ1.out; omega)
  clear hc2 hz2 hHeld
  refine hK.out _ _ hkeep2 (fun hHeld => ?_)
  clear hK K
  try simp only [Act.put, List.setIfInBounds_toArray, List.set_cons_zero, List.set_cons_succ]
  refine wpAnyH_take (i := 6) (oi := ?oi6) (v := ?v6) ?hi6 ?hs6 ?hf6 ?hr6 ?hQ6 ?hy6 ?hS6 ?h6
  case hi6 => exact (by simp only [List.getElem?_toArray, List.getElem?_cons_succ, List.getElem?_cons_zero]; rfl)
  case hs6 => kernel_rfl
  case hf6 => kernel_rfl
  case hr6 => kernel_rfl
  case hQ6 => exact fun _ _ _ h => h
  case hy6 =>
    refine Or.inl ⟨rfl, ?_⟩
    intro W hSw
    go_simp
    try with_reducible rfl
  case hS6 => assumption
  try simp only [Act.put, List.setIfInBounds_toArray, List.set_cons_zero, List.set_cons_succ]
  refine wpAnyH_take (i := 7) (oi := ?oi7) (v := ?v7) ?hi7 ?hs7 ?hf7 ?hr7 ?hQ7 ?hy7 ?hS7 ?h7
  case hi7 => exact (by simp only [List.getElem?_toArray, List.getElem?_cons_succ, List.getElem?_cons_zero]; rfl)
  case hs7 => kernel_rfl
  case hf7 => kernel_rfl
  case hr7 => kernel_rfl
  case hQ7 => exact fun _ _ _ h => h
  case hy7 =>
    refine Or.inl ⟨rfl, ?_⟩
    intro W hSw
    go_simp
    try with_reducible rfl
  case hS7 => assumption
  try simp only [Act.put, List.setIfInBounds_toArray, List.set_cons_zero, List.set_cons_succ]
  refine wpAnyH_ready (rs := [8]) (by kernel_rfl) (by simp) ?_
  refine AllReadyH.cons (o := _) rfl (fun K hK => ?_) AllReadyH.nil
  go_simp
  refine (awake_any W2 (HK.out.below HB2.out H1.out.1) (HF.out.below HB2.out H1.out.2) (by have := HZ2.out; have := H1.out.2; omega)).mono ?_
  intro e W3 hp
  obtain ⟨rfl, hc3⟩ := hp
  have hz3 := hc3.size
  have hkeep3 : (W3.rangeAt w.heap.size 0 (wv h) ∧ W3.rangeAt (w.heap.size + 1) 0 (bv bl)) := ⟨fun j u hu => (hc3.cell (p := ⟨w.heap.size, 0 + j, none⟩) (by have := HZ2.out; simp; omega)).trans (hHeld.1 j u hu), fun j u hu => (hc3.cell (p := ⟨w.heap.size + 1, 0 + j, none⟩) (by have := HZ2.out; simp; omega)).trans (hHeld.2 j u hu)⟩
  have HB3 := Lib.hid (HB2.out.trans (hc3.mono HB2.out.size))
  have HZ3 := Lib.hid (show w.heap.size + 1 < W3.heap.size by have := HZ2.out; omega)
  clear hc3 hz3 hHeld
  refine hK.out _ _ hkeep3 (fun hHeld => ?_)
  clear hK K
  try simp only [Act.put, List.setIfInBounds_toArray, List.set_cons_zero, List.set_cons_succ]
  refine wpAnyH_take (i := 9) (oi := ?oi9) (v := ?v9) ?hi9 ?hs9 ?hf9 ?hr9 ?hQ9 ?hy9 ?hS9 ?h9
  case hi9 => exact (by simp only [List.getElem?_toArray, List.getElem?_cons_succ, List.getElem?_cons_zero]; rfl)
  case hs9 => kernel_rfl
  case hf9 => kernel_rfl
  case hr9 => kernel_rfl
  case hQ9 => exact fun _ _ _ h => h
  case hy9 =>
    refine Or.inl ⟨rfl, ?_⟩
    intro W hSw
    go_simp
    try with_reducible rfl
  case hS9 => assumption
  try simp only [Act.put, List.setIfInBounds_toArray, List.set_cons_zero, List.set_cons_succ]
  refine wpAnyH_take (i := 10) (oi := ?oi10) (v := ?v10) ?hi10 ?hs10 ?hf10 ?hr10 ?hQ10 ?hy10 ?hS10 ?h10
  case hi10 => exact (by simp only [List.getElem?_toArray, List.getElem?_cons_succ, List.getElem?_cons_zero]; rfl)
  case hs10 => kernel_rfl
  case hf10 => kernel_rfl
  case hr10 => kernel_rfl
  case hQ10 => exact fun _ _ _ h => h
  case hy10 =>
    refine Or.inl ⟨rfl, ?_⟩
    intro W hSw
    go_simp
    try with_reducible rfl
  case hS10 => assumption
  try simp only [Act.put, List.setIfInBounds_toArray, List.set_cons_zero, List.set_cons_succ]
  refine wpAnyH_done (by kernel_rfl) ?_ _
  go_wp2
  go_ret
  exact ⟨rfl, HB3.out⟩
end Go.Proofs.YtbnmblhpoaaegaaDoor
