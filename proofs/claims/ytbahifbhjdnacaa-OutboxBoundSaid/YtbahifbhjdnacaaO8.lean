/- Outbox: the document's flow. -/
import Derived.Test.YtbahifbhjdnacaaO7
namespace Go.Proofs.Ytbahifbhjdnacaa
open Go.RowKit
set_option maxRecDepth 20000
set_option linter.unusedVariables false
set_option linter.unusedSimpArgs false

abbrev fC (o r f a : Int) : Array Value := #[.int .i64 o, .int .i64 r, .int .i64 f, .int .i64 a]
abbrev FV (o r f a : Int) : Value := .agg (fC o r f a)
abbrev put4 (W : World) (R : Nat) (o r f a : Int) : World := (((W.setCell ⟨R, 0, none⟩ (.int .i64 o)).setCell ⟨R, 1, none⟩ (.int .i64 r)).setCell ⟨R, 2, none⟩ (.int .i64 f)).setCell ⟨R, 3, none⟩ (.int .i64 a)
theorem put4_row {W : World} {R : Nat} {cs : Array Value} (o r f a : Int) (h : W.heap[R]? = some (.cells cs 27 (0, 0))) (hs : cs.size = 4) : (put4 W R o r f a).heap[R]? = some (.cells (fC o r f a) 27 (0, 0)) := by
  obtain ⟨l, rfl⟩ : ∃ l, cs = List.toArray l := ⟨cs.toList, by simp⟩
  match l, hs with
  | [a0, b0, c0, d0], _ => exact four _ _ _ _ h
theorem put4_cells {W : World} {R : Nat} {cs : Array Value} (o r f a : Int) (h : W.heap[R]? = some (.cells cs 27 (0, 0))) (hs : cs.size = 4) :
    (put4 W R o r f a).cell? ⟨R, 0, none⟩ = some (.int .i64 o) ∧ (put4 W R o r f a).cell? ⟨R, 1, none⟩ = some (.int .i64 r) ∧ (put4 W R o r f a).cell? ⟨R, 2, none⟩ = some (.int .i64 f) ∧ (put4 W R o r f a).cell? ⟨R, 3, none⟩ = some (.int .i64 a) := by
  have e := put4_row o r f a h hs
  exact ⟨cell_of_row _ R 0 _ _ _ e, cell_of_row _ R 1 _ _ _ e, cell_of_row _ R 2 _ _ _ e, cell_of_row _ R 3 _ _ _ e⟩
theorem put4_below {k R : Nat} {w W : World} (o r f a : Int) (h : Below k w W) (hk : k ≤ R) : Below k w (put4 W R o r f a) := (((h.setCell hk _).setCell hk _).setCell hk _).setCell hk _

set_option maxHeartbeats 2000000 in
theorem rgone_any (o r f a n : Int) (w : World) (h0 : 0 ≤ f) (h1 : f ≤ o) (h2 : o < 9223372036854775808) :
    Calls Try.prog 11 #[FV o r f a, .int .i64 n] w fun r' w' => r' = .returned (FV o r (goneQ f n) a) ∧ Below w.heap.size w w' := by
  obtain ⟨w0, hw0⟩ : ∃ w0, w0 = (w.alloc (.cells (fC o r f a) 27)).alloc (.cells (fC 0 0 0 0) 27) := ⟨_, rfl⟩
  have hb0 : Below w.heap.size w w0 := by rw [hw0]; exact ((Below.refl _ _).alloc (Nat.le_refl _) _).alloc (by simp) _
  have hr0 : w0.heap[w.heap.size + 1]? = some (.cells (fC 0 0 0 0) 27 (0, 0)) := by
    have := heap_alloc_new (w.alloc (.cells (fC o r f a) 27)) (.cells (fC 0 0 0 0) 27)
    rw [hw0]
    simpa using this
  have hp0 : w0.heap[w.heap.size]? = some (.cells (fC o r f a) 27 (0, 0)) := by
    have hb : Below (w.heap.size + 1) (w.alloc (.cells (fC o r f a) 27)) w0 := by rw [hw0]; exact (Below.refl _ _).alloc (by simp) _
    exact (hb.block _ (by omega)).trans (heap_alloc_new w _)
  have p0 := cell_of_row w0 w.heap.size 0 _ _ _ hp0
  have p1 := cell_of_row w0 w.heap.size 1 _ _ _ hp0
  have p2 := cell_of_row w0 w.heap.size 2 _ _ _ hp0
  have p3 := cell_of_row w0 w.heap.size 3 _ _ _ hp0
  have q0 := cell_of_row w0 (w.heap.size + 1) 0 _ _ _ hr0
  have q1 := cell_of_row w0 (w.heap.size + 1) 1 _ _ _ hr0
  have q2 := cell_of_row w0 (w.heap.size + 1) 2 _ _ _ hr0
  have q3 := cell_of_row w0 (w.heap.size + 1) 3 _ _ _ hr0
  have zf : ∀ i, w0.frozen? ⟨w.heap.size, i, none⟩ = false := fun i => frozen_of_row w0 _ i _ _ hp0
  have zg : ∀ i, w0.frozen? ⟨w.heap.size + 1, i, none⟩ = false := fun i => frozen_of_row w0 _ i _ _ hr0
  simp at p0 p1 p2 p3 q0 q1 q2 q3
  have H0 := Lib.hid hw0
  have HR0 := Lib.hid hr0
  have HP0 := Lib.hid hp0
  have HB0 := Lib.hid hb0
  clear hw0 hr0 hp0 hb0
  by_cases hn : n < 0
  · rw [show goneQ f n = f by unfold goneQ; omega]
    have HC := Lib.hid (put4_cells (W := (w0.setCell ⟨w.heap.size, 2, none⟩ (.int .i64 (f)))) (R := w.heap.size + 1) o r f a (by rw [Below.heap_setCell _ _ _ _ (by show w.heap.size + 1 ≠ w.heap.size; omega)]; exact HR0.out) rfl)
    have HB := Lib.hid (put4_below (W := (w0.setCell ⟨w.heap.size, 2, none⟩ (.int .i64 (f)))) (R := w.heap.size + 1) o r f a (HB0.out.setCell (Nat.le_refl _) _) (Nat.le_succ _))
    go_enter Try.func11, Try.ntmps11
    go_upto_region 1 with (fail)
    rw [← H0.out]
    go_wp2_with fail
    all_goals
      obtain ⟨e0, e1, e2, e3⟩ := HC.out
      exact bodyPost_ret (v := FV o r f a) (by simp [results, Try.results11, go_sem, e0, e1, e2, e3]) rfl ⟨rfl, HB.out⟩
  by_cases hf : f < n
  · rw [show goneQ f n = 0 by unfold goneQ; omega]
    have HC := Lib.hid (put4_cells (W := (w0.setCell ⟨w.heap.size, 2, none⟩ (.int .i64 (0)))) (R := w.heap.size + 1) o r 0 a (by rw [Below.heap_setCell _ _ _ _ (by show w.heap.size + 1 ≠ w.heap.size; omega)]; exact HR0.out) rfl)
    have HB := Lib.hid (put4_below (W := (w0.setCell ⟨w.heap.size, 2, none⟩ (.int .i64 (0)))) (R := w.heap.size + 1) o r 0 a (HB0.out.setCell (Nat.le_refl _) _) (Nat.le_succ _))
    go_enter Try.func11, Try.ntmps11
    go_upto_region 1 with (fail)
    rw [← H0.out]
    go_wp2_with fail
    all_goals
      obtain ⟨e0, e1, e2, e3⟩ := HC.out
      exact bodyPost_ret (v := FV o r 0 a) (by simp [results, Try.results11, go_sem, e0, e1, e2, e3]) rfl ⟨rfl, HB.out⟩
  · rw [show goneQ f n = f - n by unfold goneQ; omega]
    have HC := Lib.hid (put4_cells (W := (w0.setCell ⟨w.heap.size, 2, none⟩ (.int .i64 (f - n)))) (R := w.heap.size + 1) o r (f - n) a (by rw [Below.heap_setCell _ _ _ _ (by show w.heap.size + 1 ≠ w.heap.size; omega)]; exact HR0.out) rfl)
    have HB := Lib.hid (put4_below (W := (w0.setCell ⟨w.heap.size, 2, none⟩ (.int .i64 (f - n)))) (R := w.heap.size + 1) o r (f - n) a (HB0.out.setCell (Nat.le_refl _) _) (Nat.le_succ _))
    go_enter Try.func11, Try.ntmps11
    go_upto_region 1 with (fail)
    rw [← H0.out]
    go_wp2_with fail
    all_goals
      obtain ⟨e0, e1, e2, e3⟩ := HC.out
      exact bodyPost_ret (v := FV o r (f - n) a) (by simp [results, Try.results11, go_sem, e0, e1, e2, e3]) rfl ⟨rfl, HB.out⟩
set_option maxHeartbeats 2000000 in
theorem rask_any (o r f a : Int) (w : World) (h0 : 0 ≤ a) (h1 : a ≤ r) (h2 : r < 9223372036854775808) :
    Calls Try.prog 13 #[FV o r f a] w fun r' w' => r' = .returned (.tuple #[FV o r f (if a < r then a + 1 else a), .bool (decide (a < r))]) ∧ Below w.heap.size w w' := by
  obtain ⟨w0, hw0⟩ : ∃ w0, w0 = (w.alloc (.cells (fC o r f a) 27)).alloc (.cells (fC 0 0 0 0) 27) := ⟨_, rfl⟩
  have hb0 : Below w.heap.size w w0 := by rw [hw0]; exact ((Below.refl _ _).alloc (Nat.le_refl _) _).alloc (by simp) _
  have hr0 : w0.heap[w.heap.size + 1]? = some (.cells (fC 0 0 0 0) 27 (0, 0)) := by
    have := heap_alloc_new (w.alloc (.cells (fC o r f a) 27)) (.cells (fC 0 0 0 0) 27)
    rw [hw0]
    simpa using this
  have hp0 : w0.heap[w.heap.size]? = some (.cells (fC o r f a) 27 (0, 0)) := by
    have hb : Below (w.heap.size + 1) (w.alloc (.cells (fC o r f a) 27)) w0 := by rw [hw0]; exact (Below.refl _ _).alloc (by simp) _
    exact (hb.block _ (by omega)).trans (heap_alloc_new w _)
  have p0 := cell_of_row w0 w.heap.size 0 _ _ _ hp0
  have p1 := cell_of_row w0 w.heap.size 1 _ _ _ hp0
  have p2 := cell_of_row w0 w.heap.size 2 _ _ _ hp0
  have p3 := cell_of_row w0 w.heap.size 3 _ _ _ hp0
  have q0 := cell_of_row w0 (w.heap.size + 1) 0 _ _ _ hr0
  have q1 := cell_of_row w0 (w.heap.size + 1) 1 _ _ _ hr0
  have q2 := cell_of_row w0 (w.heap.size + 1) 2 _ _ _ hr0
  have q3 := cell_of_row w0 (w.heap.size + 1) 3 _ _ _ hr0
  have zf : ∀ i, w0.frozen? ⟨w.heap.size, i, none⟩ = false := fun i => frozen_of_row w0 _ i _ _ hp0
  have zg : ∀ i, w0.frozen? ⟨w.heap.size + 1, i, none⟩ = false := fun i => frozen_of_row w0 _ i _ _ hr0
  simp at p0 p1 p2 p3 q0 q1 q2 q3
  have H0 := Lib.hid hw0
  have HR0 := Lib.hid hr0
  have HP0 := Lib.hid hp0
  have HB0 := Lib.hid hb0
  clear hw0 hr0 hp0 hb0
  by_cases hy : a < r
  · rw [if_pos hy, decide_eq_true hy]
    have HC := Lib.hid (put4_cells (W := (w0.setCell ⟨w.heap.size, 3, none⟩ (.int .i64 (a + 1)))) (R := w.heap.size + 1) o r f (a + 1) (by rw [Below.heap_setCell _ _ _ _ (by show w.heap.size + 1 ≠ w.heap.size; omega)]; exact HR0.out) rfl)
    have HB := Lib.hid (put4_below (W := (w0.setCell ⟨w.heap.size, 3, none⟩ (.int .i64 (a + 1)))) (R := w.heap.size + 1) o r f (a + 1) (HB0.out.setCell (Nat.le_refl _) _) (Nat.le_succ _))
    go_enter Try.func13, Try.ntmps13
    go_upto_region 1 with (fail)
    rw [← H0.out]
    go_wp2_with fail
    all_goals
      obtain ⟨e0, e1, e2, e3⟩ := HC.out
      exact bodyPost_ret (v := .tuple #[FV o r f (a + 1), .bool true]) (by simp [results, Try.results13, go_sem, e0, e1, e2, e3]) rfl ⟨rfl, HB.out⟩
  · rw [if_neg hy, decide_eq_false hy]
    have HC := Lib.hid (put4_cells (W := w0) (R := w.heap.size + 1) o r f a HR0.out rfl)
    have HB := Lib.hid (put4_below (W := w0) (R := w.heap.size + 1) o r f a HB0.out (Nat.le_succ _))
    go_enter Try.func13, Try.ntmps13
    go_upto_region 1 with (fail)
    rw [← H0.out]
    go_wp2_with fail
    all_goals
      obtain ⟨e0, e1, e2, e3⟩ := HC.out
      exact bodyPost_ret (v := .tuple #[FV o r f a, .bool false]) (by simp [results, Try.results13, go_sem, e0, e1, e2, e3]) rfl ⟨rfl, HB.out⟩
set_option maxHeartbeats 2000000 in
theorem rtick_any (o r f a : Int) (w : World) :
    Calls Try.prog 15 #[FV o r f a] w fun r' w' => r' = .returned (FV o r f 0) ∧ Below w.heap.size w w' := by
  obtain ⟨w0, hw0⟩ : ∃ w0, w0 = (w.alloc (.cells (fC o r f a) 27)).alloc (.cells (fC 0 0 0 0) 27) := ⟨_, rfl⟩
  have hb0 : Below w.heap.size w w0 := by rw [hw0]; exact ((Below.refl _ _).alloc (Nat.le_refl _) _).alloc (by simp) _
  have hr0 : w0.heap[w.heap.size + 1]? = some (.cells (fC 0 0 0 0) 27 (0, 0)) := by
    have := heap_alloc_new (w.alloc (.cells (fC o r f a) 27)) (.cells (fC 0 0 0 0) 27)
    rw [hw0]
    simpa using this
  have hp0 : w0.heap[w.heap.size]? = some (.cells (fC o r f a) 27 (0, 0)) := by
    have hb : Below (w.heap.size + 1) (w.alloc (.cells (fC o r f a) 27)) w0 := by rw [hw0]; exact (Below.refl _ _).alloc (by simp) _
    exact (hb.block _ (by omega)).trans (heap_alloc_new w _)
  have p0 := cell_of_row w0 w.heap.size 0 _ _ _ hp0
  have p1 := cell_of_row w0 w.heap.size 1 _ _ _ hp0
  have p2 := cell_of_row w0 w.heap.size 2 _ _ _ hp0
  have p3 := cell_of_row w0 w.heap.size 3 _ _ _ hp0
  have q0 := cell_of_row w0 (w.heap.size + 1) 0 _ _ _ hr0
  have q1 := cell_of_row w0 (w.heap.size + 1) 1 _ _ _ hr0
  have q2 := cell_of_row w0 (w.heap.size + 1) 2 _ _ _ hr0
  have q3 := cell_of_row w0 (w.heap.size + 1) 3 _ _ _ hr0
  have zf : ∀ i, w0.frozen? ⟨w.heap.size, i, none⟩ = false := fun i => frozen_of_row w0 _ i _ _ hp0
  have zg : ∀ i, w0.frozen? ⟨w.heap.size + 1, i, none⟩ = false := fun i => frozen_of_row w0 _ i _ _ hr0
  simp at p0 p1 p2 p3 q0 q1 q2 q3
  have H0 := Lib.hid hw0
  have HR0 := Lib.hid hr0
  have HP0 := Lib.hid hp0
  have HB0 := Lib.hid hb0
  clear hw0 hr0 hp0 hb0
  · skip
    have HC := Lib.hid (put4_cells (W := (w0.setCell ⟨w.heap.size, 3, none⟩ (.int .i64 (0)))) (R := w.heap.size + 1) o r f 0 (by rw [Below.heap_setCell _ _ _ _ (by show w.heap.size + 1 ≠ w.heap.size; omega)]; exact HR0.out) rfl)
    have HB := Lib.hid (put4_below (W := (w0.setCell ⟨w.heap.size, 3, none⟩ (.int .i64 (0)))) (R := w.heap.size + 1) o r f 0 (HB0.out.setCell (Nat.le_refl _) _) (Nat.le_succ _))
    go_enter Try.func15, Try.ntmps15
    go_upto_region 1 with (fail)
    rw [← H0.out]
    go_wp2_with fail
    all_goals
      obtain ⟨e0, e1, e2, e3⟩ := HC.out
      exact bodyPost_ret (v := FV o r f 0) (by simp [results, Try.results15, go_sem, e0, e1, e2, e3]) rfl ⟨rfl, HB.out⟩
end Go.Proofs.Ytbahifbhjdnacaa
