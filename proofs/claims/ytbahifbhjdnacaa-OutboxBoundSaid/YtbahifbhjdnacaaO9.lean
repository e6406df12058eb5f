/- Outbox: the document's Send, New. -/
import Derived.Test.YtbahifbhjdnacaaO8
namespace Go.Proofs.Ytbahifbhjdnacaa
open Go.RowKit
set_option maxRecDepth 20000
set_option linter.unusedVariables false
set_option linter.unusedSimpArgs false

set_option maxHeartbeats 2000000 in
theorem rsend_any (o r f a : Int) (v : Value) (fs : List (List UInt8)) (w : World) (h0 : 0 ≤ f) (h1 : f ≤ o) (h2 : o < 9223372036854775808) (hp : Pbs w v fs) (hpl : fs.length ≤ 9223372036854775807) (hql : ∀ p ∈ fs, p.length ≤ 9223372036854775807) (hlen : (wrapP fs).length ≤ 900000) :
    Calls Try.prog 9 #[FV o r f a, v] w fun r' w' => ∃ A n c, r' = .returned (.tuple #[FV o r (f + (sendB f o fs).length) a, .slice A n c, .int .i64 (sendE f o fs)]) ∧ Pb w' (.slice A n c) (sendB f o fs) ∧ Below w.heap.size w w' := by
  obtain ⟨w0, hw0⟩ : ∃ w0, w0 = (w.alloc (.cells (fC o r f a) 27)).alloc (.cells (fC 0 0 0 0) 27) := ⟨_, rfl⟩
  have hb0 : Below w.heap.size w w0 := by rw [hw0]; exact ((Below.refl _ _).alloc (Nat.le_refl _) _).alloc (by simp) _
  have hr0 : w0.heap[w.heap.size + 1]? = some (.cells (fC 0 0 0 0) 27 (0, 0)) := by
    have := heap_alloc_new (w.alloc (.cells (fC o r f a) 27)) (.cells (fC 0 0 0 0) 27)
    rw [hw0]
    simpa using this
  have hp0 : w0.heap[w.heap.size]? = some (.cells (fC o r f a) 27 (0, 0)) := by
    have hb : Below (w.heap.size + 1) (w.alloc (.cells (fC o r f a) 27)) w0 := by rw [hw0]; exact (Below.refl _ _).alloc (by simp) _
    exact (hb.block _ (by omega)).trans (heap_alloc_new w _)
  have hsz : w0.heap.size = w.heap.size + 2 := by rw [hw0]; simp
  have HW := Lib.hid (rwrap_any v fs w0 (hp.below hb0) hpl hql hlen)
  have H0 := Lib.hid hw0
  have HR0 := Lib.hid hr0
  have HP0 := Lib.hid hp0
  have HB0 := Lib.hid hb0
  have HSZ := Lib.hid hsz
  clear hw0 hr0 hp0 hb0 hsz hp hpl hql
  have go : ∀ w1, Below w0.heap.size w0 w1 → w1.heap[w.heap.size]? = some (.cells (fC o r f a) 27 (0, 0)) ∧ w1.heap[w.heap.size + 1]? = some (.cells (fC 0 0 0 0) 27 (0, 0)) := fun w1 hb1 =>
    ⟨(hb1.block _ (by have := HSZ.out; omega)).trans HP0.out, (hb1.block _ (by have := HSZ.out; omega)).trans HR0.out⟩
  have GO := Lib.hid go
  clear go
  cases hg : goodB fs with
  | false =>
    have he : sendE f o fs = 6 := by unfold sendE; rw [hg]; rfl
    have hb : sendB f o fs = [] := sendB_no (by rw [he]; decide)
    rw [he, hb]
    clear he hb
    rw [hg] at HW
    have hx : wrapR fs = [] := by unfold wrapR; rw [hg]; rfl
    rw [hx] at HW
    clear hx hlen hg
    go_enter Try.func9, Try.ntmps9
    go_upto_region 1 with (fail)
    rw [← H0.out]
    go_wp2_with fail
    refine HW.out.mono ?_
    rintro r' w1 ⟨A, n, c, rfl, ho, hb1⟩
    obtain ⟨hp1, hr1⟩ := GO.out w1 hb1
    have p0 := cell_of_row w1 w.heap.size 0 _ _ _ hp1
    have p1 := cell_of_row w1 w.heap.size 1 _ _ _ hp1
    have p2 := cell_of_row w1 w.heap.size 2 _ _ _ hp1
    have p3 := cell_of_row w1 w.heap.size 3 _ _ _ hp1
    have q0 := cell_of_row w1 (w.heap.size + 1) 0 _ _ _ hr1
    have q1 := cell_of_row w1 (w.heap.size + 1) 1 _ _ _ hr1
    have q2 := cell_of_row w1 (w.heap.size + 1) 2 _ _ _ hr1
    have q3 := cell_of_row w1 (w.heap.size + 1) 3 _ _ _ hr1
    have zf : ∀ i, w1.frozen? ⟨w.heap.size, i, none⟩ = false := fun i => frozen_of_row w1 _ i _ _ hp1
    have zg : ∀ i, w1.frozen? ⟨w.heap.size + 1, i, none⟩ = false := fun i => frozen_of_row w1 _ i _ _ hr1
    simp at p0 p1 p2 p3 q0 q1 q2 q3
    have HB1 := Lib.hid (HB0.out.trans (hb1.mono HB0.out.size))
    have HR1 := Lib.hid hr1
    clear hp1 hr1 hb1
    clear ho
    have HC := Lib.hid (put4_cells (W := w1) (R := w.heap.size + 1) o r (f) a HR1.out rfl)
    have HB := Lib.hid (put4_below (W := w1) (R := w.heap.size + 1) o r (f) a HB1.out (Nat.le_succ _))
    go_wp2_with fail
    all_goals
      obtain ⟨e0, e1, e2, e3⟩ := HC.out
      exact bodyPost_ret (v := .tuple #[FV o r f a, .slice none 0 0, .int .i64 6]) (by simp [results, Try.results9, go_sem, e0, e1, e2, e3]) rfl ⟨none, 0, 0, by simp, pb_none _, HB.out⟩
  | true =>
    rw [hg] at HW
    have hx : wrapR fs = wrapP fs := by unfold wrapR; rw [hg]; rfl
    rw [hx] at HW
    clear hx hlen
    obtain ⟨X, hX⟩ : ∃ X, X = wrapP fs := ⟨_, rfl⟩
    rw [← hX] at HW
    by_cases hy : o - f < (X.length : Int)
    · have he : sendE f o fs = 10 := by unfold sendE; rw [hg, ← hX, if_pos rfl, if_pos hy]
      have hb : sendB f o fs = [] := sendB_no (by rw [he]; decide)
      rw [he, hb]
      clear he hb hg hX
      go_enter Try.func9, Try.ntmps9
      go_upto_region 1 with (fail)
      rw [← H0.out]
      go_wp2_with fail
      refine HW.out.mono ?_
      rintro r' w1 ⟨A, n, c, rfl, ho, hb1⟩
      obtain ⟨A', c', e, _⟩ := own_pb ho
      injection e with e1 e2 e3
      subst e1 e3
      rw [show (.slice A n c : Value) = .slice A X.length c by rw [e2]] at ho ⊢
      clear e2
      obtain ⟨hp1, hr1⟩ := GO.out w1 hb1
      have p0 := cell_of_row w1 w.heap.size 0 _ _ _ hp1
      have p1 := cell_of_row w1 w.heap.size 1 _ _ _ hp1
      have p2 := cell_of_row w1 w.heap.size 2 _ _ _ hp1
      have p3 := cell_of_row w1 w.heap.size 3 _ _ _ hp1
      have q0 := cell_of_row w1 (w.heap.size + 1) 0 _ _ _ hr1
      have q1 := cell_of_row w1 (w.heap.size + 1) 1 _ _ _ hr1
      have q2 := cell_of_row w1 (w.heap.size + 1) 2 _ _ _ hr1
      have q3 := cell_of_row w1 (w.heap.size + 1) 3 _ _ _ hr1
      have zf : ∀ i, w1.frozen? ⟨w.heap.size, i, none⟩ = false := fun i => frozen_of_row w1 _ i _ _ hp1
      have zg : ∀ i, w1.frozen? ⟨w.heap.size + 1, i, none⟩ = false := fun i => frozen_of_row w1 _ i _ _ hr1
      simp at p0 p1 p2 p3 q0 q1 q2 q3
      have HB1 := Lib.hid (HB0.out.trans (hb1.mono HB0.out.size))
      have HR1 := Lib.hid hr1
      clear hp1 hr1 hb1
      clear ho
      have HC := Lib.hid (put4_cells (W := w1) (R := w.heap.size + 1) o r (f) a HR1.out rfl)
      have HB := Lib.hid (put4_below (W := w1) (R := w.heap.size + 1) o r (f) a HB1.out (Nat.le_succ _))
      go_wp2_with fail
      all_goals
        obtain ⟨e0, e1, e2, e3⟩ := HC.out
        exact bodyPost_ret (v := .tuple #[FV o r f a, .slice none 0 0, .int .i64 10]) (by simp [results, Try.results9, go_sem, e0, e1, e2, e3]) rfl ⟨none, 0, 0, by simp, pb_none _, HB.out⟩
    · have he : sendE f o fs = 0 := by unfold sendE; rw [hg, ← hX, if_pos rfl, if_neg hy]
      have hb : sendB f o fs = X := by rw [sendB_ok he, hX]
      rw [he, hb]
      clear he hb hg hX
      go_enter Try.func9, Try.ntmps9
      go_upto_region 1 with (fail)
      rw [← H0.out]
      go_wp2_with fail
      refine HW.out.mono ?_
      rintro r' w1 ⟨A, n, c, rfl, ho, hb1⟩
      obtain ⟨A', c', e, _⟩ := own_pb ho
      injection e with e1 e2 e3
      subst e1 e3
      rw [show (.slice A n c : Value) = .slice A X.length c by rw [e2]] at ho ⊢
      clear e2
      obtain ⟨hp1, hr1⟩ := GO.out w1 hb1
      have p0 := cell_of_row w1 w.heap.size 0 _ _ _ hp1
      have p1 := cell_of_row w1 w.heap.size 1 _ _ _ hp1
      have p2 := cell_of_row w1 w.heap.size 2 _ _ _ hp1
      have p3 := cell_of_row w1 w.heap.size 3 _ _ _ hp1
      have q0 := cell_of_row w1 (w.heap.size + 1) 0 _ _ _ hr1
      have q1 := cell_of_row w1 (w.heap.size + 1) 1 _ _ _ hr1
      have q2 := cell_of_row w1 (w.heap.size + 1) 2 _ _ _ hr1
      have q3 := cell_of_row w1 (w.heap.size + 1) 3 _ _ _ hr1
      have zf : ∀ i, w1.frozen? ⟨w.heap.size, i, none⟩ = false := fun i => frozen_of_row w1 _ i _ _ hp1
      have zg : ∀ i, w1.frozen? ⟨w.heap.size + 1, i, none⟩ = false := fun i => frozen_of_row w1 _ i _ _ hr1
      simp at p0 p1 p2 p3 q0 q1 q2 q3
      have HB1 := Lib.hid (HB0.out.trans (hb1.mono HB0.out.size))
      have HR1 := Lib.hid hr1
      clear hp1 hr1 hb1
      have HC := Lib.hid (put4_cells (W := (w1.setCell ⟨w.heap.size, 2, none⟩ (.int .i64 (f + (X.length : Int))))) (R := w.heap.size + 1) o r (f + (X.length : Int)) a (by rw [Below.heap_setCell _ _ _ _ (by show w.heap.size + 1 ≠ w.heap.size; omega)]; exact HR1.out) rfl)
      have HB := Lib.hid (put4_below (W := (w1.setCell ⟨w.heap.size, 2, none⟩ (.int .i64 (f + (X.length : Int))))) (R := w.heap.size + 1) o r (f + (X.length : Int)) a (HB1.out.setCell (Nat.le_refl _) _) (Nat.le_succ _))
      have HO := Lib.hid (ownsRow_setCell_below (ownsRow_setCell_below (ownsRow_setCell_below (ownsRow_setCell_below (ownsRow_setCell_below ho (a := ⟨w.heap.size, 2, none⟩) (by have := HSZ.out; show w.heap.size < _; omega) (.int .i64 (f + (X.length : Int)))) (a := ⟨w.heap.size + 1, 0, none⟩) (by have := HSZ.out; show w.heap.size + 1 < _; omega) (.int .i64 o)) (a := ⟨w.heap.size + 1, 1, none⟩) (by have := HSZ.out; show w.heap.size + 1 < _; omega) (.int .i64 r)) (a := ⟨w.heap.size + 1, 2, none⟩) (by have := HSZ.out; show w.heap.size + 1 < _; omega) (.int .i64 (f + (X.length : Int)))) (a := ⟨w.heap.size + 1, 3, none⟩) (by have := HSZ.out; show w.heap.size + 1 < _; omega) (.int .i64 a))
      clear ho
      go_wp2_with fail
      all_goals
        obtain ⟨e0, e1, e2, e3⟩ := HC.out
        exact bodyPost_ret (v := .tuple #[FV o r (f + (X.length : Int)) a, .slice A X.length c, .int .i64 0]) (by simp [results, Try.results9, go_sem, e0, e1, e2, e3]) rfl ⟨A, X.length, c, rfl, own_pb HO.out, HB.out⟩

set_option maxHeartbeats 2000000 in
theorem rnew_any (out rate : Int) (w : World) :
    Calls Try.prog 7 #[.int .i64 out, .int .i64 rate] w fun r' w' => r' = .returned (FV (max out 0) (max rate 0) 0 0) ∧ Below w.heap.size w w' := by
  obtain ⟨w0, hw0⟩ : ∃ w0, w0 = w.alloc (.cells (fC 0 0 0 0) 27) := ⟨_, rfl⟩
  obtain ⟨w1, hw1⟩ : ∃ w1, w1 = w0.alloc (.cells (fC 0 0 0 0) 27) := ⟨_, rfl⟩
  have hb0 : Below w.heap.size w w0 := by rw [hw0]; exact ((Below.refl _ _).alloc (Nat.le_refl _) _)
  have hb01 : Below w0.heap.size w0 w1 := by rw [hw1]; exact ((Below.refl _ _).alloc (Nat.le_refl _) _)
  have hs0 : w0.heap.size = w.heap.size + 1 := by rw [hw0]; simp
  have hr0 : w1.heap[w.heap.size]? = some (.cells (fC 0 0 0 0) 27 (0, 0)) := (hb01.block _ (by omega)).trans (by rw [hw0]; exact heap_alloc_new w _)
  have hp0 : w1.heap[w.heap.size + 1]? = some (.cells (fC 0 0 0 0) 27 (0, 0)) := by rw [hw1, ← hs0]; exact heap_alloc_new w0 _
  have HB0 := Lib.hid (hb0.trans (hb01.mono hb0.size))
  have p0 := cell_of_row w1 (w.heap.size + 1) 0 _ _ _ hp0
  have p1 := cell_of_row w1 (w.heap.size + 1) 1 _ _ _ hp0
  have p2 := cell_of_row w1 (w.heap.size + 1) 2 _ _ _ hp0
  have p3 := cell_of_row w1 (w.heap.size + 1) 3 _ _ _ hp0
  have q0 := cell_of_row w1 w.heap.size 0 _ _ _ hr0
  have q1 := cell_of_row w1 w.heap.size 1 _ _ _ hr0
  have q2 := cell_of_row w1 w.heap.size 2 _ _ _ hr0
  have q3 := cell_of_row w1 w.heap.size 3 _ _ _ hr0
  have zf : ∀ i, w1.frozen? ⟨w.heap.size + 1, i, none⟩ = false := fun i => frozen_of_row w1 _ i _ _ hp0
  have zg : ∀ i, w1.frozen? ⟨w.heap.size, i, none⟩ = false := fun i => frozen_of_row w1 _ i _ _ hr0
  simp at p0 p1 p2 p3 q0 q1 q2 q3
  rw [hw0] at hw1
  have H1 := Lib.hid hw1
  have HR0 := Lib.hid hr0
  clear hw0 hw1 hr0 hp0 hb0 hb01 hs0
  rcases (show (0 < out ∧ 0 < rate) ∨ (0 < out ∧ rate ≤ 0) ∨ (out ≤ 0 ∧ 0 < rate) ∨ (out ≤ 0 ∧ rate ≤ 0) by omega) with ⟨ho, hr⟩ | ⟨ho, hr⟩ | ⟨ho, hr⟩ | ⟨ho, hr⟩
  · rw [show max out 0 = out by omega, show max rate 0 = rate by omega]
    have HC := Lib.hid (put4_cells (W := ((w1.setCell ⟨w.heap.size + 1, 0, none⟩ (.int .i64 out)).setCell ⟨w.heap.size + 1, 1, none⟩ (.int .i64 rate))) (R := w.heap.size) out rate 0 0 (by rw [Below.heap_setCell _ _ _ _ (by show w.heap.size ≠ w.heap.size + 1; omega)]; exact (by rw [Below.heap_setCell _ _ _ _ (by show w.heap.size ≠ w.heap.size + 1; omega)]; exact HR0.out)) rfl)
    have HB := Lib.hid (put4_below (W := ((w1.setCell ⟨w.heap.size + 1, 0, none⟩ (.int .i64 out)).setCell ⟨w.heap.size + 1, 1, none⟩ (.int .i64 rate))) (R := w.heap.size) out rate 0 0 ((HB0.out.setCell (Nat.le_succ _) _).setCell (Nat.le_succ _) _) (Nat.le_refl _))
    go_enter Try.func7, Try.ntmps7
    go_upto_region 2 with (fail)
    rw [← H1.out]
    go_wp2_with fail
    all_goals
      obtain ⟨e0, e1, e2, e3⟩ := HC.out
      exact bodyPost_ret (v := FV out rate 0 0) (by simp [results, Try.results7, go_sem, e0, e1, e2, e3]) rfl ⟨rfl, HB.out⟩
  · rw [show max out 0 = out by omega, show max rate 0 = 0 by omega]
    have HC := Lib.hid (put4_cells (W := (w1.setCell ⟨w.heap.size + 1, 0, none⟩ (.int .i64 out))) (R := w.heap.size) out 0 0 0 (by rw [Below.heap_setCell _ _ _ _ (by show w.heap.size ≠ w.heap.size + 1; omega)]; exact HR0.out) rfl)
    have HB := Lib.hid (put4_below (W := (w1.setCell ⟨w.heap.size + 1, 0, none⟩ (.int .i64 out))) (R := w.heap.size) out 0 0 0 (HB0.out.setCell (Nat.le_succ _) _) (Nat.le_refl _))
    go_enter Try.func7, Try.ntmps7
    go_upto_region 2 with (fail)
    rw [← H1.out]
    go_wp2_with fail
    all_goals
      obtain ⟨e0, e1, e2, e3⟩ := HC.out
      exact bodyPost_ret (v := FV out 0 0 0) (by simp [results, Try.results7, go_sem, e0, e1, e2, e3]) rfl ⟨rfl, HB.out⟩
  · rw [show max out 0 = 0 by omega, show max rate 0 = rate by omega]
    have HC := Lib.hid (put4_cells (W := (w1.setCell ⟨w.heap.size + 1, 1, none⟩ (.int .i64 rate))) (R := w.heap.size) 0 rate 0 0 (by rw [Below.heap_setCell _ _ _ _ (by show w.heap.size ≠ w.heap.size + 1; omega)]; exact HR0.out) rfl)
    have HB := Lib.hid (put4_below (W := (w1.setCell ⟨w.heap.size + 1, 1, none⟩ (.int .i64 rate))) (R := w.heap.size) 0 rate 0 0 (HB0.out.setCell (Nat.le_succ _) _) (Nat.le_refl _))
    go_enter Try.func7, Try.ntmps7
    go_upto_region 2 with (fail)
    rw [← H1.out]
    go_wp2_with fail
    all_goals
      obtain ⟨e0, e1, e2, e3⟩ := HC.out
      exact bodyPost_ret (v := FV 0 rate 0 0) (by simp [results, Try.results7, go_sem, e0, e1, e2, e3]) rfl ⟨rfl, HB.out⟩
  · rw [show max out 0 = 0 by omega, show max rate 0 = 0 by omega]
    have HC := Lib.hid (put4_cells (W := w1) (R := w.heap.size) 0 0 0 0 HR0.out rfl)
    have HB := Lib.hid (put4_below (W := w1) (R := w.heap.size) 0 0 0 0 HB0.out (Nat.le_refl _))
    go_enter Try.func7, Try.ntmps7
    go_upto_region 2 with (fail)
    rw [← H1.out]
    go_wp2_with fail
    all_goals
      obtain ⟨e0, e1, e2, e3⟩ := HC.out
      exact bodyPost_ret (v := FV 0 0 0 0) (by simp [results, Try.results7, go_sem, e0, e1, e2, e3]) rfl ⟨rfl, HB.out⟩
end Go.Proofs.Ytbahifbhjdnacaa
