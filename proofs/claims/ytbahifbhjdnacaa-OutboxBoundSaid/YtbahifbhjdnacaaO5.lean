/- Outbox: a flow in memory; what its small calls do. -/
import Derived.Test.YtbahifbhjdnacaaO3
namespace Go.Proofs.Ytbahifbhjdnacaa
open Go.RowKit
set_option maxRecDepth 20000
set_option linter.unusedVariables false
set_option linter.unusedSimpArgs false

/-- A flow in block H. -/
structure Fw (w : World) (H : Nat) (fl out ask rate : Int) : Prop where
  row : w.heap[H]? = some (.cells #[.int .i64 fl, .int .i64 out, .int .i64 ask, .int .i64 rate] 45 (0, 0))
  fl0 : 0 ≤ fl
  flo : fl ≤ out
  ou : out < 9223372036854775808
  as0 : 0 ≤ ask
  asr : ask ≤ rate
  ra : rate < 9223372036854775808
theorem Fw.kept {C : Nat → Prop} {w w' : World} {H : Nat} {fl out ask rate : Int} (h : Fw w H fl out ask rate) (k : Kp C w w') (hc : ¬ C H) : Fw w' H fl out ask rate :=
  ⟨k.heap h.row hc, h.fl0, h.flo, h.ou, h.as0, h.asr, h.ra⟩
theorem Fw.below {w w' : World} {H : Nat} {fl out ask rate : Int} (h : Fw w H fl out ask rate) (k : Below w.heap.size w w') : Fw w' H fl out ask rate :=
  h.kept (Kp.of_below (fun _ => False) k) (fun e => e)
theorem Fw.cell {w : World} {H : Nat} {fl out ask rate : Int} (h : Fw w H fl out ask rate) :
    w.cell? ⟨H, 0, none⟩ = some (.int .i64 fl) ∧ w.cell? ⟨H, 1, none⟩ = some (.int .i64 out) ∧ w.cell? ⟨H, 2, none⟩ = some (.int .i64 ask) ∧ w.cell? ⟨H, 3, none⟩ = some (.int .i64 rate) :=
  ⟨cell_of_row w H 0 _ _ _ h.row, cell_of_row w H 1 _ _ _ h.row, cell_of_row w H 2 _ _ _ h.row, cell_of_row w H 3 _ _ _ h.row⟩
theorem Fw.setFl {w : World} {H : Nat} {fl out ask rate : Int} (h : Fw w H fl out ask rate) (n : Int) (h0 : 0 ≤ n) (h1 : n ≤ out) : Fw (w.setCell ⟨H, 0, none⟩ (.int .i64 n)) H n out ask rate :=
  ⟨by rw [heap_setCell_same w H 0 _ 45 _ h.row]; rfl, h0, h1, h.ou, h.as0, h.asr, h.ra⟩
theorem Fw.setAs {w : World} {H : Nat} {fl out ask rate : Int} (h : Fw w H fl out ask rate) (n : Int) (h0 : 0 ≤ n) (h1 : n ≤ rate) : Fw (w.setCell ⟨H, 2, none⟩ (.int .i64 n)) H fl out n rate :=
  ⟨by rw [heap_setCell_same w H 2 _ 45 _ h.row]; rfl, h.fl0, h.flo, h.ou, h0, h1, h.ra⟩

theorem belowN {B n : Nat} {a w : World} (h : Below B a w) : Below B a (w.drewN n) := ⟨h.os, h.tape, h.output, h.size, h.block⟩
theorem two {W : World} {B : Nat} {a0 b0 : Value} {T : TypeId} (x y : Value) (h : W.heap[B]? = some (.cells #[a0, b0] T (0, 0))) :
    ((W.setCell ⟨B, 0, none⟩ x).setCell ⟨B, 1, none⟩ y).cell? ⟨B, 0, none⟩ = some x ∧ ((W.setCell ⟨B, 0, none⟩ x).setCell ⟨B, 1, none⟩ y).cell? ⟨B, 1, none⟩ = some y := by
  have s1 := heap_setCell_same W B 0 _ T x h
  have s2 := heap_setCell_same _ B 1 _ T y s1
  refine ⟨?_, ?_⟩ <;> · rw [cell_of_row _ B _ _ _ _ s2]; rfl
theorem four {W : World} {B : Nat} {a0 b0 c0 d0 : Value} {T : TypeId} (x y z u : Value) (h : W.heap[B]? = some (.cells #[a0, b0, c0, d0] T (0, 0))) :
    ((((W.setCell ⟨B, 0, none⟩ x).setCell ⟨B, 1, none⟩ y).setCell ⟨B, 2, none⟩ z).setCell ⟨B, 3, none⟩ u).heap[B]? = some (.cells #[x, y, z, u] T (0, 0)) := by
  have s1 := heap_setCell_same W B 0 _ T x h
  have s2 := heap_setCell_same _ B 1 _ T y s1
  have s3 := heap_setCell_same _ B 2 _ T z s2
  have s4 := heap_setCell_same _ B 3 _ T u s3
  exact s4

theorem upto_any (n : Int) (w : World) : Calls Try.prog 19 #[.int .i64 n] w fun r w' => r = .returned (.agg #[.int .i64 0, .int .i64 (max n 0)]) ∧ Below w.heap.size w w' := by
  obtain ⟨w0, hw0⟩ : ∃ w0, w0 = w.alloc (.cells #[.int .i64 0, .int .i64 0] 40) := ⟨_, rfl⟩
  have hb0 : Below w.heap.size w w0 := by rw [hw0]; exact (Below.refl _ _).alloc (Nat.le_refl _) _
  have hq0 : w0.heap[w.heap.size]? = some (.cells #[.int .i64 0, .int .i64 0] 40 (0, 0)) := by rw [hw0]; exact heap_alloc_new w _
  have z0 := cell_of_row w0 w.heap.size 0 _ _ _ hq0
  have z1 := cell_of_row w0 w.heap.size 1 _ _ _ hq0
  have zf : ∀ i, w0.frozen? ⟨w.heap.size, i, none⟩ = false := fun i => frozen_of_row w0 _ i _ _ hq0
  simp at z0 z1
  by_cases hn : n < 0
  case neg =>
    rw [show max n 0 = n by omega]
    have HT := Lib.hid (two (.int .i64 0) (.int .i64 n) hq0)
    have HB := Lib.hid (show Below w.heap.size w ((w0.setCell ⟨w.heap.size, 0, none⟩ (.int .i64 0)).setCell ⟨w.heap.size, 1, none⟩ (.int .i64 n)) from (hb0.setCell (Nat.le_refl _) _).setCell (Nat.le_refl _) _)
    have H0 := Lib.hid hw0
    clear hw0 hb0 hq0
    go_enter Try.func19, Try.ntmps19
    go_upto_region 1 with (fail)
    rw [← H0.out]
    go_wp2
    obtain ⟨e0, e1⟩ := HT.out
    exact bodyPost_ret (v := .agg #[.int .i64 0, .int .i64 n]) (by simp [results, Try.results19, go_sem, e0, e1]) rfl ⟨rfl, HB.out⟩
  case pos =>
    rw [show max n 0 = 0 by omega]
    have HT := Lib.hid (two (.int .i64 0) (.int .i64 0) hq0)
    have HB := Lib.hid (show Below w.heap.size w ((w0.setCell ⟨w.heap.size, 0, none⟩ (.int .i64 0)).setCell ⟨w.heap.size, 1, none⟩ (.int .i64 0)) from (hb0.setCell (Nat.le_refl _) _).setCell (Nat.le_refl _) _)
    have H0 := Lib.hid hw0
    clear hw0 hb0 hq0
    go_enter Try.func19, Try.ntmps19
    go_upto_region 1 with (fail)
    rw [← H0.out]
    go_wp2
    obtain ⟨e0, e1⟩ := HT.out
    exact bodyPost_ret (v := .agg #[.int .i64 0, .int .i64 0]) (by simp [results, Try.results19, go_sem, e0, e1]) rfl ⟨rfl, HB.out⟩
set_option maxHeartbeats 1000000 in
theorem add_yes (H o : Nat) (m M n : Int) (w : World) (h0 : w.cell? ⟨H, o, none⟩ = some (.int .i64 m)) (h1 : w.cell? ⟨H, o + 1, none⟩ = some (.int .i64 M)) (hf : w.frozen? ⟨H, o, none⟩ = false) (hm : 0 ≤ m) (hM : m ≤ M) (hM2 : M < 9223372036854775808) (hn : 0 ≤ n) (hy : n ≤ M - m) :
    Calls Try.prog 21 #[.pointer (some ⟨H, o, none⟩), .int .i64 n] w fun r w' => r = .returned (.bool true) ∧ ∃ wd, Below w.heap.size w wd ∧ w' = wd.setCell ⟨H, o, none⟩ (.int .i64 (m + n)) := by
  go_enter Try.func21, Try.ntmps21
  go_upto_region 1 with (fail)
  go_quiet (fail)
  go_wp2_with fail
  go_ret
  exact ⟨rfl, _, belowN (Below.refl _ _), rfl⟩
set_option maxHeartbeats 1000000 in
theorem add_no (H o : Nat) (m M n : Int) (w : World) (h0 : w.cell? ⟨H, o, none⟩ = some (.int .i64 m)) (h1 : w.cell? ⟨H, o + 1, none⟩ = some (.int .i64 M)) (hm : 0 ≤ m) (hM : m ≤ M) (hM2 : M < 9223372036854775808) (hy : M - m < n) :
    Calls Try.prog 21 #[.pointer (some ⟨H, o, none⟩), .int .i64 n] w fun r w' => r = .returned (.bool false) ∧ Below w.heap.size w w' := by
  go_enter Try.func21, Try.ntmps21
  go_upto_region 1 with (fail)
  go_quiet (fail)
  go_wp2_with fail
  go_ret
  exact ⟨rfl, belowN (Below.refl _ _)⟩
theorem flying_any (H : Nat) (m : Int) (w : World) (h0 : w.cell? ⟨H, 0, none⟩ = some (.int .i64 m)) :
    Calls Try.prog 16 #[.pointer (some ⟨H, 0, none⟩)] w fun r w' => r = .returned (.int .i64 m) ∧ w = w' := by
  go_enter Try.func16, Try.ntmps16
  go_wp2_with fail
  go_ret
  exact ⟨rfl, rfl⟩
theorem asked_any (H : Nat) (m : Int) (w : World) (h0 : w.cell? ⟨H, 2, none⟩ = some (.int .i64 m)) :
    Calls Try.prog 17 #[.pointer (some ⟨H, 2, none⟩)] w fun r w' => r = .returned (.int .i64 m) ∧ w = w' := by
  go_enter Try.func17, Try.ntmps17
  go_wp2_with fail
  go_ret
  exact ⟨rfl, rfl⟩
theorem tick_any {H : Nat} {fl out ask rate : Int} (w : World) (h : Fw w H fl out ask rate) :
    Calls Try.prog 14 #[.pointer (some ⟨H, 2, none⟩)] w fun r w' => r = .returned (.tuple #[]) ∧ Fw w' H fl out 0 rate ∧ Kp (fun k => k = H) w w' := by
  have HF := Lib.hid (h.setAs 0 (Int.le_refl _) (Int.le_trans h.as0 h.asr))
  have h0 := h.cell.2.2.1
  have zf : ∀ i, w.frozen? ⟨H, i, none⟩ = false := fun i => frozen_of_row w _ i _ _ h.row
  clear h
  go_enter Try.func14, Try.ntmps14
  go_wp2_with fail
  refine bodyPost_end (results_none rfl _ _ _) rfl ?_
  exact ⟨rfl, HF.out, Kp.setCell w ⟨H, 2, none⟩ _⟩
theorem ask_any {H : Nat} {fl out ask rate : Int} (w : World) (h : Fw w H fl out ask rate) :
    Calls Try.prog 12 #[.pointer (some ⟨H, 2, none⟩)] w fun r w' => r = .returned (.bool (decide (ask < rate))) ∧ Fw w' H fl out (if ask < rate then ask + 1 else ask) rate ∧ Kp (fun k => k = H) w w' := by
  have HH := Lib.hid h
  by_cases hy : ask < rate
  · have HA := Lib.hid (add_yes H 2 ask rate 1 w h.cell.2.2.1 h.cell.2.2.2 (frozen_of_row w _ 2 _ _ h.row) h.as0 h.asr h.ra (by decide) (by omega))
    rw [decide_eq_true hy, if_pos hy]
    clear h
    go_enter Try.func12, Try.ntmps12
    go_wp2_with fail
    refine HA.out.mono ?_
    rintro r w1 ⟨rfl, wd, hb, rfl⟩
    have HF := Lib.hid ((HH.out.below hb).setAs (ask + 1) (by have := HH.out.as0; omega) (by omega))
    have HK := Lib.hid ((Kp.of_below (fun k => k = H) hb).trans (Kp.setCell wd ⟨H, 2, none⟩ (.int .i64 (ask + 1))) (fun i _ e => e))
    go_wp2_with fail
    go_ret
    exact ⟨rfl, HF.out, HK.out⟩
  · have HA := Lib.hid (add_no H 2 ask rate 1 w h.cell.2.2.1 h.cell.2.2.2 h.as0 h.asr h.ra (by omega))
    rw [decide_eq_false hy, if_neg hy]
    clear h
    go_enter Try.func12, Try.ntmps12
    go_wp2_with fail
    refine HA.out.mono ?_
    rintro r w1 ⟨rfl, hb⟩
    have HF := Lib.hid (HH.out.below hb)
    have HK := Lib.hid (Kp.of_below (fun k => k = H) hb)
    go_wp2_with fail
    go_ret
    exact ⟨rfl, HF.out, HK.out⟩
theorem new_fw (out rate : Int) (w : World) (ho : out < 9223372036854775808) (hr : rate < 9223372036854775808) :
    Calls Try.prog 6 #[.int .i64 out, .int .i64 rate] w fun r w' => ∃ H, r = .returned (.pointer (some ⟨H, 0, none⟩)) ∧ w.heap.size ≤ H ∧ Fw w' H 0 (max out 0) 0 (max rate 0) ∧ Below w.heap.size w w' := by
  go_enter Try.func6, Try.ntmps6
  go_wp2_with fail
  refine (upto_any out w).mono ?_
  rintro r w1 ⟨rfl, hb1⟩
  go_wp2_with fail
  refine (upto_any rate w1).mono ?_
  rintro r w2 ⟨rfl, hb2⟩
  have HB := Lib.hid (hb1.trans (hb2.mono hb1.size))
  clear hb1 hb2
  go_wp2_with fail
  go_ret
  exact ⟨_, rfl, HB.out.size, ⟨heap_alloc_new w2 _, by decide, by omega, by omega, by decide, by omega, by omega⟩, HB.out.alloc HB.out.size _⟩
end Go.Proofs.Ytbahifbhjdnacaa
