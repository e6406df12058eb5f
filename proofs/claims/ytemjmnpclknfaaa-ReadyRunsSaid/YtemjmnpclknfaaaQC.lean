/- Ready: calls on no room; awake; acts that came in. -/
import Derived.Test.YtemjmnpclknfaaaQB
import Derived.ProofKit
import Derived.OpenShut
import Derived.Lib.SmallJoins
import Derived.Deep.Slices
import Derived.Deep.Matrix
namespace Go.Proofs.Ytemjmnpclknfaaa.P
open Go.RowKit Go.Maps Go.ChangeShapes
open Go.Joins
set_option maxRecDepth 20000
set_option linter.unusedVariables false
set_option linter.unusedSimpArgs false

theorem own : ownKnob Try.prog.godebug = Option.none := by kernel_rfl
theorem laidOut : laidOutB Try.prog = true := by kernel_rfl
theorem rids_nil (w : World) : Calls Try.prog 16 #[.pointer none] w fun r w' => r = .returned (.slice none 0 0) ∧ w = w' := by
  go_enter Try.func16, Try.ntmps16
  go_wp2
  go_ret
  exact ⟨rfl, rfl⟩
theorem of_nil (p : Nat) (w : World) : Calls Try.prog 13 #[.pointer none, .int .u32 (p : Int)] w fun r w' => r = .returned (.int .u32 ((0 : Nat) : Int)) ∧ Below w.heap.size w w' := by
  have HI := Lib.hid (rids_nil w)
  have HBr : Hid (Below w.heap.size w w) := Below.refl _ _
  go_enter Try.func13, Try.ntmps13
  go_wp2_with fail
  refine HI.out.mono ?_
  rintro r w1 ⟨rfl, rfl⟩
  go_wp2_with fail
  go_loopw [12] (fun u wr => u = .int .i64 0 ∧ Hid (Below w.heap.size w wr)) (fun u _ => 0)
  case atStart => exact ⟨rfl, HBr.out⟩
  case round =>
    obtain ⟨rfl, HV⟩ := hrel
    go_wp2
    go_ret
    exact ⟨rfl, HV.out⟩
set_option maxHeartbeats 4000000 in
theorem at_nil (x : Nat) (w : World) : Calls Try.prog 37 #[.pointer none, .int .u32 (x : Int)] w fun r w' => r = .returned (.tuple #[.agg mZ, .bool false]) ∧ Below w.heap.size w w' := by
  obtain ⟨w0, hw0⟩ : ∃ w0, w0 = w.alloc (.cells (mZ) 86) := ⟨_, rfl⟩
  have hb0 : Below w.heap.size w w0 := by rw [hw0]; exact (Below.refl _ _).alloc (Nat.le_refl _) _
  have hq1 : w0.heap[w.heap.size]? = some (.cells (mZ) 86 (0, 0)) := by rw [hw0]; exact heap_alloc_new w _
  have y0 := cell_of_row _ w.heap.size 0 _ _ _ hq1
  have y1' := cell_of_row _ w.heap.size 1 _ _ _ hq1
  have y2' := cell_of_row _ w.heap.size 2 _ _ _ hq1
  simp at y0 y1' y2'
  have yf : ∀ i, w0.frozen? ⟨w.heap.size, i, none⟩ = false := fun i => frozen_of_row _ _ i _ _ hq1
  have HT := Lib.hid (three (.slice none 0 0) (.slice none 0 0) (.int .i64 0) hq1)
  have HTB := Lib.hid (three_below (.slice none 0 0) (.slice none 0 0) (.int .i64 0) hb0 (Nat.le_refl w.heap.size))
  have H0 := Lib.hid hw0
  clear hw0 hb0 hq1
  go_enter Try.func37, Try.ntmps37
  go_upto_region 1 with (fail)
  rw [← H0.out]
  go_wp2
  obtain ⟨e0, e1, e2, _⟩ := HT.out
  exact bodyPost_ret (v := .tuple #[.agg mZ, .bool false]) (by simp [results, Try.results37, go_sem, e0, e1, e2]) rfl ⟨rfl, HTB.out⟩
set_option maxHeartbeats 4000000 in
theorem check_nil (x : Nat) (w : World) :
    Calls Try.prog 10 #[.pointer none, .int .u32 (x : Int)] w fun r w' => r = .returned (.tuple #[cZ, .bool false]) ∧ Below w.heap.size w w' := by
  obtain ⟨w0, hw0⟩ : ∃ w0, w0 = w.alloc (.cells #[.int .u32 0, .slice none 0 0, .slice none 0 0, .int .i64 0] 33) := ⟨_, rfl⟩
  have hb0 : Below w.heap.size w w0 := by rw [hw0]; exact (Below.refl _ _).alloc (Nat.le_refl _) _
  have hq0 : w0.heap[w.heap.size]? = some (.cells #[.int .u32 0, .slice none 0 0, .slice none 0 0, .int .i64 0] 33 (0, 0)) := by rw [hw0]; exact heap_alloc_new w _
  have HC := Lib.hid (at_nil x w0)
  have H0 := Lib.hid hw0
  have HQ0 := Lib.hid hq0
  have HB0 := Lib.hid hb0
  clear hw0 hb0 hq0
  go_enter Try.func10, Try.ntmps10
  go_upto_region 1 with (fail)
  rw [← H0.out]
  go_wp2_with fail
  refine HC.out.mono ?_
  rintro r w1 ⟨rfl, hb1⟩
  obtain ⟨w2, hw2⟩ : ∃ w2, w2 = w1.alloc (.cells mZ 86) := ⟨_, rfl⟩
  have hb2 : Below w1.heap.size w1 w2 := by rw [hw2]; exact (Below.refl _ _).alloc (Nat.le_refl _) _
  have hb02 := hb1.trans (hb2.mono hb1.size)
  have hq2 := (hb02.block _ (lt_of_block HQ0.out)).trans HQ0.out
  have x0 := cell_of_row w2 w.heap.size 0 _ _ _ hq2
  have x1 := cell_of_row w2 w.heap.size 1 _ _ _ hq2
  have x2 := cell_of_row w2 w.heap.size 2 _ _ _ hq2
  have x3 := cell_of_row w2 w.heap.size 3 _ _ _ hq2
  simp at x0 x1 x2 x3
  have xf : ∀ i, w2.frozen? ⟨w.heap.size, i, none⟩ = false := fun i => frozen_of_row w2 _ i _ _ hq2
  have HBF := Lib.hid (putZ_below (HB0.out.trans (hb02.mono HB0.out.size)) (Nat.le_refl w.heap.size))
  have HCL := Lib.hid (putZ_cells hq2)
  have H2 := Lib.hid hw2
  clear hb1 hb2 hb02 hq2 hw2
  go_upto_region 2 with (fail)
  rw [← H2.out]
  go_wp2_with fail
  obtain ⟨e0, e1, e2, e3⟩ := HCL.out
  exact bodyPost_ret (v := .tuple #[cZ, .bool false]) (by simp [results, Try.results10, go_sem, e0, e1, e2, e3]) rfl ⟨rfl, HBF.out⟩
set_option maxHeartbeats 4000000 in
theorem close_nil (x : Nat) (w : World) :
    Calls Try.prog 23 #[.pointer none, .int .u32 (x : Int)] w fun r w' => r = .returned (.tuple #[cZ, .bool false]) ∧ Below w.heap.size w w' := by
  obtain ⟨w0, hw0⟩ : ∃ w0, w0 = w.alloc (.cells #[.int .u32 0, .slice none 0 0, .slice none 0 0, .int .i64 0] 33) := ⟨_, rfl⟩
  have hb0 : Below w.heap.size w w0 := by rw [hw0]; exact (Below.refl _ _).alloc (Nat.le_refl _) _
  have hq0 : w0.heap[w.heap.size]? = some (.cells #[.int .u32 0, .slice none 0 0, .slice none 0 0, .int .i64 0] 33 (0, 0)) := by rw [hw0]; exact heap_alloc_new w _
  have HC := Lib.hid (check_nil x w0)
  have H0 := Lib.hid hw0
  have HQ0 := Lib.hid hq0
  have HB0 := Lib.hid hb0
  clear hw0 hb0 hq0
  go_enter Try.func23, Try.ntmps23
  go_upto_region 1 with (fail)
  rw [← H0.out]
  go_wp2_with fail
  refine HC.out.mono ?_
  rintro r w1 ⟨rfl, hb1⟩
  obtain ⟨Q, hQ⟩ : ∃ Q, Q = w1.heap.size := ⟨_, rfl⟩
  obtain ⟨w2, hw2⟩ : ∃ w2, w2 = w1.alloc (.cells #[.int .u32 0, .slice none 0 0, .slice none 0 0, .int .i64 0] 33) := ⟨_, rfl⟩
  have hb2 : Below w1.heap.size w1 w2 := by rw [hw2]; exact (Below.refl _ _).alloc (Nat.le_refl _) _
  have hq2 : w2.heap[Q]? = some (.cells #[.int .u32 0, .slice none 0 0, .slice none 0 0, .int .i64 0] 33 (0, 0)) := by rw [hw2, hQ]; exact heap_alloc_new w1 _
  have hb02 := hb1.trans (hb2.mono hb1.size)
  have hr2 := (hb02.block _ (lt_of_block HQ0.out)).trans HQ0.out
  have q0 := cell_of_row w2 Q 0 _ _ _ hq2
  have q1 := cell_of_row w2 Q 1 _ _ _ hq2
  have q2 := cell_of_row w2 Q 2 _ _ _ hq2
  have q3 := cell_of_row w2 Q 3 _ _ _ hq2
  simp at q0 q1 q2 q3
  have qf : ∀ i, w2.frozen? ⟨Q, i, none⟩ = false := fun i => frozen_of_row w2 _ i _ _ hq2
  have x0 := cell_of_row w2 w.heap.size 0 _ _ _ hr2
  have x1 := cell_of_row w2 w.heap.size 1 _ _ _ hr2
  have x2 := cell_of_row w2 w.heap.size 2 _ _ _ hr2
  have x3 := cell_of_row w2 w.heap.size 3 _ _ _ hr2
  simp at x0 x1 x2 x3
  have xf : ∀ i, w2.frozen? ⟨w.heap.size, i, none⟩ = false := fun i => frozen_of_row w2 _ i _ _ hr2
  have HBF := Lib.hid (putZ_below (HB0.out.trans (hb02.mono HB0.out.size)) (Nat.le_refl w.heap.size))
  have HCL := Lib.hid (putZ_cells hr2)
  have H2 := Lib.hid hw2
  have HQQ := Lib.hid hQ
  clear hb1 hb2 hb02 hq2 hw2 hQ hr2
  go_upto_region 2 with (fail)
  rw [← H2.out, ← HQQ.out]
  go_wp2_with fail
  obtain ⟨e0, e1, e2, e3⟩ := HCL.out
  exact bodyPost_ret (v := .tuple #[cZ, .bool false]) (by simp [results, Try.results23, go_sem, e0, e1, e2, e3]) rfl ⟨rfl, HBF.out⟩
set_option maxHeartbeats 4000000 in
theorem decline_nil (p : Nat) (w : World) :
    Calls Try.prog 21 #[.pointer none, .int .u32 (p : Int)] w fun r w' => r = .returned (.tuple #[cZ, .int .i64 12]) ∧ Below w.heap.size w w' := by
  obtain ⟨w0, hw0⟩ : ∃ w0, w0 = w.alloc (.cells #[.int .u32 0, .slice none 0 0, .slice none 0 0, .int .i64 0] 33) := ⟨_, rfl⟩
  have hb0 : Below w.heap.size w w0 := by rw [hw0]; exact (Below.refl _ _).alloc (Nat.le_refl _) _
  have hq0 : w0.heap[w.heap.size]? = some (.cells #[.int .u32 0, .slice none 0 0, .slice none 0 0, .int .i64 0] 33 (0, 0)) := by rw [hw0]; exact heap_alloc_new w _
  have HOF := Lib.hid (of_nil p w0)
  obtain ⟨x, hx⟩ : ∃ x : Nat, x = 0 := ⟨_, rfl⟩
  rw [← hx] at HOF
  have HC : Hid (∀ W, Below w.heap.size w W → Calls Try.prog 23 #[.pointer none, .int .u32 (x : Int)] W fun r w' => r = .returned (.tuple #[cZ, .bool false]) ∧ Below W.heap.size W w') := fun W hW => close_nil x W
  have H0 := Lib.hid hw0
  have HQ0 := Lib.hid hq0
  have HB0 := Lib.hid hb0
  clear hw0 hb0 hq0 hx
  go_enter Try.func21, Try.ntmps21
  go_upto_region 1 with (fail)
  rw [← H0.out]
  go_wp2_with fail
  refine HOF.out.mono ?_
  rintro r w1 ⟨rfl, hb1⟩
  have HB1 := Lib.hid (HB0.out.trans (hb1.mono HB0.out.size))
  have HQ1 := Lib.hid ((hb1.block _ (lt_of_block HQ0.out)).trans HQ0.out)
  clear hb1
  go_wp2_with fail
  refine (HC.out w1 HB1.out).mono ?_
  rintro r w2 ⟨rfl, hb2⟩
  obtain ⟨Q, hQ⟩ : ∃ Q, Q = w2.heap.size := ⟨_, rfl⟩
  obtain ⟨w3, hw3⟩ : ∃ w3, w3 = w2.alloc (.cells #[.int .u32 0, .slice none 0 0, .slice none 0 0, .int .i64 0] 33) := ⟨_, rfl⟩
  have hb3 : Below w2.heap.size w2 w3 := by rw [hw3]; exact (Below.refl _ _).alloc (Nat.le_refl _) _
  have hb23 := hb2.trans (hb3.mono hb2.size)
  have hr3 := (hb23.block _ (lt_of_block HQ1.out)).trans HQ1.out
  have x0 := cell_of_row w3 w.heap.size 0 _ _ _ hr3
  have x1 := cell_of_row w3 w.heap.size 1 _ _ _ hr3
  have x2 := cell_of_row w3 w.heap.size 2 _ _ _ hr3
  have x3 := cell_of_row w3 w.heap.size 3 _ _ _ hr3
  simp at x0 x1 x2 x3
  have xf : ∀ i, w3.frozen? ⟨w.heap.size, i, none⟩ = false := fun i => frozen_of_row w3 _ i _ _ hr3
  have HBF := Lib.hid (putZ_below (HB1.out.trans (hb23.mono HB1.out.size)) (Nat.le_refl w.heap.size))
  have HCL := Lib.hid (putZ_cells hr3)
  have H3 := Lib.hid hw3
  clear hb2 hb3 hb23 hr3 hw3 hQ
  go_upto_region 2 with (fail)
  rw [← H3.out]
  go_wp2_with fail
  obtain ⟨e0, e1, e2, e3⟩ := HCL.out
  exact bodyPost_ret (v := .tuple #[cZ, .int .i64 12]) (by simp [results, Try.results21, go_sem, e0, e1, e2, e3]) rfl ⟨rfl, HBF.out⟩
set_option maxHeartbeats 4000000 in
theorem acc_nil (p : Nat) (w : World) :
    Calls Try.prog 20 #[.pointer none, .int .u32 (p : Int)] w fun r w' => r = .returned (.tuple #[cZ, .bool false, .int .i64 12]) ∧ Below w.heap.size w w' := by
  obtain ⟨w0, hw0⟩ : ∃ w0, w0 = w.alloc (.cells #[.int .u32 0, .slice none 0 0, .slice none 0 0, .int .i64 0] 33) := ⟨_, rfl⟩
  have hb0 : Below w.heap.size w w0 := by rw [hw0]; exact (Below.refl _ _).alloc (Nat.le_refl _) _
  have hq0 : w0.heap[w.heap.size]? = some (.cells #[.int .u32 0, .slice none 0 0, .slice none 0 0, .int .i64 0] 33 (0, 0)) := by rw [hw0]; exact heap_alloc_new w _
  have HOF := Lib.hid (of_nil p w0)
  obtain ⟨x, hx⟩ : ∃ x : Nat, x = 0 := ⟨_, rfl⟩
  rw [← hx] at HOF
  have H0 := Lib.hid hw0
  have HQ0 := Lib.hid hq0
  have HB0 := Lib.hid hb0
  have HC : Hid (∀ W, Below w.heap.size w W → Calls Try.prog 37 #[.pointer none, .int .u32 (x : Int)] W fun r w' => r = .returned (.tuple #[.agg mZ, .bool false]) ∧ Below W.heap.size W w') := fun W hW => at_nil x W
  clear hw0 hq0 hb0 hx
  go_enter Try.func20, Try.ntmps20
  go_upto_region 1 with (fail)
  rw [← H0.out]
  go_wp2_with fail
  refine HOF.out.mono ?_
  rintro r w1 ⟨rfl, hb1⟩
  have HB1 := Lib.hid (HB0.out.trans (hb1.mono HB0.out.size))
  have HQ1 := Lib.hid ((hb1.block _ (lt_of_block HQ0.out)).trans HQ0.out)
  clear hb1
  go_wp2_with fail
  refine (HC.out w1 HB1.out).mono ?_
  rintro r w2 ⟨rfl, hb2⟩
  obtain ⟨w3, hw3⟩ : ∃ w3, w3 = w2.alloc (.cells mZ 86) := ⟨_, rfl⟩
  have hb3 : Below w2.heap.size w2 w3 := by rw [hw3]; exact (Below.refl _ _).alloc (Nat.le_refl _) _
  have hb23 := hb2.trans (hb3.mono hb2.size)
  have hr3 := (hb23.block _ (lt_of_block HQ1.out)).trans HQ1.out
  have x0 := cell_of_row w3 w.heap.size 0 _ _ _ hr3
  have x1 := cell_of_row w3 w.heap.size 1 _ _ _ hr3
  have x2 := cell_of_row w3 w.heap.size 2 _ _ _ hr3
  have x3 := cell_of_row w3 w.heap.size 3 _ _ _ hr3
  simp at x0 x1 x2 x3
  have xf : ∀ i, w3.frozen? ⟨w.heap.size, i, none⟩ = false := fun i => frozen_of_row w3 _ i _ _ hr3
  have HCL := Lib.hid (putZ_cells hr3)
  have HBF := Lib.hid (putZ_below (HB1.out.trans (hb23.mono HB1.out.size)) (Nat.le_refl w.heap.size))
  have H3 := Lib.hid hw3
  clear hb2 hb3 hb23 hr3 hw3
  go_upto_region 3 with (fail)
  rw [← H3.out]
  go_wp2_with fail
  obtain ⟨e0, e1, e2, e3⟩ := HCL.out
  exact bodyPost_ret (v := .tuple #[cZ, .bool false, .int .i64 12]) (by simp [results, Try.results20, go_sem, e0, e1, e2, e3]) rfl ⟨rfl, HBF.out⟩
theorem open_nil (id : Nat) (t : Int) (A : Option Addr) (n c : Nat) (w : World) : Calls Try.prog 19 #[.pointer none, .int .u32 (id : Int), .int .i64 t, .slice A n c] w fun r w' => r = .returned (.int .i64 10) ∧ w = w' := by
  go_enter Try.func19, Try.ntmps19
  go_wp2
  go_ret
  exact ⟨rfl, rfl⟩
/-! ## awake -/
abbrev g1 : Pt := ⟨3, 9, [5, 6], []⟩
abbrev g2 : Pt := ⟨3, 9, [5, 6], [5]⟩
theorem aw1 : openE 4 [] 3 [5, 6] = 0 := by decide
theorem aw2 : openL 4 [] 3 9 [5, 6] = [g1] := by unfold openL; rw [if_pos aw1]; rfl
set_option maxHeartbeats 4000000 in
theorem awake_any (w : World) : Calls Try.prog 18 #[] w fun r w' => r = .returned (.bool true) ∧ Below w.heap.size w w' := by
  have HN := Lib.hid (new_bk 4 w)
  have C1 : Hid (∀ W B vi (A : Option Addr), Bk W B w.heap.size 4 vi [] → Rn W A [5, 6] → Calls Try.prog 19 #[bp B, .int .u32 3, .int .i64 9, .slice A 2 2] W fun r w' => r = .returned (.int .i64 0) ∧ PutP B w.heap.size 4 vi [g1] W w') := fun W B vi A h hr => by
    have := open_any B w.heap.size 4 vi [] 3 9 A 2 2 [5, 6] W h (by simp) (by simp) rfl hr (by decide) (by decide)
    rw [aw1, aw2] at this
    exact this
  have C2 : Hid (∀ W B vi, Bk W B w.heap.size 4 vi [g1] → Calls Try.prog 20 #[bp B, .int .u32 5] W fun r w' => AccP B w.heap.size 4 vi [g2] 3 g1 [5] false W r w') := fun W B vi h => by
    have := acc_some B w.heap.size 4 vi [g1] 5 g1 W h (by simp) (by simp) rfl (by decide) (by decide) (by decide) (by decide)
    rw [if_neg (by decide), decide_eq_false (by decide)] at this
    exact this
  have C3 : Hid (∀ W B vi, Bk W B w.heap.size 4 vi [g2] → Calls Try.prog 20 #[bp B, .int .u32 6] W fun r w' => AccP B w.heap.size 4 vi [] 3 g2 [5, 6] true W r w') := fun W B vi h => by
    have := acc_some B w.heap.size 4 vi [g2] 6 g2 W h (by simp) (by simp) rfl (by decide) (by decide) (by decide) (by decide)
    rw [if_pos (by decide), decide_eq_true (by decide)] at this
    exact this
  have C4 : Hid (∀ W B vi, Bk W B w.heap.size 4 vi [] → Calls Try.prog 13 #[bp B, .int .u32 5] W fun r w' => r = .returned (.int .u32 0) ∧ Below W.heap.size W w') := fun W B vi h => of_any B w.heap.size 4 vi [] 5 W h (by simp) (fun e he => by cases he)
  go_enter Try.func18, Try.ntmps18
  go_wp2_with fail
  refine HN.out.mono ?_
  rintro r w1 ⟨B, rfl, hB, hbk1, hb1⟩
  rw [show max (4 : Int) 0 = 4 from by decide] at hbk1
  obtain ⟨w2, hw2⟩ : ∃ w2, w2 = w1.alloc (.cells #[.int .u32 5, .int .u32 6] 26) := ⟨_, rfl⟩
  have hb2 : Below w1.heap.size w1 w2 := by rw [hw2]; exact (Below.refl _ _).alloc (Nat.le_refl _) _
  have hq2 : w2.heap[w1.heap.size]? = some (.cells #[.int .u32 5, .int .u32 6] 26 (0, 0)) := by rw [hw2]; exact heap_alloc_new w1 _
  have hr2 : Rn w2 (some ⟨w1.heap.size, 0, none⟩) [5, 6] := fun _ => ⟨_, 0, rfl, lt_of_block hq2, fun j x hj => by
    rw [Nat.zero_add, cell_of_row w2 _ j _ _ _ hq2]
    match j, hj with
    | 0, hj => simp at hj; subst hj; rfl
    | 1, hj => simp at hj; subst hj; rfl⟩
  have HC1 := Lib.hid (C1.out w2 B _ _ (hbk1.after hb2) hr2)
  have HB2 := Lib.hid (hb1.trans (hb2.mono hb1.size))
  have H2 := Lib.hid hw2
  clear hb1 hb2 hq2 hr2 hw2 hbk1
  go_upto_region 2 with (fail)
  go_wp2_with fail
  rw [← H2.out]
  refine HC1.out.mono ?_
  rintro r w3 ⟨rfl, v3, k3, s3⟩
  have HB3 := Lib.hid (HB2.out.trans s3.below)
  have HC2 := Lib.hid (C2.out w3 B v3 k3)
  clear s3 k3 HC1
  go_wp2_with fail
  refine HC2.out.mono ?_
  rintro r w4 ⟨u4, rfl, ⟨A1, A2, c1, c2, rfl, -, -⟩, v4, k4, s4⟩
  obtain ⟨w5, hw5⟩ : ∃ w5, w5 = w4.alloc (.cells #[.int .u32 3, .slice A1 2 c1, .slice A2 1 c2, .int .i64 9] 33) := ⟨_, rfl⟩
  have hb5 : Below w4.heap.size w4 w5 := by rw [hw5]; exact (Below.refl _ _).alloc (Nat.le_refl _) _
  have HB4 : Hid (Below w.heap.size w w4) := HB3.out.trans s4.below
  have HC3 := Lib.hid (C3.out w5 B v4 (k4.after hb5))
  have HB5 := Lib.hid (HB4.out.trans (hb5.mono HB4.out.size))
  have H5 := Lib.hid hw5
  clear s4 k4 hw5 hb5 HC2
  go_upto_region 4 with (fail)
  go_wp2_with fail
  rw [← H5.out]
  refine HC3.out.mono ?_
  rintro r w6 ⟨u6, rfl, ⟨A3, A4, c3, c4, rfl, -, -⟩, v6, k6, s6⟩
  obtain ⟨w7, hw7⟩ : ∃ w7, w7 = w6.alloc (.cells #[.int .u32 3, .slice A3 2 c3, .slice A4 2 c4, .int .i64 9] 33) := ⟨_, rfl⟩
  have hb7 : Below w6.heap.size w6 w7 := by rw [hw7]; exact (Below.refl _ _).alloc (Nat.le_refl _) _
  have HB6 : Hid (Below w.heap.size w w6) := HB5.out.trans s6.below
  have HC4 := Lib.hid (C4.out w7 B v6 (k6.after hb7))
  have HB7 := Lib.hid (HB6.out.trans (hb7.mono HB6.out.size))
  have H7 := Lib.hid hw7
  clear s6 k6 hw7 hb7 HC3
  go_upto_region 5 with (fail)
  rw [← H7.out]
  go_wp2_with fail
  refine HC4.out.mono ?_
  rintro r w8 ⟨rfl, hb8⟩
  have HB8 := Lib.hid (HB7.out.trans (hb8.mono HB7.out.size))
  clear hb8
  go_wp2
  go_ret
  exact ⟨rfl, HB8.out⟩
end Go.Proofs.Ytemjmnpclknfaaa.P
