/- Plan: the document's Wrong of a mode, and its Window. -/
import Derived.Test.YtccabdhfnjlbdaaF3
namespace Go.Proofs.Ytccabdhfnjlbdaa
open Go.RowKit
set_option maxRecDepth 20000

theorem inB_f {a n b : Int} (h : ¬(a ≤ n ∧ n ≤ b)) : inB a n b = false := by
  unfold inB
  rw [Bool.and_eq_false_iff, decide_eq_false_iff_not, decide_eq_false_iff_not]
  omega
theorem inB_t {a n b : Int} (h : a ≤ n ∧ n ≤ b) : inB a n b = true := by simp [inB, h.1, h.2]
theorem w_K {k b s c e : Int} (h : ¬(1 ≤ k ∧ k ≤ 4)) : wrongM k b s c e = [75] := by
  unfold wrongM
  rw [inB_f h]
  simp [kp]
theorem w_Base {k b s c e : Int} (h1 : 1 ≤ k ∧ k ≤ 4) (h : ¬(0 ≤ b ∧ b ≤ 10000)) : wrongM k b s c e = [66, 97, 115, 101] := by
  unfold wrongM
  rw [inB_t h1, inB_f h]
  simp [kp]
theorem w_Step {k b s c e : Int} (h1 : 1 ≤ k ∧ k ≤ 4) (h2 : 0 ≤ b ∧ b ≤ 10000) (h : ¬(0 ≤ s ∧ s ≤ 10000)) : wrongM k b s c e = [83, 116, 101, 112] := by
  unfold wrongM
  rw [inB_t h1, inB_t h2, inB_f h]
  simp [kp]
theorem w_Cap {k b s c e : Int} (h1 : 1 ≤ k ∧ k ≤ 4) (h2 : 0 ≤ b ∧ b ≤ 10000) (h3 : 0 ≤ s ∧ s ≤ 10000) (h : ¬(b ≤ c ∧ c ≤ 10000)) : wrongM k b s c e = [67, 97, 112] := by
  unfold wrongM
  have h4 : (inB 0 c 10000 && decide (b ≤ c)) = false := by
    rw [Bool.and_eq_false_iff, decide_eq_false_iff_not]
    by_cases hc : b ≤ c
    · exact .inl (inB_f (by omega))
    · exact .inr hc
  rw [inB_t h1, inB_t h2, inB_t h3, h4]
  simp [kp]
theorem w_Every {k b s c e : Int} (h1 : 1 ≤ k ∧ k ≤ 4) (h2 : 0 ≤ b ∧ b ≤ 10000) (h3 : 0 ≤ s ∧ s ≤ 10000) (h4 : b ≤ c ∧ c ≤ 10000) (h : ¬(1 ≤ e ∧ e ≤ 1099511627776)) : wrongM k b s c e = [69, 118, 101, 114, 121] := by
  unfold wrongM
  have h5 : (inB 0 c 10000 && decide (b ≤ c)) = true := by rw [inB_t (by omega)]; simp; omega
  rw [inB_t h1, inB_t h2, inB_t h3, h5, inB_f h]
  simp [kp]
theorem w_none {k b s c e : Int} (h1 : 1 ≤ k ∧ k ≤ 4) (h2 : 0 ≤ b ∧ b ≤ 10000) (h3 : 0 ≤ s ∧ s ≤ 10000) (h4 : b ≤ c ∧ c ≤ 10000) (h : 1 ≤ e ∧ e ≤ 1099511627776) : wrongM k b s c e = [] := by
  unfold wrongM
  have h5 : (inB 0 c 10000 && decide (b ≤ c)) = true := by rw [inB_t (by omega)]; simp; omega
  rw [inB_t h1, inB_t h2, inB_t h3, h5, inB_t h]
  simp [kp]

set_option maxHeartbeats 4000000 in
theorem rwrongM_any (k b s c e : Int) (w : World) : Calls Try.prog 24 #[mV k b s c e] w fun r w' => r = .returned (sV (wrongM k b s c e)) ∧ Below w.heap.size w w' := by
  obtain ⟨w0, hw0⟩ : ∃ w0, w0 = w.alloc (.cells (mCells k b s c e) 23) := ⟨_, rfl⟩
  have hb0 : Below w.heap.size w w0 := by rw [hw0]; exact (Below.refl _ _).alloc (Nat.le_refl _) _
  have hp0 : w0.heap[w.heap.size]? = some (.cells (mCells k b s c e) 23 (0, 0)) := by rw [hw0]; exact heap_alloc_new w _
  have c0 := cell_of_row w0 w.heap.size 0 _ _ _ hp0
  have c1 := cell_of_row w0 w.heap.size 1 _ _ _ hp0
  have c2 := cell_of_row w0 w.heap.size 2 _ _ _ hp0
  have c3 := cell_of_row w0 w.heap.size 3 _ _ _ hp0
  have c4 := cell_of_row w0 w.heap.size 4 _ _ _ hp0
  simp at c0 c1 c2 c3 c4
  have H0 := Lib.hid hw0
  have HB0 := Lib.hid hb0
  clear hw0 hb0 hp0
  go_enter Try.func24, Try.ntmps24
  go_upto_region 1 with (fail)
  rw [← H0.out]
  go_wp2
  all_goals
    go_ret
    refine ⟨?_, HB0.out⟩
    first
      | exact congrArg (fun l => Ending.returned (sV l)) (w_K (by omega)).symm
      | exact congrArg (fun l => Ending.returned (sV l)) (w_Base (by omega) (by omega)).symm
      | exact congrArg (fun l => Ending.returned (sV l)) (w_Step (by omega) (by omega) (by omega)).symm
      | exact congrArg (fun l => Ending.returned (sV l)) (w_Cap (by omega) (by omega) (by omega) (by omega)).symm
      | exact congrArg (fun l => Ending.returned (sV l)) (w_Every (by omega) (by omega) (by omega) (by omega) (by omega)).symm
      | exact congrArg (fun l => Ending.returned (sV l)) (w_none (by omega) (by omega) (by omega) (by omega) (by omega)).symm

theorem win_end {b s c e x : Int} (j : Nat) (hb : 0 ≤ b) (hbc : b ≤ c) (hc : c ≤ 10000) (hs : 0 ≤ s) (he : 1 ≤ e) (h1 : j = 0 ∨ (0 < s ∧ b + s * (j - 1) < c ∧ e * j ≤ x)) (h2 : ¬(x - e * j ≥ e ∧ b + s * j < c ∧ 0 < s)) :
    min (b + s * min (max x 0 / e) 10000) c = if b + s * j > c then c else b + s * j := by
  have hQ0 : 0 ≤ max x 0 / e := Int.ediv_nonneg (by omega) (by omega)
  by_cases hs0 : s = 0
  · subst hs0
    simp
    omega
  have hjQ : (j : Int) ≤ max x 0 / e := by
    rcases h1 with rfl | ⟨_, _, h3⟩
    · simpa using hQ0
    · rw [Int.le_ediv_iff_mul_le (by omega), Int.mul_comm]
      omega
  have hj4 : (j : Int) ≤ 10000 := by
    rcases h1 with rfl | ⟨_, h3, _⟩
    · simp
    · have h4 : (j : Int) - 1 ≤ s * (j - 1) ∨ (j : Int) - 1 < 0 := by
        by_cases hj : (j : Int) - 1 < 0
        · exact .inr hj
        · left
          have := Int.mul_le_mul_of_nonneg_right (show (1 : Int) ≤ s by omega) (show (0 : Int) ≤ j - 1 by omega)
          omega
      omega
  by_cases hcw : b + s * j < c
  · have hx : x - e * j < e := by omega
    have hQ : max x 0 / e = j := by
      have hm : max x 0 < (j + 1) * e := by
        have : (↑j + 1) * e = e * j + e := by rw [Int.add_mul, Int.mul_comm]; omega
        rw [this]
        have : 0 ≤ e * (j : Int) := Int.mul_nonneg (by omega) (by omega)
        omega
      have := Int.ediv_lt_of_lt_mul (by omega) hm
      omega
    rw [hQ, Int.min_eq_left hj4]
    rw [if_neg (by omega)]
    omega
  · have hm : s * (j : Int) ≤ s * min (max x 0 / e) 10000 := Int.mul_le_mul_of_nonneg_left (by omega) (by omega)
    split <;> omega

set_option maxHeartbeats 4000000 in
theorem rwindow_any (k b s c e x : Int) (w : World) (hx : -9223372036854775808 ≤ x ∧ x ≤ 9223372036854775807) : Calls Try.prog 29 #[mV k b s c e, .int .i64 x] w fun r w' => r = .returned (.int .i64 (win k b s c e x)) ∧ Below w.heap.size w w' := by
  obtain ⟨w0, hw0⟩ : ∃ w0, w0 = w.alloc (.cells (mCells k b s c e) 23) := ⟨_, rfl⟩
  have hb0 : Below w.heap.size w w0 := by rw [hw0]; exact (Below.refl _ _).alloc (Nat.le_refl _) _
  have hp0 : w0.heap[w.heap.size]? = some (.cells (mCells k b s c e) 23 (0, 0)) := by rw [hw0]; exact heap_alloc_new w _
  have HCE : Hid (∀ W, Below w0.heap.size w0 W → W.cell? ⟨w.heap.size, 0, none⟩ = some (.int .i64 k) ∧ W.cell? ⟨w.heap.size, 1, none⟩ = some (.int .i64 b) ∧ W.cell? ⟨w.heap.size, 2, none⟩ = some (.int .i64 s) ∧ W.cell? ⟨w.heap.size, 3, none⟩ = some (.int .i64 c) ∧ W.cell? ⟨w.heap.size, 4, none⟩ = some (.int .i64 e)) := fun W hW => by
    have e2 := (hW.block _ (lt_of_block hp0)).trans hp0
    exact ⟨cell_of_row W _ 0 _ _ _ e2, cell_of_row W _ 1 _ _ _ e2, cell_of_row W _ 2 _ _ _ e2, cell_of_row W _ 3 _ _ _ e2, cell_of_row W _ 4 _ _ _ e2⟩
  obtain ⟨mw, hmw⟩ : ∃ mw, mw = wrongM k b s c e := ⟨_, rfl⟩
  have HW : Hid (∀ W, Calls Try.prog 24 #[mV k b s c e] W fun r w' => r = .returned (sV mw) ∧ Below W.heap.size W w') := fun W => by rw [hmw]; exact rwrongM_any k b s c e W
  have H0 := Lib.hid hw0
  have HB0 := Lib.hid hb0
  obtain ⟨c0, c1, c2, c3, c4⟩ := HCE.out w0 (Below.refl _ _)
  obtain ⟨res, hres⟩ : ∃ res, res = win k b s c e x := ⟨_, rfl⟩
  rw [← hres]
  rw [win, ← hmw] at hres
  clear hw0 hb0 hp0
  by_cases he : mw.isEmpty = true
  · have hbd := wrongM_bounds (hmw ▸ he)
    rw [if_pos he] at hres
    have HR := Lib.hid hres
    clear hmw hres
    obtain ⟨-, ⟨hb1, hb2⟩, ⟨hs1, hs2⟩, ⟨hc1, hc2⟩, hbc, he1, he2⟩ := hbd
    go_enter Try.func29, Try.ntmps29
    go_upto_region 1 with (fail)
    rw [← H0.out]
    go_wp2_with fail
    refine (HW.out w0).mono ?_
    rintro r w1 ⟨rfl, hb1'⟩
    have HB1 := Lib.hid hb1'
    clear c0 c1 c2 c3 c4 hb1'
    obtain ⟨c0, c1, c2, c3, c4⟩ := HCE.out w1 HB1.out
    go_wp2_with fail
    go_loopw [5, 1] (fun v y wr => ∃ (j : Nat) (W X : Int), v = .int .i64 W ∧ y = .int .i64 X ∧ Hid (W = b + s * j ∧ X = x - e * j ∧ (j = 0 ∨ (0 < s ∧ b + s * (j - 1) < c ∧ e * j ≤ x))) ∧ b ≤ W ∧ W ≤ 20000 ∧ -9223372036854775808 ≤ X ∧ X ≤ 9223372036854775807 ∧ wr = w1) (fun v _ _ => (20001 - intOf v).toNat)
    case atStart => exact ⟨0, b, x, rfl, rfl, ⟨by simp, by simp, .inl rfl⟩, by omega, by omega, by omega, by omega, by first | rfl | trivial⟩
    case round =>
      obtain ⟨j, W, X, rfl, rfl, HJ, hW1, hW2, hX1, hX2, rfl⟩ := hrel
      by_cases hgo : X ≥ e ∧ W < c ∧ 0 < s
      · obtain ⟨g1, g2, g3⟩ := hgo
        have a1 : wrap64 (W + s) = W + s := wr64 (by omega) (by omega)
        have a2 : wrap64 (X - e) = X - e := wr64 (by omega) (by omega)
        go_wp2
        go_roundw
        case rel =>
          obtain ⟨e1, e2, _⟩ := HJ.out
          refine ⟨j + 1, W + s, X - e, rfl, rfl, ⟨?_, ?_, .inr ⟨g3, ?_, ?_⟩⟩, by omega, by omega, by omega, by omega, by first | rfl | trivial⟩
          · rw [e1]; push_cast; rw [Int.mul_add]; omega
          · rw [e2]; push_cast; rw [Int.mul_add]; omega
          · push_cast; rw [Int.add_sub_cancel, ← e1]; exact g2
          · push_cast; rw [Int.mul_add]; omega
        case measure => simp [intOf]; omega
      · have hr : (if W > c then c else W) = res := by
          obtain ⟨e1, e2, e3⟩ := HJ.out
          rw [HR.out, win_end j hb1 hbc hc2 hs1 he1 e3 (by rw [← e1, ← e2]; exact hgo), e1]
        by_cases gw : W > c
        · rw [if_pos gw] at hr
          subst hr
          go_wp2
          all_goals
            go_ret
            exact ⟨rfl, HB0.out.trans (HB1.out.mono HB0.out.size)⟩
        · rw [if_neg gw] at hr
          subst hr
          go_wp2
          all_goals first | (exfalso; omega) | skip
          all_goals
            go_ret
            exact ⟨rfl, HB0.out.trans (HB1.out.mono HB0.out.size)⟩
  · have hef : mw.isEmpty = false := by simpa using he
    rw [if_neg he] at hres
    subst hres
    clear hmw
    go_enter Try.func29, Try.ntmps29
    go_upto_region 1 with (fail)
    rw [← H0.out]
    go_wp2_with fail
    refine (HW.out w0).mono ?_
    rintro r w1 ⟨rfl, hb1'⟩
    go_wp2
    go_ret
    exact ⟨rfl, HB0.out.trans (hb1'.mono HB0.out.size)⟩
end Go.Proofs.Ytccabdhfnjlbdaa
