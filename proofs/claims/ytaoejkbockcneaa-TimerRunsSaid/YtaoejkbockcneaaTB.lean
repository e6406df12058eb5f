/- Timer: Due without a queue; Add; awake; the walks of TimerNil and TimerAdds. -/
import Derived.Test.YtaoejkbockcneaaTA
import Derived.ProofKit
import Derived.Lib.SmallJoins
import Derived.Deep.Slices
namespace Go.Proofs.Ytaoejkbockcneaa
open Go.RowKit Go.ChangeShapes
set_option maxRecDepth 20000

set_option linter.unusedSimpArgs false in
set_option maxHeartbeats 8000000 in
theorem due_nil (now : Int) (w : World) : Calls Try.prog 17 #[.pointer none, .int .i64 now] w fun r w' => r = .returned (.tuple #[tV 0 0 0, .bool false]) ∧ Below w.heap.size w w' := by
  obtain ⟨w0, hw0⟩ : ∃ w0, w0 = w.alloc (.cells #[.int .i64 0, .int .u32 0, .int .i64 0] 35) := ⟨_, rfl⟩
  obtain ⟨G, hG⟩ : ∃ G, G = w.heap.size := ⟨_, rfl⟩
  have hb0 : Below w.heap.size w w0 := by rw [hw0]; exact (Below.refl _ _).alloc (Nat.le_refl _) _
  have hg0 : w0.heap[G]? = some (.cells #[.int .i64 0, .int .u32 0, .int .i64 0] 35 (0, 0)) := by rw [hw0, hG]; exact heap_alloc_new w _
  have HB0 := Lib.hid hb0
  have HG0 := Lib.hid hg0
  have H0 := Lib.hid hw0
  have HG := Lib.hid hG
  have HNX := Lib.hid (next_nil w0)
  clear hb0 hg0 hw0
  go_enter Try.func17, Try.ntmps17
  go_upto_region 1 with (fail)
  rw [← H0.out, ← hG]
  clear hG
  go_wp2_with fail
  refine HNX.out.mono ?_
  rintro r w1 ⟨rfl, hb1⟩
  obtain ⟨w2, hw2⟩ : ∃ w2, w2 = w1.alloc (.cells #[.int .i64 0, .int .u32 0, .int .i64 0] 35) := ⟨_, rfl⟩
  have hb2 : Below w1.heap.size w1 w2 := by rw [hw2]; exact (Below.refl _ _).alloc (Nat.le_refl _) _
  have HB2 : Hid (Below w.heap.size w w2) := (HB0.out.trans (hb1.mono HB0.out.size)).trans (hb2.mono (Nat.le_trans HB0.out.size hb1.size))
  have hg2 : w2.heap[G]? = some (.cells #[.int .i64 0, .int .u32 0, .int .i64 0] 35 (0, 0)) := (hb2.block G (Nat.lt_of_lt_of_le (lt_of_block HG0.out) hb1.size)).trans ((hb1.block G (lt_of_block HG0.out)).trans HG0.out)
  have g0 := cell_of_row w2 G 0 _ _ _ hg2
  have g1 := cell_of_row w2 G 1 _ _ _ hg2
  have g2 := cell_of_row w2 G 2 _ _ _ hg2
  have gf : ∀ i, w2.frozen? ⟨G, i, none⟩ = false := fun i => frozen_of_row w2 _ i _ _ hg2
  simp at g0 g1 g2
  have g1' := heap_setCell_same w2 G 0 _ 35 (.int .i64 0) hg2
  have g2' := heap_setCell_same _ G 1 _ 35 (.int .u32 0) g1'
  have g3' := heap_setCell_same _ G 2 _ 35 (.int .i64 0) g2'
  have z0 := cell_of_row _ G 0 _ _ _ g3'
  have z1 := cell_of_row _ G 1 _ _ _ g3'
  have z2 := cell_of_row _ G 2 _ _ _ g3'
  simp at z0 z1 z2
  have HBF : Hid (Below w.heap.size w (((w2.setCell ⟨G, 0, none⟩ (.int .i64 0)).setCell ⟨G, 1, none⟩ (.int .u32 0)).setCell ⟨G, 2, none⟩ (.int .i64 0))) := by
    have hGl : w.heap.size ≤ G := by have := HG.out; omega
    exact ((HB2.out.setCell hGl _).setCell hGl _).setCell hGl _
  have H2 := Lib.hid hw2
  clear hb1 hb2 hg2 hw2 g1' g2' g3'
  go_upto_region 2 with (fail)
  rw [← H2.out]
  go_wp2
  exact bodyPost_ret (v := .tuple #[tV 0 0 0, .bool false]) (by simp [results, Try.results17, go_sem, z0, z1, z2]) rfl ⟨rfl, HBF.out⟩

def addP (now some_ : Int) : Int := min (now + max some_ 0) 9223372036854775807
set_option maxHeartbeats 2000000 in
theorem add_any (now s : Int) (w : World) (h1 : -9223372036854775808 ≤ now) (h2 : now ≤ 9223372036854775807) (h4 : s ≤ 9223372036854775807) :
    Calls Try.prog 26 #[.int .i64 now, .int .i64 s] w fun r w' => r = .returned (.int .i64 (addP now s)) ∧ w' = w := by
  by_cases hs : s ≤ 0
  · have hap : addP now s = now := by unfold addP; omega
    have hmx : max s 0 = 0 := by omega
    have hnov : ¬ now > 9223372036854775807 := by omega
    rw [hap]
    go_enter Try.func26, Try.ntmps26
    go_wp2
    all_goals
      go_ret
      refine ⟨?_, rfl⟩
      first | rfl | (simp; omega)
  · have hmx : max s 0 = s := by omega
    by_cases hov : now > 9223372036854775807 - s
    · have hap : addP now s = 9223372036854775807 := by unfold addP; omega
      rw [hap]
      go_enter Try.func26, Try.ntmps26
      go_wp2
      go_ret
      exact ⟨rfl, rfl⟩
    · have hap : addP now s = now + s := by unfold addP; omega
      rw [hap]
      go_enter Try.func26, Try.ntmps26
      go_wp2
      go_ret
      exact ⟨rfl, rfl⟩
set_option maxHeartbeats 2000000 in
theorem radd_any (now s : Int) (w : World) (h1 : -9223372036854775808 ≤ now) (h2 : now ≤ 9223372036854775807) (h3 : -9223372036854775808 ≤ s) (h4 : s ≤ 9223372036854775807) :
    Calls Try.prog 27 #[.int .i64 now, .int .i64 s] w fun r w' => r = .returned (.int .i64 (addP now s)) ∧ w' = w := by
  by_cases hs : s ≤ 0
  · have hap : addP now s = now := by unfold addP; omega
    rw [hap]
    go_enter Try.func27, Try.ntmps27
    go_wp2
    go_ret
    exact ⟨rfl, rfl⟩
  · by_cases hn : now > 0
    · by_cases hov : s > 9223372036854775807 - now
      · have hap : addP now s = 9223372036854775807 := by unfold addP; omega
        rw [hap]
        go_enter Try.func27, Try.ntmps27
        go_wp2
        go_ret
        exact ⟨rfl, rfl⟩
      · have hap : addP now s = now + s := by unfold addP; omega
        rw [hap]
        go_enter Try.func27, Try.ntmps27
        go_wp2
        go_ret
        exact ⟨rfl, rfl⟩
    · have hap : addP now s = now + s := by unfold addP; omega
      rw [hap]
      go_enter Try.func27, Try.ntmps27
      go_wp2
      go_ret
      exact ⟨rfl, rfl⟩

set_option linter.unusedSimpArgs false in
set_option maxHeartbeats 8000000 in
theorem tawake (w : World) : Calls Try.prog 25 #[] w fun r w' => r = .returned (.bool true) ∧ Below w.heap.size w w' := by
  have w17 : wfN 1 7 := ⟨by decide, by decide⟩
  have w27 : wfN 2 7 := ⟨by decide, by decide⟩
  have W17 := Lib.hid w17
  have W27 := Lib.hid w27
  clear w17 w27
  have HNEW := Lib.hid (new_any w.heap.size w (Nat.le_refl _))
  obtain ⟨Q, hQ⟩ : ∃ Q, Q = w.heap.size + 1 := ⟨_, rfl⟩
  rw [← hQ] at HNEW
  clear hQ
  go_enter Try.func25, Try.ntmps25
  go_wp2_with fail
  refine HNEW.out.mono ?_
  rintro r w1 ⟨rfl, hI1, hb1⟩
  have HI1 := Lib.hid hI1
  have HC1 : Hid (Ch 2 w.heap.size w w1) := Ch.of_below (Nat.le_refl _) hb1
  clear hI1 hb1 HNEW
  go_wp2_with fail
  refine (set_any 1 7 5 w1 HI1.out (by decide) (by decide) W17.out).mono ?_
  rintro r w2 ⟨rfl, G1, hI2, hC2⟩
  have HI2 : Hid (IsT w2 w.heap.size Q w.heap.size 1 [(G1, 1, 7, 5, 0)]) := hI2
  have HC2 := Lib.hid (HC1.out.trans hC2)
  clear hI2 hC2
  go_wp2_with fail
  refine (set_any 2 7 5 w2 HI2.out (by simp) (by decide) W27.out).mono ?_
  rintro r w3 ⟨rfl, G2, hI3, hC3⟩
  have HI3 : Hid (IsT w3 w.heap.size Q w.heap.size 2 [(G1, 1, 7, 5, 0), (G2, 2, 7, 5, 1)]) := hI3
  have HC3 := Lib.hid (HC2.out.trans hC3)
  clear hI3 hC3
  go_wp2_with fail
  refine (set_any 1 7 5 w3 HI3.out (by simp) (by decide) W17.out).mono ?_
  rintro r w4 ⟨rfl, G3, hI4, hC4⟩
  have HI4 : Hid (IsT w4 w.heap.size Q w.heap.size 3 [(G2, 2, 7, 5, 1), (G3, 1, 7, 5, 2)]) := hI4
  have HC4 := Lib.hid (HC3.out.trans hC4)
  clear hI4 hC4
  go_wp2_with fail
  refine (due_any 5 w4 HI4.out (by simp)).mono ?_
  rintro r w5 ⟨t, b, L', rfl, hcase, hI5, hC5⟩
  obtain ⟨rfl, rfl, rfl⟩ : b = true ∧ t = tV 2 7 5 ∧ L' = [(G3, 1, 7, 5, 2)] := by
    rcases hcase with ⟨_, _, _, hl⟩ | ⟨hb, e, he, hmin, _, ht, hL⟩
    · have := hl _ (List.mem_cons_self ..)
      simp at this
    · simp only [List.mem_cons, List.not_mem_nil, or_false] at he
      rcases he with rfl | rfl
      · exact ⟨hb, ht, by rw [hL]; rfl⟩
      · have := hmin (G2, 2, 7, 5, 1) (by simp)
        simp [lt] at this
  have HI5 := Lib.hid hI5
  have HC5 := Lib.hid (HC4.out.trans hC5)
  clear hcase hI5 hC5
  obtain ⟨A1, hA1⟩ : ∃ A1, A1 = w5.heap.size := ⟨_, rfl⟩
  obtain ⟨w6, hw6⟩ : ∃ w6, w6 = w5.alloc (.cells #[.int .i64 2, .int .u32 7, .int .i64 5] 35) := ⟨_, rfl⟩
  have hb6 : Below w5.heap.size w5 w6 := by rw [hw6]; exact (Below.refl _ _).alloc (Nat.le_refl _) _
  have HX6 : Hid (w6.heap[A1]? = some (.cells #[.int .i64 2, .int .u32 7, .int .i64 5] 35 (0, 0))) := by rw [hw6, hA1]; exact heap_alloc_new w5 _
  have HI6 := Lib.hid (HI5.out.after hb6)
  have HC6 : Hid (Ch 2 w.heap.size w w6) := HC5.out.trans (Ch.of_below HI5.out.lo hb6)
  have H6 := Lib.hid hw6
  clear hb6 hw6
  go_upto_region 6 with (fail)
  rw [← H6.out, ← hA1]
  clear hA1
  go_wp2_with fail
  refine (due_any 5 w6 HI6.out (by simp)).mono ?_
  rintro r w7 ⟨t, b, L', rfl, hcase, hI7, hC7⟩
  obtain ⟨rfl, rfl⟩ : b = true ∧ t = tV 1 7 5 := by
    rcases hcase with ⟨_, _, _, hl⟩ | ⟨hb, e, he, hmin, _, ht, hL⟩
    · have := hl _ (List.mem_cons_self ..)
      simp at this
    · simp only [List.mem_cons, List.not_mem_nil, or_false] at he
      subst he
      exact ⟨hb, ht⟩
  obtain ⟨A2, hA2⟩ : ∃ A2, A2 = w7.heap.size := ⟨_, rfl⟩
  obtain ⟨w8, hw8⟩ : ∃ w8, w8 = w7.alloc (.cells #[.int .i64 1, .int .u32 7, .int .i64 5] 35) := ⟨_, rfl⟩
  have hb8 : Below w7.heap.size w7 w8 := by rw [hw8]; exact (Below.refl _ _).alloc (Nat.le_refl _) _
  have hx7 := hC7.kept A1 _ HX6.out (by simp [okT])
  have hx8 := (hb8.block A1 (lt_of_block hx7)).trans hx7
  have hy8 : w8.heap[A2]? = some (.cells #[.int .i64 1, .int .u32 7, .int .i64 5] 35 (0, 0)) := by rw [hw8, hA2]; exact heap_alloc_new w7 _
  have HC8 : Hid (Ch 2 w.heap.size w w8) := (HC6.out.trans hC7).trans (Ch.of_below hI7.lo hb8)
  have x0 := cell_of_row w8 A1 0 _ _ _ hx8
  have x1 := cell_of_row w8 A1 1 _ _ _ hx8
  have x2 := cell_of_row w8 A1 2 _ _ _ hx8
  have xf : ∀ i, w8.frozen? ⟨A1, i, none⟩ = false := fun i => frozen_of_row w8 _ i _ _ hx8
  simp at x0 x1 x2
  have y0 := cell_of_row w8 A2 0 _ _ _ hy8
  have y1 := cell_of_row w8 A2 1 _ _ _ hy8
  have y2 := cell_of_row w8 A2 2 _ _ _ hy8
  have yf : ∀ i, w8.frozen? ⟨A2, i, none⟩ = false := fun i => frozen_of_row w8 _ i _ _ hy8
  simp at y0 y1 y2
  have H8 := Lib.hid hw8
  have HAD : Hid (Calls Try.prog 26 #[.int .i64 9223372036854775805, .int .i64 9] w8 fun r w' => r = .returned (.int .i64 9223372036854775807) ∧ w' = w8) := by
    have := add_any 9223372036854775805 9 w8 (by decide) (by decide) (by decide)
    rw [show addP 9223372036854775805 9 = 9223372036854775807 from by decide] at this
    exact this
  clear hcase hI7 hC7 hb8 hx7 hx8 hy8 hw8 xf yf
  go_upto_region 7 with (fail)
  rw [← H8.out, ← hA2]
  clear hA2
  go_wp2_with fail
  refine HAD.out.mono ?_
  rintro r w9 ⟨rfl, hw9⟩
  subst hw9
  go_wp2
  go_ret
  exact ⟨rfl, HC8.out.below⟩

set_option maxHeartbeats 4000000 in
theorem tadds_walk (now s : Int) (w : World) (h1 : -9223372036854775808 ≤ now) (h2 : now ≤ 9223372036854775807) (h3 : -9223372036854775808 ≤ s) (h4 : s ≤ 9223372036854775807) :
    Calls Try.prog 4 #[.int .i64 now, .int .i64 s] w fun r w' => r = .returned (.bool true) ∧ Below w.heap.size w w' := by
  obtain ⟨p, hp⟩ : ∃ p, p = addP now s := ⟨_, rfl⟩
  have HA : Hid (∀ W, Calls Try.prog 26 #[.int .i64 now, .int .i64 s] W fun r w' => r = .returned (.int .i64 p) ∧ w' = W) := fun W => by rw [hp]; exact add_any now s W h1 h2 h4
  have HR : Hid (∀ W, Calls Try.prog 27 #[.int .i64 now, .int .i64 s] W fun r w' => r = .returned (.int .i64 p) ∧ w' = W) := fun W => by rw [hp]; exact radd_any now s W h1 h2 h3 h4
  have HZ : Hid (∀ W, Calls Try.prog 26 #[.int .i64 now, .int .i64 0] W fun r w' => r = .returned (.int .i64 now) ∧ w' = W) := fun W => by
    have := add_any now 0 W h1 h2 (by decide)
    rw [show addP now 0 = now by unfold addP; omega] at this
    exact this
  have hge : p ≥ now := by rw [hp]; unfold addP; omega
  clear hp
  go_enter Try.func4, Try.ntmps4
  go_wp2_with fail
  refine (HA.out _).mono ?_
  rintro r w1 ⟨rfl, rfl⟩
  go_wp2_with fail
  refine (HR.out _).mono ?_
  rintro r w2 ⟨rfl, rfl⟩
  go_wp2_with fail
  refine (HA.out _).mono ?_
  rintro r w3 ⟨rfl, rfl⟩
  go_wp2_with fail
  refine (HZ.out _).mono ?_
  rintro r w4 ⟨rfl, rfl⟩
  go_wp2_with fail
  refine (tawake _).mono ?_
  rintro r w5 ⟨rfl, hb⟩
  go_wp2
  go_ret
  exact ⟨rfl, hb⟩

set_option linter.unusedSimpArgs false in
set_option maxHeartbeats 8000000 in
theorem tnil_walk (k : Int) (x : Nat) (a : Int) (w : World) :
    Calls Try.prog 7 #[.int .i64 k, .int .u32 (x : Int), .int .i64 a] w fun r w' => r = .returned (.bool true) ∧ Below w.heap.size w w' := by
  go_enter Try.func7, Try.ntmps7
  go_wp2_with fail
  refine (set_nil k x a w).mono ?_
  rintro r w1 ⟨rfl, hw1⟩
  subst hw1
  go_wp2_with fail
  refine (findat_nil k x _).mono ?_
  rintro r w2 ⟨rfl, hw2⟩
  subst hw2
  go_wp2_with fail
  refine (next_nil _).mono ?_
  rintro r w3 ⟨rfl, hb3⟩
  obtain ⟨w4, hw4⟩ : ∃ w4, w4 = w3.alloc (.cells #[.int .i64 0, .int .u32 0, .int .i64 0] 35) := ⟨_, rfl⟩
  obtain ⟨A1, hA1⟩ : ∃ A1, A1 = w3.heap.size := ⟨_, rfl⟩
  have hb4 : Below w3.heap.size w3 w4 := by rw [hw4]; exact (Below.refl _ _).alloc (Nat.le_refl _) _
  have HX4 : Hid (w4.heap[A1]? = some (.cells #[.int .i64 0, .int .u32 0, .int .i64 0] 35 (0, 0))) := by rw [hw4, hA1]; exact heap_alloc_new w3 _
  have HB4 : Hid (Below w2.heap.size w2 w4) := hb3.trans (hb4.mono hb3.size)
  have H4 := Lib.hid hw4
  clear hb3 hb4 hw4
  go_upto_region 5 with (fail)
  rw [← H4.out, ← hA1]
  clear hA1
  go_wp2_with fail
  refine (due_nil a w4).mono ?_
  rintro r w5 ⟨rfl, hb5⟩
  obtain ⟨w6, hw6⟩ : ∃ w6, w6 = w5.alloc (.cells #[.int .i64 0, .int .u32 0, .int .i64 0] 35) := ⟨_, rfl⟩
  obtain ⟨A2, hA2⟩ : ∃ A2, A2 = w5.heap.size := ⟨_, rfl⟩
  have hb6 : Below w5.heap.size w5 w6 := by rw [hw6]; exact (Below.refl _ _).alloc (Nat.le_refl _) _
  have hx6 : w6.heap[A2]? = some (.cells #[.int .i64 0, .int .u32 0, .int .i64 0] 35 (0, 0)) := by rw [hw6, hA2]; exact heap_alloc_new w5 _
  have hy6 := (hb6.block A1 (Nat.lt_of_lt_of_le (lt_of_block HX4.out) hb5.size)).trans ((hb5.block A1 (lt_of_block HX4.out)).trans HX4.out)
  have HB6 : Hid (Below w2.heap.size w2 w6) := (HB4.out.trans (hb5.mono HB4.out.size)).trans (hb6.mono (Nat.le_trans HB4.out.size hb5.size))
  have x0 := cell_of_row w6 A2 0 _ _ _ hx6
  have x1 := cell_of_row w6 A2 1 _ _ _ hx6
  have x2 := cell_of_row w6 A2 2 _ _ _ hx6
  have xf : ∀ i, w6.frozen? ⟨A2, i, none⟩ = false := fun i => frozen_of_row w6 _ i _ _ hx6
  simp at x0 x1 x2
  have y0 := cell_of_row w6 A1 0 _ _ _ hy6
  have y1 := cell_of_row w6 A1 1 _ _ _ hy6
  have y2 := cell_of_row w6 A1 2 _ _ _ hy6
  have yf : ∀ i, w6.frozen? ⟨A1, i, none⟩ = false := fun i => frozen_of_row w6 _ i _ _ hy6
  simp at y0 y1 y2
  have H6 := Lib.hid hw6
  clear hb5 hb6 hx6 hy6 hw6 xf yf
  go_upto_region 6 with (fail)
  rw [← H6.out, ← hA2]
  clear hA2
  go_wp2_with fail
  refine (clear_nil k x _).mono ?_
  rintro r w7 ⟨rfl, hw7⟩
  subst hw7
  go_wp2_with fail
  refine (len_nil _).mono ?_
  rintro r w8 ⟨rfl, hw8⟩
  subst hw8
  go_wp2_with fail
  refine (tawake _).mono ?_
  rintro r w9 ⟨rfl, hb9⟩
  have HB9 := Lib.hid (HB6.out.trans (hb9.mono HB6.out.size))
  clear hb9
  go_wp2
  go_ret
  exact ⟨rfl, HB9.out⟩
theorem own : ownKnob Try.prog.godebug = Option.none := by kernel_rfl
end Go.Proofs.Ytaoejkbockcneaa
