/- Plan: PlanUsual's walk. -/
import Derived.Test.YtpomddmeachbbaaP6
import Derived.Test.YtpomddmeachbbaaP8
import Derived.Test.YtpomddmeachbbaaPH
namespace Go.Proofs.Ytpomddmeachbbaa
open Go.RowKit
set_option maxRecDepth 20000

theorem field31 (C : Cfg) (A : Option Addr) (n c : Nat) (w : World) : (Instr.field 31 (.agg (C.cells (.slice A n c))) 8).run Try.prog w = .ok (.slice A n c) w := by kernel_rfl

set_option linter.unusedSimpArgs false in
set_option maxHeartbeats 40000000 in
theorem usual_walk (A : Option Addr) (c : Nat) (l : List Md) (x : Int) (w : World) (hM : Ms w w.heap.size A l) (hl : l.length ≤ 9223372036854775807) (hx : -9223372036854775808 ≤ x ∧ x ≤ 9223372036854775807) :
    Calls Try.prog 5 #[.slice A l.length c, .int .i64 x] w fun r w' => r = .returned (.bool true) ∧ Below w.heap.size w w' := by
  obtain ⟨n, hn⟩ : ∃ n, n = l.length := ⟨_, rfl⟩
  rw [← hn] at hl ⊢
  by_cases h1 : 10 < n
  · have t : decide ((n : Int) > 10) = true := by rw [decide_eq_true_iff]; omega
    clear hn
    go_enter Try.func5, Try.ntmps5
    go_wp2
    go_ret
    exact ⟨rfl, Below.refl _ _⟩
  have t1 : decide ((n : Int) > 10) = false := by rw [decide_eq_false_iff_not]; omega
  have hn1000 : n ≤ 1000 := by omega
  have HN := Lib.hid hn
  obtain ⟨us, hus⟩ : ∃ us, us = usualC := ⟨_, rfl⟩
  have HC1 : Hid (Calls Try.prog 21 #[.slice A n c] w fun r w' => ∃ B c', r = .returned (.agg (us.cells (.slice B n c'))) ∧ Ms w' w'.heap.size B l ∧ Below w.heap.size w w') := by rw [hus]; exact rusual_any A n c l w HN.out hM hn1000
  have HC2 : Hid (∀ W B c', Ms W W.heap.size B l → Calls Try.prog 12 #[.agg (us.cells (.slice B n c'))] W fun r w' => ∃ B c', r = .returned (.agg (us.cells (.slice B n c'))) ∧ Ms w' w'.heap.size B l ∧ Below W.heap.size W w') := fun W B c' h => config_any us B n c' l W HN.out h hn1000
  have HC3 : Hid (∀ W B c', Ms W W.heap.size B l → Calls Try.prog 22 #[.slice B n c'] W fun r w' => ∃ B c', r = .returned (.agg (us.cells (.slice B n c'))) ∧ Ms w' w'.heap.size B l ∧ Below W.heap.size W w') := fun W B c' h => by rw [hus]; exact usual_any B n c' l W HN.out h hn1000
  have HM : Hid (∀ W, Below w.heap.size w W → Ms W W.heap.size A l) := fun W h => (hM.below h).mono h.size
  clear hn hus
  go_enter Try.func5, Try.ntmps5
  go_wp2_with fail
  refine HC1.out.mono ?_
  rintro r w1 ⟨B1, c1, rfl, hM1, hb1⟩
  obtain ⟨w0, hw0⟩ : ∃ w0, w0 = w1.alloc (.cells (us.cells (.slice B1 n c1)) 24) := ⟨_, rfl⟩
  have hp0 : w0.heap[w1.heap.size]? = some (.cells (us.cells (.slice B1 n c1)) 24 (0, 0)) := by rw [hw0]; exact heap_alloc_new w1 _
  have hb10 : Below w1.heap.size w1 w0 := by rw [hw0]; exact (Below.refl _ _).alloc (Nat.le_refl _) _
  obtain ⟨P, hP⟩ : ∃ P, P = w1.heap.size := ⟨_, rfl⟩
  rw [← hP] at hp0
  have HBw : Hid (Below w.heap.size w w0) := hb1.trans (hb10.mono hb1.size)
  have HM1 : Hid (∀ W, Below w0.heap.size w0 W → Ms W W.heap.size B1 l) := fun W h => (((hM1.below hb10).mono hb10.size).below h).mono h.size
  have HCP : Hid (∀ W, Below w0.heap.size w0 W → W.cell? ⟨P, 0, none⟩ = some (sV us.key) ∧ W.cell? ⟨P, 1, none⟩ = some (.int .i64 us.n1) ∧ W.cell? ⟨P, 2, none⟩ = some (.int .i64 us.n2) ∧ W.cell? ⟨P, 3, none⟩ = some (.int .i64 us.n3) ∧ W.cell? ⟨P, 4, none⟩ = some (.int .i64 us.n4) ∧ W.cell? ⟨P, 5, none⟩ = some (.int .i64 us.t1) ∧ W.cell? ⟨P, 6, none⟩ = some (.int .i64 us.t2) ∧ W.cell? ⟨P, 7, none⟩ = some (.int .i64 us.t3) ∧ W.cell? ⟨P, 8, none⟩ = some (.int .i64 us.t4) ∧ W.cell? ⟨P, 9, none⟩ = some (.int .i64 us.t5) ∧ W.cell? ⟨P, 10, none⟩ = some (.int .i64 us.t6) ∧ W.cell? ⟨P, 11, none⟩ = some (.int .i64 us.rate) ∧ W.cell? ⟨P, 12, none⟩ = some (.int .i64 us.out) ∧ W.cell? ⟨P, 13, none⟩ = some (.slice B1 n c1)) := fun W hW => by
    have e1 := (hW.block _ (lt_of_block hp0)).trans hp0
    exact ⟨cell_of_row W _ 0 _ _ _ e1, cell_of_row W _ 1 _ _ _ e1, cell_of_row W _ 2 _ _ _ e1, cell_of_row W _ 3 _ _ _ e1, cell_of_row W _ 4 _ _ _ e1, cell_of_row W _ 5 _ _ _ e1, cell_of_row W _ 6 _ _ _ e1, cell_of_row W _ 7 _ _ _ e1, cell_of_row W _ 8 _ _ _ e1, cell_of_row W _ 9 _ _ _ e1, cell_of_row W _ 10 _ _ _ e1, cell_of_row W _ 11 _ _ _ e1, cell_of_row W _ 12 _ _ _ e1, cell_of_row W _ 13 _ _ _ e1⟩
  have H0 := Lib.hid hw0
  have HP := Lib.hid hP
  have HBr : Hid (Below w0.heap.size w0 w0) := Below.refl _ _
  clear hw0 hp0 hb10 hP hb1 hM1 hM t1
  go_upto_region 4 with (fail)
  rw [← H0.out, ← HP.out]
  generalize Value.agg (us.cells (Value.slice B1 n c1)) = cv
  obtain ⟨x0, x1, x2, x3, x4, x5, x6, x7, x8, x9, x10, x11, x12, x13⟩ := HCP.out w0 HBr.out
  go_wp2_with fail
  refine (HC2.out w0 B1 c1 (HM1.out _ HBr.out)).mono ?_
  rintro r w2 ⟨B2, c2, rfl, hM2, hb2⟩
  have HB2 := Lib.hid hb2
  have hfl : ∀ W : World, (Instr.field 31 (.agg (us.cells (.slice B2 n c2))) 8).run Try.prog W = .ok (.slice B2 n c2) W := fun W => field31 us B2 n c2 W
  clear hb2 x0 x1 x2 x3 x4 x5 x6 x7 x8 x9 x10 x11 x12 x13
  go_wp2_with fail
  refine (HC3.out w2 B2 c2 hM2).mono ?_
  rintro r w3 ⟨B3, c3, rfl, hM3, hb3⟩
  clear hfl
  obtain ⟨w4, hw4⟩ : ∃ w4, w4 = w3.alloc (.cells (us.cells (.slice B3 n c3)) 31) := ⟨_, rfl⟩
  have hb4 : Below w3.heap.size w3 w4 := by rw [hw4]; exact (Below.refl _ _).alloc (Nat.le_refl _) _
  have hq4 : w4.heap[w3.heap.size]? = some (.cells (us.cells (.slice B3 n c3)) 31 (0, 0)) := by rw [hw4]; exact heap_alloc_new w3 _
  obtain ⟨Q, hQ⟩ : ∃ Q, Q = w3.heap.size := ⟨_, rfl⟩
  rw [← hQ] at hq4
  have hb03 : Below w0.heap.size w0 w3 := HB2.out.trans (hb3.mono HB2.out.size)
  have HB4 : Hid (Below w0.heap.size w0 w4) := hb03.trans (hb4.mono hb03.size)
  have HM3 : Hid (∀ W, Below w4.heap.size w4 W → Ms W W.heap.size B3 l) := fun W h => (((hM3.below hb4).mono hb4.size).below h).mono h.size
  have HCQ : Hid (∀ W, Below w4.heap.size w4 W → W.cell? ⟨Q, 0, none⟩ = some (sV us.key) ∧ W.cell? ⟨Q, 1, none⟩ = some (.int .i64 us.n1) ∧ W.cell? ⟨Q, 2, none⟩ = some (.int .i64 us.n2) ∧ W.cell? ⟨Q, 3, none⟩ = some (.int .i64 us.n3) ∧ W.cell? ⟨Q, 4, none⟩ = some (.int .i64 us.n4) ∧ W.cell? ⟨Q, 5, none⟩ = some (.int .i64 us.t1) ∧ W.cell? ⟨Q, 6, none⟩ = some (.int .i64 us.t2) ∧ W.cell? ⟨Q, 7, none⟩ = some (.int .i64 us.t3) ∧ W.cell? ⟨Q, 8, none⟩ = some (.int .i64 us.t4) ∧ W.cell? ⟨Q, 9, none⟩ = some (.int .i64 us.t5) ∧ W.cell? ⟨Q, 10, none⟩ = some (.int .i64 us.t6) ∧ W.cell? ⟨Q, 11, none⟩ = some (.int .i64 us.rate) ∧ W.cell? ⟨Q, 12, none⟩ = some (.int .i64 us.out) ∧ W.cell? ⟨Q, 13, none⟩ = some (.slice B3 n c3)) := fun W hW => by
    have e1 := (hW.block _ (lt_of_block hq4)).trans hq4
    exact ⟨cell_of_row W _ 0 _ _ _ e1, cell_of_row W _ 1 _ _ _ e1, cell_of_row W _ 2 _ _ _ e1, cell_of_row W _ 3 _ _ _ e1, cell_of_row W _ 4 _ _ _ e1, cell_of_row W _ 5 _ _ _ e1, cell_of_row W _ 6 _ _ _ e1, cell_of_row W _ 7 _ _ _ e1, cell_of_row W _ 8 _ _ _ e1, cell_of_row W _ 9 _ _ _ e1, cell_of_row W _ 10 _ _ _ e1, cell_of_row W _ 11 _ _ _ e1, cell_of_row W _ 12 _ _ _ e1, cell_of_row W _ 13 _ _ _ e1⟩
  have H4 := Lib.hid hw4
  have HQ := Lib.hid hQ
  clear hw4 hq4 hb4 hQ hb3 hM3 hM2 hb03
  go_upto_region 5 with (fail)
  rw [← H4.out, ← HQ.out]
  obtain ⟨x0, x1, x2, x3, x4, x5, x6, x7, x8, x9, x10, x11, x12, x13⟩ := HCQ.out w4 (Below.refl _ _)
  have HBw4 : Hid (Below w.heap.size w w4) := HBw.out.trans (HB4.out.mono HBw.out.size)
  have HCP4 : Hid (∀ W, Below w4.heap.size w4 W → W.cell? ⟨P, 0, none⟩ = some (sV us.key) ∧ W.cell? ⟨P, 1, none⟩ = some (.int .i64 us.n1) ∧ W.cell? ⟨P, 2, none⟩ = some (.int .i64 us.n2) ∧ W.cell? ⟨P, 3, none⟩ = some (.int .i64 us.n3) ∧ W.cell? ⟨P, 4, none⟩ = some (.int .i64 us.n4) ∧ W.cell? ⟨P, 5, none⟩ = some (.int .i64 us.t1) ∧ W.cell? ⟨P, 6, none⟩ = some (.int .i64 us.t2) ∧ W.cell? ⟨P, 7, none⟩ = some (.int .i64 us.t3) ∧ W.cell? ⟨P, 8, none⟩ = some (.int .i64 us.t4) ∧ W.cell? ⟨P, 9, none⟩ = some (.int .i64 us.t5) ∧ W.cell? ⟨P, 10, none⟩ = some (.int .i64 us.t6) ∧ W.cell? ⟨P, 11, none⟩ = some (.int .i64 us.rate) ∧ W.cell? ⟨P, 12, none⟩ = some (.int .i64 us.out) ∧ W.cell? ⟨P, 13, none⟩ = some (.slice B1 n c1)) := fun W hW => HCP.out W (HB4.out.trans (hW.mono HB4.out.size))
  have HM14 : Hid (∀ W, Below w4.heap.size w4 W → Ms W W.heap.size B1 l) := fun W hW => HM1.out W (HB4.out.trans (hW.mono HB4.out.size))
  have HMA : Hid (∀ W, Below w4.heap.size w4 W → Ms W W.heap.size A l) := fun W hW => HM.out W (HBw4.out.trans (hW.mono HBw4.out.size))
  have HC5 : Hid (∀ W, Ms W W.heap.size B3 l → Calls Try.prog 25 #[.agg (us.cells (.slice B3 n c3))] W fun r w' => ∃ B c', r = .returned (.agg (us.cells (.slice B n c'))) ∧ Ms w' w'.heap.size B l ∧ Below W.heap.size W w') := fun W h => back_any us B3 n c3 l W HN.out h hn1000
  have HC6 : Hid (∀ W B c', Ms W W.heap.size B l → Ms W W.heap.size B1 l → Calls Try.prog 24 #[.agg (us.cells (.slice B n c')), .agg (us.cells (.slice B1 n c1))] W fun r w' => r = .returned (.bool true) ∧ Below W.heap.size W w') := fun W B c' h h' => same_any us B B1 n c' c1 l W HN.out h h' hn1000
  clear HCP HM1 HM HC1 HC2 HC3 HB2 HBr H4 HQ HP H0 HBw
  clear HB4
  have HCP := HCP4
  have HM1 := HM14
  have HBw := HBw4
  clear HCP4 HM14 HBw4
  have HX : Hid (Ms w4 w4.heap.size B3 l) := HM3.out _ (Below.refl _ _)
  by_cases hin : 0 ≤ x ∧ x < n
  · obtain ⟨i, rfl⟩ : ∃ i : Nat, x = (i : Int) := ⟨x.toNat, by omega⟩
    have hi : i < n := by omega
    obtain ⟨⟨mk, mb, ms, mq, me⟩, hm⟩ : ∃ m, l[i]? = some m := ⟨l[i]'(by rw [← HN.out]; exact hi), List.getElem?_eq_getElem _⟩
    have HMO : Hid (Calls Try.prog 23 #[.agg (us.cells (.slice B3 n c3)), .int .i64 (i : Int)] w4 fun r w' => r = .returned (.tuple #[mV mk mb ms mq me, .bool true]) ∧ Below w4.heap.size w4 w') := modeAt_any us B3 n c3 l i mk mb ms mq me w4 HN.out HX.out hn1000 hin (by rw [Int.toNat_natCast]; exact hm)
    have hMA := HMA.out w4 (Below.refl _ _)
    obtain ⟨b1, o1, rfl, hb1, hat⟩ := hMA (by have := HN.out; omega)
    have HAT0 : Hid (At5 w4 b1 (o1 + i * 5) ⟨mk, mb, ms, mq, me⟩) := hat i _ hm
    have HBL := Lib.hid hb1
    clear hMA hat hm hb1 hn1000 HMA
    go_wp2_with fail
    refine HMO.out.mono ?_
    rintro r w5 ⟨rfl, hb5⟩
    obtain ⟨w9, hw9⟩ : ∃ w9, w9 = w5.alloc (.cells (mCells mk mb ms mq me) 35) := ⟨_, rfl⟩
    have hr9 : w9.heap[w5.heap.size]? = some (.cells (mCells mk mb ms mq me) 35 (0, 0)) := by rw [hw9]; exact heap_alloc_new w5 _
    obtain ⟨R, hR⟩ : ∃ R, R = w5.heap.size := ⟨_, rfl⟩
    rw [← hR] at hr9
    have hb9 : Below w4.heap.size w4 w9 := by rw [hw9]; exact hb5.alloc hb5.size _
    have HR := Lib.hid hR
    have H9 := Lib.hid hw9
    have HBw9 : Hid (Below w.heap.size w w9) := HBw.out.trans (hb9.mono HBw.out.size)
    have HAT : Hid (∀ W, Below w9.heap.size w9 W → W.cell? ⟨b1, o1 + i * 5, none⟩ = some (.int .i64 mk) ∧ W.cell? ⟨b1, o1 + i * 5 + 1, none⟩ = some (.int .i64 mb) ∧ W.cell? ⟨b1, o1 + i * 5 + 2, none⟩ = some (.int .i64 ms) ∧ W.cell? ⟨b1, o1 + i * 5 + 3, none⟩ = some (.int .i64 mq) ∧ W.cell? ⟨b1, o1 + i * 5 + 4, none⟩ = some (.int .i64 me)) := fun W hW => (HAT0.out.below hb9 HBL.out).below hW (Nat.lt_of_lt_of_le HBL.out hb9.size)
    have HCR : Hid (∀ W, Below w9.heap.size w9 W → W.cell? ⟨R, 0, none⟩ = some (.int .i64 mk) ∧ W.cell? ⟨R, 1, none⟩ = some (.int .i64 mb) ∧ W.cell? ⟨R, 2, none⟩ = some (.int .i64 ms) ∧ W.cell? ⟨R, 3, none⟩ = some (.int .i64 mq) ∧ W.cell? ⟨R, 4, none⟩ = some (.int .i64 me)) := fun W hW => by
      have e1 := (hW.block _ (lt_of_block hr9)).trans hr9
      exact ⟨cell_of_row W _ 0 _ _ _ e1, cell_of_row W _ 1 _ _ _ e1, cell_of_row W _ 2 _ _ _ e1, cell_of_row W _ 3 _ _ _ e1, cell_of_row W _ 4 _ _ _ e1⟩
    have HCP9 : Hid (∀ W, Below w9.heap.size w9 W → W.cell? ⟨P, 0, none⟩ = some (sV us.key) ∧ W.cell? ⟨P, 1, none⟩ = some (.int .i64 us.n1) ∧ W.cell? ⟨P, 2, none⟩ = some (.int .i64 us.n2) ∧ W.cell? ⟨P, 3, none⟩ = some (.int .i64 us.n3) ∧ W.cell? ⟨P, 4, none⟩ = some (.int .i64 us.n4) ∧ W.cell? ⟨P, 5, none⟩ = some (.int .i64 us.t1) ∧ W.cell? ⟨P, 6, none⟩ = some (.int .i64 us.t2) ∧ W.cell? ⟨P, 7, none⟩ = some (.int .i64 us.t3) ∧ W.cell? ⟨P, 8, none⟩ = some (.int .i64 us.t4) ∧ W.cell? ⟨P, 9, none⟩ = some (.int .i64 us.t5) ∧ W.cell? ⟨P, 10, none⟩ = some (.int .i64 us.t6) ∧ W.cell? ⟨P, 11, none⟩ = some (.int .i64 us.rate) ∧ W.cell? ⟨P, 12, none⟩ = some (.int .i64 us.out) ∧ W.cell? ⟨P, 13, none⟩ = some (.slice B1 n c1)) := fun W hW => HCP.out W (hb9.trans (hW.mono hb9.size))
    have HCQ9 : Hid (∀ W, Below w9.heap.size w9 W → W.cell? ⟨Q, 0, none⟩ = some (sV us.key) ∧ W.cell? ⟨Q, 1, none⟩ = some (.int .i64 us.n1) ∧ W.cell? ⟨Q, 2, none⟩ = some (.int .i64 us.n2) ∧ W.cell? ⟨Q, 3, none⟩ = some (.int .i64 us.n3) ∧ W.cell? ⟨Q, 4, none⟩ = some (.int .i64 us.n4) ∧ W.cell? ⟨Q, 5, none⟩ = some (.int .i64 us.t1) ∧ W.cell? ⟨Q, 6, none⟩ = some (.int .i64 us.t2) ∧ W.cell? ⟨Q, 7, none⟩ = some (.int .i64 us.t3) ∧ W.cell? ⟨Q, 8, none⟩ = some (.int .i64 us.t4) ∧ W.cell? ⟨Q, 9, none⟩ = some (.int .i64 us.t5) ∧ W.cell? ⟨Q, 10, none⟩ = some (.int .i64 us.t6) ∧ W.cell? ⟨Q, 11, none⟩ = some (.int .i64 us.rate) ∧ W.cell? ⟨Q, 12, none⟩ = some (.int .i64 us.out) ∧ W.cell? ⟨Q, 13, none⟩ = some (.slice B3 n c3)) := fun W hW => HCQ.out W (hb9.trans (hW.mono hb9.size))
    have HM19 : Hid (∀ W, Below w9.heap.size w9 W → Ms W W.heap.size B1 l) := fun W hW => HM1.out W (hb9.trans (hW.mono hb9.size))
    have HM39 : Hid (∀ W, Below w9.heap.size w9 W → Ms W W.heap.size B3 l) := fun W hW => HM3.out W (hb9.trans (hW.mono hb9.size))
    have HB9 : Hid (Below w9.heap.size w9 w9) := Below.refl _ _
    clear hb5 hw9 hr9 hR hb9 x0 x1 x2 x3 x4 x5 x6 x7 x8 x9 x10 x11 x12 x13 HCP HCQ HM1 HM3 HX HMO HAT0 HBw
    have HCP := HCP9
    have HCQ := HCQ9
    have HM1 := HM19
    have HM3 := HM39
    have HBw := HBw9
    clear HCP9 HCQ9 HM19 HM39 HBw9
    go_upto_region 6 with (fail)
    rw [← H9.out, ← HR.out]
    have hge : (0 : Int) ≤ i := by omega
    have hlt2 : (i : Int) < n := by omega
    have hneq : ∀ W : World, (binOp .neq 35 (mV mk mb ms mq me) (mV mk mb ms mq me)).run Try.prog W = .ok (.bool false) W := fun W => neq35 mk mb ms mq me W
    have hgd := guard35
    have HSr : Hid ((fun W : World => (W.cell? ⟨R, 0, none⟩ = some (.int .i64 mk) ∧ W.cell? ⟨R, 1, none⟩ = some (.int .i64 mb) ∧ W.cell? ⟨R, 2, none⟩ = some (.int .i64 ms) ∧ W.cell? ⟨R, 3, none⟩ = some (.int .i64 mq) ∧ W.cell? ⟨R, 4, none⟩ = some (.int .i64 me)) ∧ W.cell? ⟨b1, o1 + i * 5, none⟩ = some (.int .i64 mk) ∧ W.cell? ⟨b1, o1 + i * 5 + 1, none⟩ = some (.int .i64 mb) ∧ W.cell? ⟨b1, o1 + i * 5 + 2, none⟩ = some (.int .i64 ms) ∧ W.cell? ⟨b1, o1 + i * 5 + 3, none⟩ = some (.int .i64 mq) ∧ W.cell? ⟨b1, o1 + i * 5 + 4, none⟩ = some (.int .i64 me)) w9.drew) := ⟨HCR.out _ HB9.out.drew, HAT.out _ HB9.out.drew⟩
    refine wp_region_held_drew (S := fun W : World => (W.cell? ⟨R, 0, none⟩ = some (.int .i64 mk) ∧ W.cell? ⟨R, 1, none⟩ = some (.int .i64 mb) ∧ W.cell? ⟨R, 2, none⟩ = some (.int .i64 ms) ∧ W.cell? ⟨R, 3, none⟩ = some (.int .i64 mq) ∧ W.cell? ⟨R, 4, none⟩ = some (.int .i64 me)) ∧ W.cell? ⟨b1, o1 + i * 5, none⟩ = some (.int .i64 mk) ∧ W.cell? ⟨b1, o1 + i * 5 + 1, none⟩ = some (.int .i64 mb) ∧ W.cell? ⟨b1, o1 + i * 5 + 2, none⟩ = some (.int .i64 ms) ∧ W.cell? ⟨b1, o1 + i * 5 + 3, none⟩ = some (.int .i64 mq) ∧ W.cell? ⟨b1, o1 + i * 5 + 4, none⟩ = some (.int .i64 me)) (by kernel_rfl) HSr.out (fun hHeld => ?_)
    obtain ⟨V0, hV0⟩ : ∃ V0, V0 = w9.drew := ⟨_, rfl⟩
    have HV0 : Hid (Below w9.heap.size w9 V0) := by rw [hV0]; exact HB9.out.drew
    rw [← hV0] at hHeld HSr ⊢
    clear hV0
    refine wpAnyH_take (i := 0) (oi := ?oi0a) (v := ?v0a) ?hi0a ?hs0a ?hf0a ?hr0a ?hQ0a ?hy0a ?hS0a ?h0a
    case hi0a => exact (by simp only [List.getElem?_toArray, List.getElem?_cons_zero]; rfl)
    case hs0a => kernel_rfl
    case hf0a => kernel_rfl
    case hr0a => kernel_rfl
    case hQ0a => exact fun _ _ _ h => h
    case hy0a =>
      refine Or.inl ⟨rfl, ?_⟩
      intro W hSw
      obtain ⟨⟨u0, u1, u2, u3, u4⟩, v0, v1, v2, v3, v4⟩ := hSw
      go_simp
      try with_reducible rfl
    case hS0a => assumption
    try simp only [Act.put, List.setIfInBounds_toArray, List.set_cons_zero, List.set_cons_succ]
    refine wpAnyH_take (i := 1) (oi := ?oi1a) (v := ?v1a) ?hi1a ?hs1a ?hf1a ?hr1a ?hQ1a ?hy1a ?hS1a ?h1a
    case hi1a => exact (by simp only [List.getElem?_toArray, List.getElem?_cons_succ, List.getElem?_cons_zero]; rfl)
    case hs1a => kernel_rfl
    case hf1a => kernel_rfl
    case hr1a => kernel_rfl
    case hQ1a => exact fun _ _ _ h => h
    case hy1a =>
      refine Or.inl ⟨rfl, ?_⟩
      intro W hSw
      obtain ⟨⟨u0, u1, u2, u3, u4⟩, v0, v1, v2, v3, v4⟩ := hSw
      go_simp
      try with_reducible rfl
    case hS1a => assumption
    try simp only [Act.put, List.setIfInBounds_toArray, List.set_cons_zero, List.set_cons_succ]
    refine wpAnyH_take (i := 2) (oi := ?oi2a) (v := (.bool true)) ?hi2a ?hs2a ?hf2a ?hr2a ?hQ2a ?hy2a ?hS2a ?h2a
    case hi2a => exact (by simp only [List.getElem?_toArray, List.getElem?_cons_succ, List.getElem?_cons_zero]; rfl)
    case hs2a => kernel_rfl
    case hf2a => kernel_rfl
    case hr2a => kernel_rfl
    case hQ2a => exact fun _ _ _ h => h
    case hy2a =>
      refine Or.inl ⟨rfl, ?_⟩
      intro W hSw
      obtain ⟨⟨u0, u1, u2, u3, u4⟩, v0, v1, v2, v3, v4⟩ := hSw
      go_simp
      try simp [hge]
    case hS2a => assumption
    try simp only [Act.put, List.setIfInBounds_toArray, List.set_cons_zero, List.set_cons_succ]
    refine wpAnyH_take (i := 3) (oi := ?oi3a) (v := ?v3a) ?hi3a ?hs3a ?hf3a ?hr3a ?hQ3a ?hy3a ?hS3a ?h3a
    case hi3a => exact (by simp only [List.getElem?_toArray, List.getElem?_cons_succ, List.getElem?_cons_zero]; rfl)
    case hs3a => kernel_rfl
    case hf3a => kernel_rfl
    case hr3a => kernel_rfl
    case hQ3a => exact fun _ _ _ h => h
    case hy3a =>
      refine Or.inl ⟨rfl, ?_⟩
      intro W hSw
      obtain ⟨⟨u0, u1, u2, u3, u4⟩, v0, v1, v2, v3, v4⟩ := hSw
      go_simp
      try with_reducible rfl
    case hS3a => assumption
    try simp only [Act.put, List.setIfInBounds_toArray, List.set_cons_zero, List.set_cons_succ]
    refine wpAnyH_take (i := 4) (oi := ?oi4a) (v := ?v4a) ?hi4a ?hs4a ?hf4a ?hr4a ?hQ4a ?hy4a ?hS4a ?h4a
    case hi4a => exact (by simp only [List.getElem?_toArray, List.getElem?_cons_succ, List.getElem?_cons_zero]; rfl)
    case hs4a => kernel_rfl
    case hf4a => kernel_rfl
    case hr4a => kernel_rfl
    case hQ4a => exact fun _ _ _ h => h
    case hy4a =>
      refine Or.inl ⟨rfl, ?_⟩
      intro W hSw
      obtain ⟨⟨u0, u1, u2, u3, u4⟩, v0, v1, v2, v3, v4⟩ := hSw
      go_simp
      try with_reducible rfl
    case hS4a => assumption
    try simp only [Act.put, List.setIfInBounds_toArray, List.set_cons_zero, List.set_cons_succ]
    refine wpAnyH_take (i := 5) (oi := ?oi5a) (v := ?v5a) ?hi5a ?hs5a ?hf5a ?hr5a ?hQ5a ?hy5a ?hS5a ?h5a
    case hi5a => exact (by simp only [List.getElem?_toArray, List.getElem?_cons_succ, List.getElem?_cons_zero]; rfl)
    case hs5a => kernel_rfl
    case hf5a => kernel_rfl
    case hr5a => kernel_rfl
    case hQ5a => exact fun _ _ _ h => h
    case hy5a =>
      refine Or.inl ⟨rfl, ?_⟩
      intro W hSw
      obtain ⟨⟨u0, u1, u2, u3, u4⟩, v0, v1, v2, v3, v4⟩ := hSw
      go_simp
      try with_reducible rfl
    case hS5a => assumption
    try simp only [Act.put, List.setIfInBounds_toArray, List.set_cons_zero, List.set_cons_succ]
    refine wpAnyH_take (i := 6) (oi := ?oi6a) (v := ?v6a) ?hi6a ?hs6a ?hf6a ?hr6a ?hQ6a ?hy6a ?hS6a ?h6a
    case hi6a => exact (by simp only [List.getElem?_toArray, List.getElem?_cons_succ, List.getElem?_cons_zero]; rfl)
    case hs6a => kernel_rfl
    case hf6a => kernel_rfl
    case hr6a => kernel_rfl
    case hQ6a => exact fun _ _ _ h => h
    case hy6a =>
      refine Or.inl ⟨rfl, ?_⟩
      intro W hSw
      obtain ⟨⟨u0, u1, u2, u3, u4⟩, v0, v1, v2, v3, v4⟩ := hSw
      go_simp
      try with_reducible rfl
    case hS6a => assumption
    try simp only [Act.put, List.setIfInBounds_toArray, List.set_cons_zero, List.set_cons_succ]
    refine wpAnyH_take (i := 7) (oi := ?oi7a) (v := (.bool true)) ?hi7a ?hs7a ?hf7a ?hr7a ?hQ7a ?hy7a ?hS7a ?h7a
    case hi7a => exact (by simp only [List.getElem?_toArray, List.getElem?_cons_succ, List.getElem?_cons_zero]; rfl)
    case hs7a => kernel_rfl
    case hf7a => kernel_rfl
    case hr7a => kernel_rfl
    case hQ7a => exact fun _ _ _ h => h
    case hy7a =>
      refine Or.inl ⟨rfl, ?_⟩
      intro W hSw
      obtain ⟨⟨u0, u1, u2, u3, u4⟩, v0, v1, v2, v3, v4⟩ := hSw
      go_simp
      try simp [hlt2]
    case hS7a => assumption
    try simp only [Act.put, List.setIfInBounds_toArray, List.set_cons_zero, List.set_cons_succ]
    refine wpAnyH_take (i := 8) (oi := ?oi8a) (v := ?v8a) ?hi8a ?hs8a ?hf8a ?hr8a ?hQ8a ?hy8a ?hS8a ?h8a
    case hi8a => exact (by simp only [List.getElem?_toArray, List.getElem?_cons_succ, List.getElem?_cons_zero]; rfl)
    case hs8a => kernel_rfl
    case hf8a => kernel_rfl
    case hr8a => kernel_rfl
    case hQ8a => exact fun _ _ _ h => h
    case hy8a =>
      refine Or.inl ⟨rfl, ?_⟩
      intro W hSw
      obtain ⟨⟨u0, u1, u2, u3, u4⟩, v0, v1, v2, v3, v4⟩ := hSw
      go_simp
      try with_reducible rfl
    case hS8a => assumption
    try simp only [Act.put, List.setIfInBounds_toArray, List.set_cons_zero, List.set_cons_succ]
    refine wpAnyH_take (i := 9) (oi := ?oi9a) (v := ?v9a) ?hi9a ?hs9a ?hf9a ?hr9a ?hQ9a ?hy9a ?hS9a ?h9a
    case hi9a => exact (by simp only [List.getElem?_toArray, List.getElem?_cons_succ, List.getElem?_cons_zero]; rfl)
    case hs9a => kernel_rfl
    case hf9a => kernel_rfl
    case hr9a => kernel_rfl
    case hQ9a => exact fun _ _ _ h => h
    case hy9a =>
      refine Or.inl ⟨rfl, ?_⟩
      intro W hSw
      obtain ⟨⟨u0, u1, u2, u3, u4⟩, v0, v1, v2, v3, v4⟩ := hSw
      go_simp
      try with_reducible rfl
    case hS9a => assumption
    try simp only [Act.put, List.setIfInBounds_toArray, List.set_cons_zero, List.set_cons_succ]
    refine wpAnyH_take (i := 10) (oi := ?oi10a) (v := ?v10a) ?hi10a ?hs10a ?hf10a ?hr10a ?hQ10a ?hy10a ?hS10a ?h10a
    case hi10a => exact (by simp only [List.getElem?_toArray, List.getElem?_cons_succ, List.getElem?_cons_zero]; rfl)
    case hs10a => kernel_rfl
    case hf10a => kernel_rfl
    case hr10a => kernel_rfl
    case hQ10a => exact fun _ _ _ h => h
    case hy10a =>
      refine Or.inl ⟨rfl, ?_⟩
      intro W hSw
      obtain ⟨⟨u0, u1, u2, u3, u4⟩, v0, v1, v2, v3, v4⟩ := hSw
      go_simp
      try with_reducible rfl
    case hS10a => assumption
    try simp only [Act.put, List.setIfInBounds_toArray, List.set_cons_zero, List.set_cons_succ]
    refine wpAnyH_take (i := 11) (oi := ?oi11a) (v := ?v11a) ?hi11a ?hs11a ?hf11a ?hr11a ?hQ11a ?hy11a ?hS11a ?h11a
    case hi11a => exact (by simp only [List.getElem?_toArray, List.getElem?_cons_succ, List.getElem?_cons_zero]; rfl)
    case hs11a => kernel_rfl
    case hf11a => kernel_rfl
    case hr11a => kernel_rfl
    case hQ11a => exact fun _ _ _ h => h
    case hy11a =>
      refine Or.inl ⟨rfl, ?_⟩
      intro W hSw
      obtain ⟨⟨u0, u1, u2, u3, u4⟩, v0, v1, v2, v3, v4⟩ := hSw
      go_simp
      try with_reducible rfl
    case hS11a => assumption
    try simp only [Act.put, List.setIfInBounds_toArray, List.set_cons_zero, List.set_cons_succ]
    refine wpAnyH_take (i := 12) (oi := ?oi12a) (v := ?v12a) ?hi12a ?hs12a ?hf12a ?hr12a ?hQ12a ?hy12a ?hS12a ?h12a
    case hi12a => exact (by simp only [List.getElem?_toArray, List.getElem?_cons_succ, List.getElem?_cons_zero]; rfl)
    case hs12a => kernel_rfl
    case hf12a => kernel_rfl
    case hr12a => kernel_rfl
    case hQ12a => exact fun _ _ _ h => h
    case hy12a =>
      refine Or.inl ⟨rfl, ?_⟩
      intro W hSw
      obtain ⟨⟨u0, u1, u2, u3, u4⟩, v0, v1, v2, v3, v4⟩ := hSw
      go_simp
      try with_reducible rfl
    case hS12a => assumption
    try simp only [Act.put, List.setIfInBounds_toArray, List.set_cons_zero, List.set_cons_succ]
    refine wpAnyH_take (i := 13) (oi := ?oi13a) (v := ?v13a) ?hi13a ?hs13a ?hf13a ?hr13a ?hQ13a ?hy13a ?hS13a ?h13a
    case hi13a => exact (by simp only [List.getElem?_toArray, List.getElem?_cons_succ, List.getElem?_cons_zero]; rfl)
    case hs13a => kernel_rfl
    case hf13a => kernel_rfl
    case hr13a => kernel_rfl
    case hQ13a => exact fun _ _ _ h => h
    case hy13a =>
      refine Or.inl ⟨rfl, ?_⟩
      intro W hSw
      obtain ⟨⟨u0, u1, u2, u3, u4⟩, v0, v1, v2, v3, v4⟩ := hSw
      go_simp
      try with_reducible rfl
    case hS13a => assumption
    try simp only [Act.put, List.setIfInBounds_toArray, List.set_cons_zero, List.set_cons_succ]
    refine wpAnyH_take (i := 14) (oi := ?oi14a) (v := ?v14a) ?hi14a ?hs14a ?hf14a ?hr14a ?hQ14a ?hy14a ?hS14a ?h14a
    case hi14a => exact (by simp only [List.getElem?_toArray, List.getElem?_cons_succ, List.getElem?_cons_zero]; rfl)
    case hs14a => kernel_rfl
    case hf14a => kernel_rfl
    case hr14a => kernel_rfl
    case hQ14a => exact fun _ _ _ h => h
    case hy14a =>
      refine Or.inl ⟨rfl, ?_⟩
      intro W hSw
      obtain ⟨⟨u0, u1, u2, u3, u4⟩, v0, v1, v2, v3, v4⟩ := hSw
      go_simp
      try with_reducible rfl
    case hS14a => assumption
    try simp only [Act.put, List.setIfInBounds_toArray, List.set_cons_zero, List.set_cons_succ]
    refine wpAnyH_take (i := 15) (oi := ?oi15a) (v := ?v15a) ?hi15a ?hs15a ?hf15a ?hr15a ?hQ15a ?hy15a ?hS15a ?h15a
    case hi15a => exact (by simp only [List.getElem?_toArray, List.getElem?_cons_succ, List.getElem?_cons_zero]; rfl)
    case hs15a => kernel_rfl
    case hf15a => kernel_rfl
    case hr15a => kernel_rfl
    case hQ15a => exact fun _ _ _ h => h
    case hy15a =>
      refine Or.inl ⟨rfl, ?_⟩
      intro W hSw
      obtain ⟨⟨u0, u1, u2, u3, u4⟩, v0, v1, v2, v3, v4⟩ := hSw
      go_simp
      try with_reducible rfl
    case hS15a => assumption
    try simp only [Act.put, List.setIfInBounds_toArray, List.set_cons_zero, List.set_cons_succ]
    refine wpAnyH_take (i := 16) (oi := ?oi16a) (v := ?v16a) ?hi16a ?hs16a ?hf16a ?hr16a ?hQ16a ?hy16a ?hS16a ?h16a
    case hi16a => exact (by simp only [List.getElem?_toArray, List.getElem?_cons_succ, List.getElem?_cons_zero]; rfl)
    case hs16a => kernel_rfl
    case hf16a => kernel_rfl
    case hr16a => kernel_rfl
    case hQ16a => exact fun _ _ _ h => h
    case hy16a =>
      refine Or.inl ⟨rfl, ?_⟩
      intro W hSw
      obtain ⟨⟨u0, u1, u2, u3, u4⟩, v0, v1, v2, v3, v4⟩ := hSw
      go_simp
      try with_reducible rfl
    case hS16a => assumption
    try simp only [Act.put, List.setIfInBounds_toArray, List.set_cons_zero, List.set_cons_succ]
    refine wpAnyH_take (i := 17) (oi := ?oi17a) (v := ?v17a) ?hi17a ?hs17a ?hf17a ?hr17a ?hQ17a ?hy17a ?hS17a ?h17a
    case hi17a => exact (by simp only [List.getElem?_toArray, List.getElem?_cons_succ, List.getElem?_cons_zero]; rfl)
    case hs17a => kernel_rfl
    case hf17a => kernel_rfl
    case hr17a => kernel_rfl
    case hQ17a => exact fun _ _ _ h => h
    case hy17a =>
      refine Or.inl ⟨rfl, ?_⟩
      intro W hSw
      obtain ⟨⟨u0, u1, u2, u3, u4⟩, v0, v1, v2, v3, v4⟩ := hSw
      go_simp
      try with_reducible rfl
    case hS17a => assumption
    try simp only [Act.put, List.setIfInBounds_toArray, List.set_cons_zero, List.set_cons_succ]
    refine wpAnyH_ready (rs := [18]) (by kernel_rfl) (by simp) ?_
    refine AllReadyH.cons (o := _) rfl (fun K hK => ?_) AllReadyH.nil
    go_simp
    refine (mode_any mk mb ms mq me V0).mono ?_
    rintro r V1 ⟨rfl, hbq⟩
    have HV1 := Lib.hid (HV0.out.trans (hbq.mono HV0.out.size))
    clear hbq
    refine hK.out _ _ ⟨HCR.out _ HV1.out, HAT.out _ HV1.out⟩ (fun hHeld => ?_)
    clear hK K
    try simp only [Act.put, List.setIfInBounds_toArray, List.set_cons_zero, List.set_cons_succ]
    refine wpAnyH_take (i := 19) (oi := ?oi19a) (v := (.bool false)) ?hi19a ?hs19a ?hf19a ?hr19a ?hQ19a ?hy19a ?hS19a ?h19a
    case hi19a => exact (by simp only [List.getElem?_toArray, List.getElem?_cons_succ, List.getElem?_cons_zero]; rfl)
    case hs19a => kernel_rfl
    case hf19a => kernel_rfl
    case hr19a => kernel_rfl
    case hQ19a => exact fun _ _ _ h => h
    case hy19a =>
      refine Or.inl ⟨rfl, ?_⟩
      intro W hSw
      obtain ⟨⟨u0, u1, u2, u3, u4⟩, v0, v1, v2, v3, v4⟩ := hSw
      go_simp
      try simp [hneq]
    case hS19a => assumption
    try simp only [Act.put, List.setIfInBounds_toArray, List.set_cons_zero, List.set_cons_succ]
    refine wpAnyH_take (i := 20) (oi := ?oi20a) (v := ?v20a) ?hi20a ?hs20a ?hf20a ?hr20a ?hQ20a ?hy20a ?hS20a ?h20a
    case hi20a => exact (by simp only [List.getElem?_toArray, List.getElem?_cons_succ, List.getElem?_cons_zero]; rfl)
    case hs20a => kernel_rfl
    case hf20a => kernel_rfl
    case hr20a => kernel_rfl
    case hQ20a => exact fun _ _ _ h => h
    case hy20a =>
      refine Or.inl ⟨rfl, ?_⟩
      intro W hSw
      obtain ⟨⟨u0, u1, u2, u3, u4⟩, v0, v1, v2, v3, v4⟩ := hSw
      go_simp
      try with_reducible rfl
    case hS20a => assumption
    try simp only [Act.put, List.setIfInBounds_toArray, List.set_cons_zero, List.set_cons_succ]
    refine wpAnyH_take (i := 21) (oi := ?oi21a) (v := ?v21a) ?hi21a ?hs21a ?hf21a ?hr21a ?hQ21a ?hy21a ?hS21a ?h21a
    case hi21a => exact (by simp only [List.getElem?_toArray, List.getElem?_cons_succ, List.getElem?_cons_zero]; rfl)
    case hs21a => kernel_rfl
    case hf21a => kernel_rfl
    case hr21a => kernel_rfl
    case hQ21a => exact fun _ _ _ h => h
    case hy21a =>
      refine Or.inl ⟨rfl, ?_⟩
      intro W hSw
      obtain ⟨⟨u0, u1, u2, u3, u4⟩, v0, v1, v2, v3, v4⟩ := hSw
      go_simp
      try with_reducible rfl
    case hS21a => assumption
    try simp only [Act.put, List.setIfInBounds_toArray, List.set_cons_zero, List.set_cons_succ]
    refine wpAnyH_take (i := 22) (oi := ?oi22a) (v := ?v22a) ?hi22a ?hs22a ?hf22a ?hr22a ?hQ22a ?hy22a ?hS22a ?h22a
    case hi22a => exact (by simp only [List.getElem?_toArray, List.getElem?_cons_succ, List.getElem?_cons_zero]; rfl)
    case hs22a => kernel_rfl
    case hf22a => kernel_rfl
    case hr22a => kernel_rfl
    case hQ22a => exact fun _ _ _ h => h
    case hy22a =>
      refine Or.inl ⟨rfl, ?_⟩
      intro W hSw
      obtain ⟨⟨u0, u1, u2, u3, u4⟩, v0, v1, v2, v3, v4⟩ := hSw
      go_simp
      try with_reducible rfl
    case hS22a => assumption
    try simp only [Act.put, List.setIfInBounds_toArray, List.set_cons_zero, List.set_cons_succ]
    refine wpAnyH_take (i := 23) (oi := ?oi23a) (v := ?v23a) ?hi23a ?hs23a ?hf23a ?hr23a ?hQ23a ?hy23a ?hS23a ?h23a
    case hi23a => exact (by simp only [List.getElem?_toArray, List.getElem?_cons_succ, List.getElem?_cons_zero]; rfl)
    case hs23a => kernel_rfl
    case hf23a => kernel_rfl
    case hr23a => kernel_rfl
    case hQ23a => exact fun _ _ _ h => h
    case hy23a =>
      refine Or.inl ⟨rfl, ?_⟩
      intro W hSw
      obtain ⟨⟨u0, u1, u2, u3, u4⟩, v0, v1, v2, v3, v4⟩ := hSw
      go_simp
      try with_reducible rfl
    case hS23a => assumption
    try simp only [Act.put, List.setIfInBounds_toArray, List.set_cons_zero, List.set_cons_succ]
    refine wpAnyH_take (i := 24) (oi := ?oi24a) (v := ?v24a) ?hi24a ?hs24a ?hf24a ?hr24a ?hQ24a ?hy24a ?hS24a ?h24a
    case hi24a => exact (by simp only [List.getElem?_toArray, List.getElem?_cons_succ, List.getElem?_cons_zero]; rfl)
    case hs24a => kernel_rfl
    case hf24a => kernel_rfl
    case hr24a => kernel_rfl
    case hQ24a => exact fun _ _ _ h => h
    case hy24a =>
      refine Or.inl ⟨rfl, ?_⟩
      intro W hSw
      obtain ⟨⟨u0, u1, u2, u3, u4⟩, v0, v1, v2, v3, v4⟩ := hSw
      go_simp
      try with_reducible rfl
    case hS24a => assumption
    try simp only [Act.put, List.setIfInBounds_toArray, List.set_cons_zero, List.set_cons_succ]
    refine wpAnyH_take (i := 25) (oi := ?oi25a) (v := ?v25a) ?hi25a ?hs25a ?hf25a ?hr25a ?hQ25a ?hy25a ?hS25a ?h25a
    case hi25a => exact (by simp only [List.getElem?_toArray, List.getElem?_cons_succ, List.getElem?_cons_zero]; rfl)
    case hs25a => kernel_rfl
    case hf25a => kernel_rfl
    case hr25a => kernel_rfl
    case hQ25a => exact fun _ _ _ h => h
    case hy25a =>
      refine Or.inl ⟨rfl, ?_⟩
      intro W hSw
      obtain ⟨⟨u0, u1, u2, u3, u4⟩, v0, v1, v2, v3, v4⟩ := hSw
      go_simp
      try with_reducible rfl
    case hS25a => assumption
    try simp only [Act.put, List.setIfInBounds_toArray, List.set_cons_zero, List.set_cons_succ]
    refine wpAnyH_take (i := 26) (oi := ?oi26a) (v := undef) ?hi26a ?hs26a ?hf26a ?hr26a ?hQ26a ?hy26a ?hS26a ?h26a
    case hi26a => exact (by simp only [List.getElem?_toArray, List.getElem?_cons_succ, List.getElem?_cons_zero]; rfl)
    case hs26a => kernel_rfl
    case hf26a => kernel_rfl
    case hr26a => kernel_rfl
    case hQ26a => exact fun _ _ _ h => h
    case hy26a =>
      exact Or.inr ⟨rfl, rfl⟩
    case hS26a => assumption
    try simp only [Act.put, List.setIfInBounds_toArray, List.set_cons_zero, List.set_cons_succ]
    refine wpAnyH_take (i := 27) (oi := ?oi27a) (v := undef) ?hi27a ?hs27a ?hf27a ?hr27a ?hQ27a ?hy27a ?hS27a ?h27a
    case hi27a => exact (by simp only [List.getElem?_toArray, List.getElem?_cons_succ, List.getElem?_cons_zero]; rfl)
    case hs27a => kernel_rfl
    case hf27a => kernel_rfl
    case hr27a => kernel_rfl
    case hQ27a => exact fun _ _ _ h => h
    case hy27a =>
      exact Or.inr ⟨rfl, rfl⟩
    case hS27a => assumption
    try simp only [Act.put, List.setIfInBounds_toArray, List.set_cons_zero, List.set_cons_succ]
    refine wpAnyH_take (i := 28) (oi := ?oi28a) (v := undef) ?hi28a ?hs28a ?hf28a ?hr28a ?hQ28a ?hy28a ?hS28a ?h28a
    case hi28a => exact (by simp only [List.getElem?_toArray, List.getElem?_cons_succ, List.getElem?_cons_zero]; rfl)
    case hs28a => kernel_rfl
    case hf28a => kernel_rfl
    case hr28a => kernel_rfl
    case hQ28a => exact fun _ _ _ h => h
    case hy28a =>
      exact Or.inr ⟨rfl, rfl⟩
    case hS28a => assumption
    try simp only [Act.put, List.setIfInBounds_toArray, List.set_cons_zero, List.set_cons_succ]
    refine wpAnyH_take (i := 29) (oi := ?oi29a) (v := ?v29a) ?hi29a ?hs29a ?hf29a ?hr29a ?hQ29a ?hy29a ?hS29a ?h29a
    case hi29a => exact (by simp only [List.getElem?_toArray, List.getElem?_cons_succ, List.getElem?_cons_zero]; rfl)
    case hs29a => kernel_rfl
    case hf29a => kernel_rfl
    case hr29a => kernel_rfl
    case hQ29a => exact fun _ _ _ h => h
    case hy29a =>
      refine Or.inl ⟨rfl, ?_⟩
      intro W hSw
      obtain ⟨⟨u0, u1, u2, u3, u4⟩, v0, v1, v2, v3, v4⟩ := hSw
      go_simp
      try with_reducible rfl
    case hS29a => assumption
    try simp only [Act.put, List.setIfInBounds_toArray, List.set_cons_zero, List.set_cons_succ]
    refine wpAnyH_take (i := 30) (oi := ?oi30a) (v := ?v30a) ?hi30a ?hs30a ?hf30a ?hr30a ?hQ30a ?hy30a ?hS30a ?h30a
    case hi30a => exact (by simp only [List.getElem?_toArray, List.getElem?_cons_succ, List.getElem?_cons_zero]; rfl)
    case hs30a => kernel_rfl
    case hf30a => kernel_rfl
    case hr30a => kernel_rfl
    case hQ30a => exact fun _ _ _ h => h
    case hy30a =>
      refine Or.inl ⟨rfl, ?_⟩
      intro W hSw
      obtain ⟨⟨u0, u1, u2, u3, u4⟩, v0, v1, v2, v3, v4⟩ := hSw
      go_simp
      try with_reducible rfl
    case hS30a => assumption
    try simp only [Act.put, List.setIfInBounds_toArray, List.set_cons_zero, List.set_cons_succ]
    refine wpAnyH_done (by kernel_rfl) ?_ _
    go_upto_region 8 with (fail)
    have HDp : Hid (Below w9.heap.size w9 V1.drew) := HV1.out.drew
    refine wp_region_held_drew (S := fun W : World => (W.cell? ⟨P, 0, none⟩ = some (sV us.key) ∧ W.cell? ⟨P, 1, none⟩ = some (.int .i64 us.n1) ∧ W.cell? ⟨P, 2, none⟩ = some (.int .i64 us.n2) ∧ W.cell? ⟨P, 3, none⟩ = some (.int .i64 us.n3) ∧ W.cell? ⟨P, 4, none⟩ = some (.int .i64 us.n4) ∧ W.cell? ⟨P, 5, none⟩ = some (.int .i64 us.t1) ∧ W.cell? ⟨P, 6, none⟩ = some (.int .i64 us.t2) ∧ W.cell? ⟨P, 7, none⟩ = some (.int .i64 us.t3) ∧ W.cell? ⟨P, 8, none⟩ = some (.int .i64 us.t4) ∧ W.cell? ⟨P, 9, none⟩ = some (.int .i64 us.t5) ∧ W.cell? ⟨P, 10, none⟩ = some (.int .i64 us.t6) ∧ W.cell? ⟨P, 11, none⟩ = some (.int .i64 us.rate) ∧ W.cell? ⟨P, 12, none⟩ = some (.int .i64 us.out) ∧ W.cell? ⟨P, 13, none⟩ = some (.slice B1 n c1)) ∧ W.cell? ⟨Q, 0, none⟩ = some (sV us.key) ∧ W.cell? ⟨Q, 1, none⟩ = some (.int .i64 us.n1) ∧ W.cell? ⟨Q, 2, none⟩ = some (.int .i64 us.n2) ∧ W.cell? ⟨Q, 3, none⟩ = some (.int .i64 us.n3) ∧ W.cell? ⟨Q, 4, none⟩ = some (.int .i64 us.n4) ∧ W.cell? ⟨Q, 5, none⟩ = some (.int .i64 us.t1) ∧ W.cell? ⟨Q, 6, none⟩ = some (.int .i64 us.t2) ∧ W.cell? ⟨Q, 7, none⟩ = some (.int .i64 us.t3) ∧ W.cell? ⟨Q, 8, none⟩ = some (.int .i64 us.t4) ∧ W.cell? ⟨Q, 9, none⟩ = some (.int .i64 us.t5) ∧ W.cell? ⟨Q, 10, none⟩ = some (.int .i64 us.t6) ∧ W.cell? ⟨Q, 11, none⟩ = some (.int .i64 us.rate) ∧ W.cell? ⟨Q, 12, none⟩ = some (.int .i64 us.out) ∧ W.cell? ⟨Q, 13, none⟩ = some (.slice B3 n c3)) (by kernel_rfl) (⟨HCP.out _ (HDp.out), HCQ.out _ (HDp.out)⟩) (fun hHeld => ?_)
    obtain ⟨Wp0, hW0⟩ : ∃ W0, W0 = V1.drew := ⟨_, rfl⟩
    rw [← hW0] at hHeld HDp ⊢
    clear hW0
    refine wpAnyH_take (i := 0) (oi := ?oi0p) (v := ?v0p) ?hi0p ?hs0p ?hf0p ?hr0p ?hQ0p ?hy0p ?hS0p ?h0p
    case hi0p => exact (by simp only [List.getElem?_toArray, List.getElem?_cons_zero]; rfl)
    case hs0p => kernel_rfl
    case hf0p => kernel_rfl
    case hr0p => kernel_rfl
    case hQ0p => exact fun _ _ _ h => h
    case hy0p =>
      refine Or.inl ⟨rfl, ?_⟩
      intro W hSw
      obtain ⟨⟨s0, s1, s2, s3, s4, s5, s6, s7, s8, s9, s10, s11, s12, s13⟩, z0, z1, z2, z3, z4, z5, z6, z7, z8, z9, z10, z11, z12, z13⟩ := hSw
      go_simp
      try with_reducible rfl
    case hS0p => assumption
    try simp only [Act.put, List.setIfInBounds_toArray, List.set_cons_zero, List.set_cons_succ]
    refine wpAnyH_take (i := 2) (oi := ?oi2p) (v := ?v2p) ?hi2p ?hs2p ?hf2p ?hr2p ?hQ2p ?hy2p ?hS2p ?h2p
    case hi2p => exact (by simp only [List.getElem?_toArray, List.getElem?_cons_succ, List.getElem?_cons_zero]; rfl)
    case hs2p => kernel_rfl
    case hf2p => kernel_rfl
    case hr2p => kernel_rfl
    case hQ2p => exact fun _ _ _ h => h
    case hy2p =>
      refine Or.inl ⟨rfl, ?_⟩
      intro W hSw
      obtain ⟨⟨s0, s1, s2, s3, s4, s5, s6, s7, s8, s9, s10, s11, s12, s13⟩, z0, z1, z2, z3, z4, z5, z6, z7, z8, z9, z10, z11, z12, z13⟩ := hSw
      go_simp
      try with_reducible rfl
    case hS2p => assumption
    try simp only [Act.put, List.setIfInBounds_toArray, List.set_cons_zero, List.set_cons_succ]
    refine wpAnyH_ready (rs := [1]) (by kernel_rfl) (by simp) ?_
    refine AllReadyH.cons (o := _) rfl (fun K hK => ?_) AllReadyH.nil
    go_simp
    refine (HC5.out Wp0 (HM3.out _ HDp.out)).mono ?_
    rintro r Wp1 ⟨B4, c4, rfl, hM4, hbq⟩
    have HBp1 := Lib.hid (HDp.out.trans (hbq.mono HDp.out.size))
    clear hbq
    have HM4 := Lib.hid hM4
    clear hM4
    refine hK.out _ _ (⟨HCP.out _ (HBp1.out), HCQ.out _ (HBp1.out)⟩) (fun hHeld => ?_)
    clear hK K
    try simp only [Act.put, List.setIfInBounds_toArray, List.set_cons_zero, List.set_cons_succ]
    refine wpAnyH_ready (rs := [3]) (by kernel_rfl) (by simp) ?_
    refine AllReadyH.cons (o := _) rfl (fun K hK => ?_) AllReadyH.nil
    go_simp
    refine (HC6.out Wp1 B4 c4 HM4.out (HM1.out _ HBp1.out)).mono ?_
    rintro r Wp2 ⟨rfl, hbq⟩
    have HBp2 := Lib.hid (HBp1.out.trans (hbq.mono HBp1.out.size))
    clear hbq
    refine hK.out _ _ (⟨HCP.out _ (HBp2.out), HCQ.out _ (HBp2.out)⟩) (fun hHeld => ?_)
    clear hK K
    try simp only [Act.put, List.setIfInBounds_toArray, List.set_cons_zero, List.set_cons_succ]
    refine wpAnyH_take (i := 4) (oi := ?oi4p) (v := ?v4p) ?hi4p ?hs4p ?hf4p ?hr4p ?hQ4p ?hy4p ?hS4p ?h4p
    case hi4p => exact (by simp only [List.getElem?_toArray, List.getElem?_cons_succ, List.getElem?_cons_zero]; rfl)
    case hs4p => kernel_rfl
    case hf4p => kernel_rfl
    case hr4p => kernel_rfl
    case hQ4p => exact fun _ _ _ h => h
    case hy4p =>
      refine Or.inl ⟨rfl, ?_⟩
      intro W hSw
      obtain ⟨⟨s0, s1, s2, s3, s4, s5, s6, s7, s8, s9, s10, s11, s12, s13⟩, z0, z1, z2, z3, z4, z5, z6, z7, z8, z9, z10, z11, z12, z13⟩ := hSw
      go_simp
      try with_reducible rfl
    case hS4p => assumption
    try simp only [Act.put, List.setIfInBounds_toArray, List.set_cons_zero, List.set_cons_succ]
    refine wpAnyH_ready (rs := [5]) (by kernel_rfl) (by simp) ?_
    refine AllReadyH.cons (o := _) rfl (fun K hK => ?_) AllReadyH.nil
    go_simp
    refine (pawake Wp2).mono ?_
    rintro r Wp3 ⟨rfl, hbq⟩
    have HBp3 := Lib.hid (HBp2.out.trans (hbq.mono HBp2.out.size))
    clear hbq
    refine hK.out _ _ (⟨HCP.out _ (HBp3.out), HCQ.out _ (HBp3.out)⟩) (fun hHeld => ?_)
    clear hK K
    try simp only [Act.put, List.setIfInBounds_toArray, List.set_cons_zero, List.set_cons_succ]
    refine wpAnyH_take (i := 6) (oi := ?oi6p) (v := ?v6p) ?hi6p ?hs6p ?hf6p ?hr6p ?hQ6p ?hy6p ?hS6p ?h6p
    case hi6p => exact (by simp only [List.getElem?_toArray, List.getElem?_cons_succ, List.getElem?_cons_zero]; rfl)
    case hs6p => kernel_rfl
    case hf6p => kernel_rfl
    case hr6p => kernel_rfl
    case hQ6p => exact fun _ _ _ h => h
    case hy6p =>
      refine Or.inl ⟨rfl, ?_⟩
      intro W hSw
      obtain ⟨⟨s0, s1, s2, s3, s4, s5, s6, s7, s8, s9, s10, s11, s12, s13⟩, z0, z1, z2, z3, z4, z5, z6, z7, z8, z9, z10, z11, z12, z13⟩ := hSw
      go_simp
      try with_reducible rfl
    case hS6p => assumption
    try simp only [Act.put, List.setIfInBounds_toArray, List.set_cons_zero, List.set_cons_succ]
    refine wpAnyH_take (i := 7) (oi := ?oi7p) (v := ?v7p) ?hi7p ?hs7p ?hf7p ?hr7p ?hQ7p ?hy7p ?hS7p ?h7p
    case hi7p => exact (by simp only [List.getElem?_toArray, List.getElem?_cons_succ, List.getElem?_cons_zero]; rfl)
    case hs7p => kernel_rfl
    case hf7p => kernel_rfl
    case hr7p => kernel_rfl
    case hQ7p => exact fun _ _ _ h => h
    case hy7p =>
      refine Or.inl ⟨rfl, ?_⟩
      intro W hSw
      obtain ⟨⟨s0, s1, s2, s3, s4, s5, s6, s7, s8, s9, s10, s11, s12, s13⟩, z0, z1, z2, z3, z4, z5, z6, z7, z8, z9, z10, z11, z12, z13⟩ := hSw
      go_simp
      try with_reducible rfl
    case hS7p => assumption
    try simp only [Act.put, List.setIfInBounds_toArray, List.set_cons_zero, List.set_cons_succ]
    refine wpAnyH_done (by kernel_rfl) ?_ _
    try go_wp2
    go_ret
    exact ⟨rfl, HBw.out.trans (HBp3.out.mono HBw.out.size)⟩
  · have HMO : Hid (Calls Try.prog 23 #[.agg (us.cells (.slice B3 n c3)), .int .i64 x] w4 fun r w' => r = .returned (.tuple #[mV 0 0 0 0 0, .bool false]) ∧ Below w4.heap.size w4 w') := modeOut_any us B3 n c3 x w4 hn1000 hin
    clear hn1000 HMA
    go_wp2_with fail
    refine HMO.out.mono ?_
    rintro r w5 ⟨rfl, hb5⟩
    obtain ⟨w9, hw9⟩ : ∃ w9, w9 = w5.alloc (.cells (mCells 0 0 0 0 0) 35) := ⟨_, rfl⟩
    have hr9 : w9.heap[w5.heap.size]? = some (.cells (mCells 0 0 0 0 0) 35 (0, 0)) := by rw [hw9]; exact heap_alloc_new w5 _
    obtain ⟨R, hR⟩ : ∃ R, R = w5.heap.size := ⟨_, rfl⟩
    rw [← hR] at hr9
    have hb9 : Below w4.heap.size w4 w9 := by rw [hw9]; exact hb5.alloc hb5.size _
    have HR := Lib.hid hR
    have H9 := Lib.hid hw9
    have HBw9 : Hid (Below w.heap.size w w9) := HBw.out.trans (hb9.mono HBw.out.size)
    have HCR : Hid (∀ W, Below w9.heap.size w9 W → W.cell? ⟨R, 0, none⟩ = some (.int .i64 0) ∧ W.cell? ⟨R, 1, none⟩ = some (.int .i64 0) ∧ W.cell? ⟨R, 2, none⟩ = some (.int .i64 0) ∧ W.cell? ⟨R, 3, none⟩ = some (.int .i64 0) ∧ W.cell? ⟨R, 4, none⟩ = some (.int .i64 0)) := fun W hW => by
      have e1 := (hW.block _ (lt_of_block hr9)).trans hr9
      exact ⟨cell_of_row W _ 0 _ _ _ e1, cell_of_row W _ 1 _ _ _ e1, cell_of_row W _ 2 _ _ _ e1, cell_of_row W _ 3 _ _ _ e1, cell_of_row W _ 4 _ _ _ e1⟩
    have HCP9 : Hid (∀ W, Below w9.heap.size w9 W → W.cell? ⟨P, 0, none⟩ = some (sV us.key) ∧ W.cell? ⟨P, 1, none⟩ = some (.int .i64 us.n1) ∧ W.cell? ⟨P, 2, none⟩ = some (.int .i64 us.n2) ∧ W.cell? ⟨P, 3, none⟩ = some (.int .i64 us.n3) ∧ W.cell? ⟨P, 4, none⟩ = some (.int .i64 us.n4) ∧ W.cell? ⟨P, 5, none⟩ = some (.int .i64 us.t1) ∧ W.cell? ⟨P, 6, none⟩ = some (.int .i64 us.t2) ∧ W.cell? ⟨P, 7, none⟩ = some (.int .i64 us.t3) ∧ W.cell? ⟨P, 8, none⟩ = some (.int .i64 us.t4) ∧ W.cell? ⟨P, 9, none⟩ = some (.int .i64 us.t5) ∧ W.cell? ⟨P, 10, none⟩ = some (.int .i64 us.t6) ∧ W.cell? ⟨P, 11, none⟩ = some (.int .i64 us.rate) ∧ W.cell? ⟨P, 12, none⟩ = some (.int .i64 us.out) ∧ W.cell? ⟨P, 13, none⟩ = some (.slice B1 n c1)) := fun W hW => HCP.out W (hb9.trans (hW.mono hb9.size))
    have HCQ9 : Hid (∀ W, Below w9.heap.size w9 W → W.cell? ⟨Q, 0, none⟩ = some (sV us.key) ∧ W.cell? ⟨Q, 1, none⟩ = some (.int .i64 us.n1) ∧ W.cell? ⟨Q, 2, none⟩ = some (.int .i64 us.n2) ∧ W.cell? ⟨Q, 3, none⟩ = some (.int .i64 us.n3) ∧ W.cell? ⟨Q, 4, none⟩ = some (.int .i64 us.n4) ∧ W.cell? ⟨Q, 5, none⟩ = some (.int .i64 us.t1) ∧ W.cell? ⟨Q, 6, none⟩ = some (.int .i64 us.t2) ∧ W.cell? ⟨Q, 7, none⟩ = some (.int .i64 us.t3) ∧ W.cell? ⟨Q, 8, none⟩ = some (.int .i64 us.t4) ∧ W.cell? ⟨Q, 9, none⟩ = some (.int .i64 us.t5) ∧ W.cell? ⟨Q, 10, none⟩ = some (.int .i64 us.t6) ∧ W.cell? ⟨Q, 11, none⟩ = some (.int .i64 us.rate) ∧ W.cell? ⟨Q, 12, none⟩ = some (.int .i64 us.out) ∧ W.cell? ⟨Q, 13, none⟩ = some (.slice B3 n c3)) := fun W hW => HCQ.out W (hb9.trans (hW.mono hb9.size))
    have HM19 : Hid (∀ W, Below w9.heap.size w9 W → Ms W W.heap.size B1 l) := fun W hW => HM1.out W (hb9.trans (hW.mono hb9.size))
    have HM39 : Hid (∀ W, Below w9.heap.size w9 W → Ms W W.heap.size B3 l) := fun W hW => HM3.out W (hb9.trans (hW.mono hb9.size))
    have HB9 : Hid (Below w9.heap.size w9 w9) := Below.refl _ _
    clear hb5 hw9 hr9 hR hb9 x0 x1 x2 x3 x4 x5 x6 x7 x8 x9 x10 x11 x12 x13 HCP HCQ HM1 HM3 HX HMO HBw
    have HCP := HCP9
    have HCQ := HCQ9
    have HM1 := HM19
    have HM3 := HM39
    have HBw := HBw9
    clear HCP9 HCQ9 HM19 HM39 HBw9
    go_upto_region 6 with (fail)
    rw [← H9.out, ← HR.out]
    have hneq : ∀ W : World, (binOp .neq 35 (mV 0 0 0 0 0) (mV 0 0 0 0 0)).run Try.prog W = .ok (.bool false) W := fun W => neq35 0 0 0 0 0 W
    have hgd := guard35
    by_cases hge : 0 ≤ x
    · have hlt2 : ¬(x < n) := fun h => hin ⟨hge, h⟩
      have HSr : Hid ((fun W : World => W.cell? ⟨R, 0, none⟩ = some (.int .i64 0) ∧ W.cell? ⟨R, 1, none⟩ = some (.int .i64 0) ∧ W.cell? ⟨R, 2, none⟩ = some (.int .i64 0) ∧ W.cell? ⟨R, 3, none⟩ = some (.int .i64 0) ∧ W.cell? ⟨R, 4, none⟩ = some (.int .i64 0)) w9.drew) := HCR.out _ HB9.out.drew
      refine wp_region_held_drew (S := fun W : World => W.cell? ⟨R, 0, none⟩ = some (.int .i64 0) ∧ W.cell? ⟨R, 1, none⟩ = some (.int .i64 0) ∧ W.cell? ⟨R, 2, none⟩ = some (.int .i64 0) ∧ W.cell? ⟨R, 3, none⟩ = some (.int .i64 0) ∧ W.cell? ⟨R, 4, none⟩ = some (.int .i64 0)) (by kernel_rfl) HSr.out (fun hHeld => ?_)
      obtain ⟨V0, hV0⟩ : ∃ V0, V0 = w9.drew := ⟨_, rfl⟩
      have HV0 : Hid (Below w9.heap.size w9 V0) := by rw [hV0]; exact HB9.out.drew
      rw [← hV0] at hHeld HSr ⊢
      clear hV0
      refine wpAnyH_take (i := 0) (oi := ?oi0b) (v := ?v0b) ?hi0b ?hs0b ?hf0b ?hr0b ?hQ0b ?hy0b ?hS0b ?h0b
      case hi0b => exact (by simp only [List.getElem?_toArray, List.getElem?_cons_zero]; rfl)
      case hs0b => kernel_rfl
      case hf0b => kernel_rfl
      case hr0b => kernel_rfl
      case hQ0b => exact fun _ _ _ h => h
      case hy0b =>
        refine Or.inl ⟨rfl, ?_⟩
        intro W hSw
        obtain ⟨u0, u1, u2, u3, u4⟩ := hSw
        go_simp
        try with_reducible rfl
      case hS0b => assumption
      try simp only [Act.put, List.setIfInBounds_toArray, List.set_cons_zero, List.set_cons_succ]
      refine wpAnyH_take (i := 1) (oi := ?oi1b) (v := ?v1b) ?hi1b ?hs1b ?hf1b ?hr1b ?hQ1b ?hy1b ?hS1b ?h1b
      case hi1b => exact (by simp only [List.getElem?_toArray, List.getElem?_cons_succ, List.getElem?_cons_zero]; rfl)
      case hs1b => kernel_rfl
      case hf1b => kernel_rfl
      case hr1b => kernel_rfl
      case hQ1b => exact fun _ _ _ h => h
      case hy1b =>
        refine Or.inl ⟨rfl, ?_⟩
        intro W hSw
        obtain ⟨u0, u1, u2, u3, u4⟩ := hSw
        go_simp
        try with_reducible rfl
      case hS1b => assumption
      try simp only [Act.put, List.setIfInBounds_toArray, List.set_cons_zero, List.set_cons_succ]
      refine wpAnyH_take (i := 2) (oi := ?oi2b) (v := (.bool true)) ?hi2b ?hs2b ?hf2b ?hr2b ?hQ2b ?hy2b ?hS2b ?h2b
      case hi2b => exact (by simp only [List.getElem?_toArray, List.getElem?_cons_succ, List.getElem?_cons_zero]; rfl)
      case hs2b => kernel_rfl
      case hf2b => kernel_rfl
      case hr2b => kernel_rfl
      case hQ2b => exact fun _ _ _ h => h
      case hy2b =>
        refine Or.inl ⟨rfl, ?_⟩
        intro W hSw
        obtain ⟨u0, u1, u2, u3, u4⟩ := hSw
        go_simp
        try simp [hge]
      case hS2b => assumption
      try simp only [Act.put, List.setIfInBounds_toArray, List.set_cons_zero, List.set_cons_succ]
      refine wpAnyH_take (i := 3) (oi := ?oi3b) (v := ?v3b) ?hi3b ?hs3b ?hf3b ?hr3b ?hQ3b ?hy3b ?hS3b ?h3b
      case hi3b => exact (by simp only [List.getElem?_toArray, List.getElem?_cons_succ, List.getElem?_cons_zero]; rfl)
      case hs3b => kernel_rfl
      case hf3b => kernel_rfl
      case hr3b => kernel_rfl
      case hQ3b => exact fun _ _ _ h => h
      case hy3b =>
        refine Or.inl ⟨rfl, ?_⟩
        intro W hSw
        obtain ⟨u0, u1, u2, u3, u4⟩ := hSw
        go_simp
        try with_reducible rfl
      case hS3b => assumption
      try simp only [Act.put, List.setIfInBounds_toArray, List.set_cons_zero, List.set_cons_succ]
      refine wpAnyH_take (i := 4) (oi := ?oi4b) (v := ?v4b) ?hi4b ?hs4b ?hf4b ?hr4b ?hQ4b ?hy4b ?hS4b ?h4b
      case hi4b => exact (by simp only [List.getElem?_toArray, List.getElem?_cons_succ, List.getElem?_cons_zero]; rfl)
      case hs4b => kernel_rfl
      case hf4b => kernel_rfl
      case hr4b => kernel_rfl
      case hQ4b => exact fun _ _ _ h => h
      case hy4b =>
        refine Or.inl ⟨rfl, ?_⟩
        intro W hSw
        obtain ⟨u0, u1, u2, u3, u4⟩ := hSw
        go_simp
        try with_reducible rfl
      case hS4b => assumption
      try simp only [Act.put, List.setIfInBounds_toArray, List.set_cons_zero, List.set_cons_succ]
      refine wpAnyH_take (i := 5) (oi := ?oi5b) (v := ?v5b) ?hi5b ?hs5b ?hf5b ?hr5b ?hQ5b ?hy5b ?hS5b ?h5b
      case hi5b => exact (by simp only [List.getElem?_toArray, List.getElem?_cons_succ, List.getElem?_cons_zero]; rfl)
      case hs5b => kernel_rfl
      case hf5b => kernel_rfl
      case hr5b => kernel_rfl
      case hQ5b => exact fun _ _ _ h => h
      case hy5b =>
        refine Or.inl ⟨rfl, ?_⟩
        intro W hSw
        obtain ⟨u0, u1, u2, u3, u4⟩ := hSw
        go_simp
        try with_reducible rfl
      case hS5b => assumption
      try simp only [Act.put, List.setIfInBounds_toArray, List.set_cons_zero, List.set_cons_succ]
      refine wpAnyH_take (i := 6) (oi := ?oi6b) (v := ?v6b) ?hi6b ?hs6b ?hf6b ?hr6b ?hQ6b ?hy6b ?hS6b ?h6b
      case hi6b => exact (by simp only [List.getElem?_toArray, List.getElem?_cons_succ, List.getElem?_cons_zero]; rfl)
      case hs6b => kernel_rfl
      case hf6b => kernel_rfl
      case hr6b => kernel_rfl
      case hQ6b => exact fun _ _ _ h => h
      case hy6b =>
        refine Or.inl ⟨rfl, ?_⟩
        intro W hSw
        obtain ⟨u0, u1, u2, u3, u4⟩ := hSw
        go_simp
        try with_reducible rfl
      case hS6b => assumption
      try simp only [Act.put, List.setIfInBounds_toArray, List.set_cons_zero, List.set_cons_succ]
      refine wpAnyH_take (i := 7) (oi := ?oi7b) (v := (.bool false)) ?hi7b ?hs7b ?hf7b ?hr7b ?hQ7b ?hy7b ?hS7b ?h7b
      case hi7b => exact (by simp only [List.getElem?_toArray, List.getElem?_cons_succ, List.getElem?_cons_zero]; rfl)
      case hs7b => kernel_rfl
      case hf7b => kernel_rfl
      case hr7b => kernel_rfl
      case hQ7b => exact fun _ _ _ h => h
      case hy7b =>
        refine Or.inl ⟨rfl, ?_⟩
        intro W hSw
        obtain ⟨u0, u1, u2, u3, u4⟩ := hSw
        go_simp
        try simp [hlt2]
      case hS7b => assumption
      try simp only [Act.put, List.setIfInBounds_toArray, List.set_cons_zero, List.set_cons_succ]
      refine wpAnyH_take (i := 8) (oi := ?oi8b) (v := ?v8b) ?hi8b ?hs8b ?hf8b ?hr8b ?hQ8b ?hy8b ?hS8b ?h8b
      case hi8b => exact (by simp only [List.getElem?_toArray, List.getElem?_cons_succ, List.getElem?_cons_zero]; rfl)
      case hs8b => kernel_rfl
      case hf8b => kernel_rfl
      case hr8b => kernel_rfl
      case hQ8b => exact fun _ _ _ h => h
      case hy8b =>
        refine Or.inl ⟨rfl, ?_⟩
        intro W hSw
        obtain ⟨u0, u1, u2, u3, u4⟩ := hSw
        go_simp
        try with_reducible rfl
      case hS8b => assumption
      try simp only [Act.put, List.setIfInBounds_toArray, List.set_cons_zero, List.set_cons_succ]
      refine wpAnyH_take (i := 9) (oi := ?oi9b) (v := ?v9b) ?hi9b ?hs9b ?hf9b ?hr9b ?hQ9b ?hy9b ?hS9b ?h9b
      case hi9b => exact (by simp only [List.getElem?_toArray, List.getElem?_cons_succ, List.getElem?_cons_zero]; rfl)
      case hs9b => kernel_rfl
      case hf9b => kernel_rfl
      case hr9b => kernel_rfl
      case hQ9b => exact fun _ _ _ h => h
      case hy9b =>
        refine Or.inl ⟨rfl, ?_⟩
        intro W hSw
        obtain ⟨u0, u1, u2, u3, u4⟩ := hSw
        go_simp
        try with_reducible rfl
      case hS9b => assumption
      try simp only [Act.put, List.setIfInBounds_toArray, List.set_cons_zero, List.set_cons_succ]
      refine wpAnyH_take (i := 10) (oi := ?oi10b) (v := ?v10b) ?hi10b ?hs10b ?hf10b ?hr10b ?hQ10b ?hy10b ?hS10b ?h10b
      case hi10b => exact (by simp only [List.getElem?_toArray, List.getElem?_cons_succ, List.getElem?_cons_zero]; rfl)
      case hs10b => kernel_rfl
      case hf10b => kernel_rfl
      case hr10b => kernel_rfl
      case hQ10b => exact fun _ _ _ h => h
      case hy10b =>
        refine Or.inl ⟨rfl, ?_⟩
        intro W hSw
        obtain ⟨u0, u1, u2, u3, u4⟩ := hSw
        go_simp
        try with_reducible rfl
      case hS10b => assumption
      try simp only [Act.put, List.setIfInBounds_toArray, List.set_cons_zero, List.set_cons_succ]
      refine wpAnyH_take (i := 11) (oi := ?oi11b) (v := ?v11b) ?hi11b ?hs11b ?hf11b ?hr11b ?hQ11b ?hy11b ?hS11b ?h11b
      case hi11b => exact (by simp only [List.getElem?_toArray, List.getElem?_cons_succ, List.getElem?_cons_zero]; rfl)
      case hs11b => kernel_rfl
      case hf11b => kernel_rfl
      case hr11b => kernel_rfl
      case hQ11b => exact fun _ _ _ h => h
      case hy11b =>
        refine Or.inl ⟨rfl, ?_⟩
        intro W hSw
        obtain ⟨u0, u1, u2, u3, u4⟩ := hSw
        go_simp
        try with_reducible rfl
      case hS11b => assumption
      try simp only [Act.put, List.setIfInBounds_toArray, List.set_cons_zero, List.set_cons_succ]
      refine wpAnyH_take (i := 12) (oi := ?oi12b) (v := ?v12b) ?hi12b ?hs12b ?hf12b ?hr12b ?hQ12b ?hy12b ?hS12b ?h12b
      case hi12b => exact (by simp only [List.getElem?_toArray, List.getElem?_cons_succ, List.getElem?_cons_zero]; rfl)
      case hs12b => kernel_rfl
      case hf12b => kernel_rfl
      case hr12b => kernel_rfl
      case hQ12b => exact fun _ _ _ h => h
      case hy12b =>
        refine Or.inl ⟨rfl, ?_⟩
        intro W hSw
        obtain ⟨u0, u1, u2, u3, u4⟩ := hSw
        go_simp
        try with_reducible rfl
      case hS12b => assumption
      try simp only [Act.put, List.setIfInBounds_toArray, List.set_cons_zero, List.set_cons_succ]
      refine wpAnyH_take (i := 13) (oi := ?oi13b) (v := undef) ?hi13b ?hs13b ?hf13b ?hr13b ?hQ13b ?hy13b ?hS13b ?h13b
      case hi13b => exact (by simp only [List.getElem?_toArray, List.getElem?_cons_succ, List.getElem?_cons_zero]; rfl)
      case hs13b => kernel_rfl
      case hf13b => kernel_rfl
      case hr13b => kernel_rfl
      case hQ13b => exact fun _ _ _ h => h
      case hy13b =>
        exact Or.inr ⟨rfl, rfl⟩
      case hS13b => assumption
      try simp only [Act.put, List.setIfInBounds_toArray, List.set_cons_zero, List.set_cons_succ]
      refine wpAnyH_take (i := 14) (oi := ?oi14b) (v := undef) ?hi14b ?hs14b ?hf14b ?hr14b ?hQ14b ?hy14b ?hS14b ?h14b
      case hi14b => exact (by simp only [List.getElem?_toArray, List.getElem?_cons_succ, List.getElem?_cons_zero]; rfl)
      case hs14b => kernel_rfl
      case hf14b => kernel_rfl
      case hr14b => kernel_rfl
      case hQ14b => exact fun _ _ _ h => h
      case hy14b =>
        exact Or.inr ⟨rfl, rfl⟩
      case hS14b => assumption
      try simp only [Act.put, List.setIfInBounds_toArray, List.set_cons_zero, List.set_cons_succ]
      refine wpAnyH_take (i := 15) (oi := ?oi15b) (v := undef) ?hi15b ?hs15b ?hf15b ?hr15b ?hQ15b ?hy15b ?hS15b ?h15b
      case hi15b => exact (by simp only [List.getElem?_toArray, List.getElem?_cons_succ, List.getElem?_cons_zero]; rfl)
      case hs15b => kernel_rfl
      case hf15b => kernel_rfl
      case hr15b => kernel_rfl
      case hQ15b => exact fun _ _ _ h => h
      case hy15b =>
        exact Or.inr ⟨rfl, rfl⟩
      case hS15b => assumption
      try simp only [Act.put, List.setIfInBounds_toArray, List.set_cons_zero, List.set_cons_succ]
      refine wpAnyH_take (i := 16) (oi := ?oi16b) (v := undef) ?hi16b ?hs16b ?hf16b ?hr16b ?hQ16b ?hy16b ?hS16b ?h16b
      case hi16b => exact (by simp only [List.getElem?_toArray, List.getElem?_cons_succ, List.getElem?_cons_zero]; rfl)
      case hs16b => kernel_rfl
      case hf16b => kernel_rfl
      case hr16b => kernel_rfl
      case hQ16b => exact fun _ _ _ h => h
      case hy16b =>
        exact Or.inr ⟨rfl, rfl⟩
      case hS16b => assumption
      try simp only [Act.put, List.setIfInBounds_toArray, List.set_cons_zero, List.set_cons_succ]
      refine wpAnyH_take (i := 17) (oi := ?oi17b) (v := undef) ?hi17b ?hs17b ?hf17b ?hr17b ?hQ17b ?hy17b ?hS17b ?h17b
      case hi17b => exact (by simp only [List.getElem?_toArray, List.getElem?_cons_succ, List.getElem?_cons_zero]; rfl)
      case hs17b => kernel_rfl
      case hf17b => kernel_rfl
      case hr17b => kernel_rfl
      case hQ17b => exact fun _ _ _ h => h
      case hy17b =>
        exact Or.inr ⟨rfl, rfl⟩
      case hS17b => assumption
      try simp only [Act.put, List.setIfInBounds_toArray, List.set_cons_zero, List.set_cons_succ]
      refine wpAnyH_take (i := 18) (oi := ?oi18b) (v := undef) ?hi18b ?hs18b ?hf18b ?hr18b ?hQ18b ?hy18b ?hS18b ?h18b
      case hi18b => exact (by simp only [List.getElem?_toArray, List.getElem?_cons_succ, List.getElem?_cons_zero]; rfl)
      case hs18b => kernel_rfl
      case hf18b => kernel_rfl
      case hr18b => kernel_rfl
      case hQ18b => exact fun _ _ _ h => h
      case hy18b =>
        exact Or.inr ⟨rfl, rfl⟩
      case hS18b => assumption
      try simp only [Act.put, List.setIfInBounds_toArray, List.set_cons_zero, List.set_cons_succ]
      refine wpAnyH_take (i := 19) (oi := ?oi19b) (v := undef) ?hi19b ?hs19b ?hf19b ?hr19b ?hQ19b ?hy19b ?hS19b ?h19b
      case hi19b => exact (by simp only [List.getElem?_toArray, List.getElem?_cons_succ, List.getElem?_cons_zero]; rfl)
      case hs19b => kernel_rfl
      case hf19b => kernel_rfl
      case hr19b => kernel_rfl
      case hQ19b => exact fun _ _ _ h => h
      case hy19b =>
        exact Or.inr ⟨rfl, rfl⟩
      case hS19b => assumption
      try simp only [Act.put, List.setIfInBounds_toArray, List.set_cons_zero, List.set_cons_succ]
      refine wpAnyH_take (i := 20) (oi := ?oi20b) (v := ?v20b) ?hi20b ?hs20b ?hf20b ?hr20b ?hQ20b ?hy20b ?hS20b ?h20b
      case hi20b => exact (by simp only [List.getElem?_toArray, List.getElem?_cons_succ, List.getElem?_cons_zero]; rfl)
      case hs20b => kernel_rfl
      case hf20b => kernel_rfl
      case hr20b => kernel_rfl
      case hQ20b => exact fun _ _ _ h => h
      case hy20b =>
        refine Or.inl ⟨rfl, ?_⟩
        intro W hSw
        obtain ⟨u0, u1, u2, u3, u4⟩ := hSw
        go_simp
        try with_reducible rfl
      case hS20b => assumption
      try simp only [Act.put, List.setIfInBounds_toArray, List.set_cons_zero, List.set_cons_succ]
      refine wpAnyH_take (i := 21) (oi := ?oi21b) (v := ?v21b) ?hi21b ?hs21b ?hf21b ?hr21b ?hQ21b ?hy21b ?hS21b ?h21b
      case hi21b => exact (by simp only [List.getElem?_toArray, List.getElem?_cons_succ, List.getElem?_cons_zero]; rfl)
      case hs21b => kernel_rfl
      case hf21b => kernel_rfl
      case hr21b => kernel_rfl
      case hQ21b => exact fun _ _ _ h => h
      case hy21b =>
        refine Or.inl ⟨rfl, ?_⟩
        intro W hSw
        obtain ⟨u0, u1, u2, u3, u4⟩ := hSw
        go_simp
        try with_reducible rfl
      case hS21b => assumption
      try simp only [Act.put, List.setIfInBounds_toArray, List.set_cons_zero, List.set_cons_succ]
      refine wpAnyH_take (i := 22) (oi := ?oi22b) (v := ?v22b) ?hi22b ?hs22b ?hf22b ?hr22b ?hQ22b ?hy22b ?hS22b ?h22b
      case hi22b => exact (by simp only [List.getElem?_toArray, List.getElem?_cons_succ, List.getElem?_cons_zero]; rfl)
      case hs22b => kernel_rfl
      case hf22b => kernel_rfl
      case hr22b => kernel_rfl
      case hQ22b => exact fun _ _ _ h => h
      case hy22b =>
        refine Or.inl ⟨rfl, ?_⟩
        intro W hSw
        obtain ⟨u0, u1, u2, u3, u4⟩ := hSw
        go_simp
        try with_reducible rfl
      case hS22b => assumption
      try simp only [Act.put, List.setIfInBounds_toArray, List.set_cons_zero, List.set_cons_succ]
      refine wpAnyH_take (i := 23) (oi := ?oi23b) (v := ?v23b) ?hi23b ?hs23b ?hf23b ?hr23b ?hQ23b ?hy23b ?hS23b ?h23b
      case hi23b => exact (by simp only [List.getElem?_toArray, List.getElem?_cons_succ, List.getElem?_cons_zero]; rfl)
      case hs23b => kernel_rfl
      case hf23b => kernel_rfl
      case hr23b => kernel_rfl
      case hQ23b => exact fun _ _ _ h => h
      case hy23b =>
        refine Or.inl ⟨rfl, ?_⟩
        intro W hSw
        obtain ⟨u0, u1, u2, u3, u4⟩ := hSw
        go_simp
        try with_reducible rfl
      case hS23b => assumption
      try simp only [Act.put, List.setIfInBounds_toArray, List.set_cons_zero, List.set_cons_succ]
      refine wpAnyH_take (i := 24) (oi := ?oi24b) (v := ?v24b) ?hi24b ?hs24b ?hf24b ?hr24b ?hQ24b ?hy24b ?hS24b ?h24b
      case hi24b => exact (by simp only [List.getElem?_toArray, List.getElem?_cons_succ, List.getElem?_cons_zero]; rfl)
      case hs24b => kernel_rfl
      case hf24b => kernel_rfl
      case hr24b => kernel_rfl
      case hQ24b => exact fun _ _ _ h => h
      case hy24b =>
        refine Or.inl ⟨rfl, ?_⟩
        intro W hSw
        obtain ⟨u0, u1, u2, u3, u4⟩ := hSw
        go_simp
        try with_reducible rfl
      case hS24b => assumption
      try simp only [Act.put, List.setIfInBounds_toArray, List.set_cons_zero, List.set_cons_succ]
      refine wpAnyH_take (i := 25) (oi := ?oi25b) (v := ?v25b) ?hi25b ?hs25b ?hf25b ?hr25b ?hQ25b ?hy25b ?hS25b ?h25b
      case hi25b => exact (by simp only [List.getElem?_toArray, List.getElem?_cons_succ, List.getElem?_cons_zero]; rfl)
      case hs25b => kernel_rfl
      case hf25b => kernel_rfl
      case hr25b => kernel_rfl
      case hQ25b => exact fun _ _ _ h => h
      case hy25b =>
        refine Or.inl ⟨rfl, ?_⟩
        intro W hSw
        obtain ⟨u0, u1, u2, u3, u4⟩ := hSw
        go_simp
        try with_reducible rfl
      case hS25b => assumption
      try simp only [Act.put, List.setIfInBounds_toArray, List.set_cons_zero, List.set_cons_succ]
      refine wpAnyH_take (i := 26) (oi := ?oi26b) (v := ?v26b) ?hi26b ?hs26b ?hf26b ?hr26b ?hQ26b ?hy26b ?hS26b ?h26b
      case hi26b => exact (by simp only [List.getElem?_toArray, List.getElem?_cons_succ, List.getElem?_cons_zero]; rfl)
      case hs26b => kernel_rfl
      case hf26b => kernel_rfl
      case hr26b => kernel_rfl
      case hQ26b => exact fun _ _ _ h => h
      case hy26b =>
        refine Or.inl ⟨rfl, ?_⟩
        intro W hSw
        obtain ⟨u0, u1, u2, u3, u4⟩ := hSw
        go_simp
        try with_reducible rfl
      case hS26b => assumption
      try simp only [Act.put, List.setIfInBounds_toArray, List.set_cons_zero, List.set_cons_succ]
      refine wpAnyH_take (i := 27) (oi := ?oi27b) (v := ?v27b) ?hi27b ?hs27b ?hf27b ?hr27b ?hQ27b ?hy27b ?hS27b ?h27b
      case hi27b => exact (by simp only [List.getElem?_toArray, List.getElem?_cons_succ, List.getElem?_cons_zero]; rfl)
      case hs27b => kernel_rfl
      case hf27b => kernel_rfl
      case hr27b => kernel_rfl
      case hQ27b => exact fun _ _ _ h => h
      case hy27b =>
        refine Or.inl ⟨rfl, ?_⟩
        intro W hSw
        obtain ⟨u0, u1, u2, u3, u4⟩ := hSw
        go_simp
        try with_reducible rfl
      case hS27b => assumption
      try simp only [Act.put, List.setIfInBounds_toArray, List.set_cons_zero, List.set_cons_succ]
      refine wpAnyH_take (i := 28) (oi := ?oi28b) (v := (.bool false)) ?hi28b ?hs28b ?hf28b ?hr28b ?hQ28b ?hy28b ?hS28b ?h28b
      case hi28b => exact (by simp only [List.getElem?_toArray, List.getElem?_cons_succ, List.getElem?_cons_zero]; rfl)
      case hs28b => kernel_rfl
      case hf28b => kernel_rfl
      case hr28b => kernel_rfl
      case hQ28b => exact fun _ _ _ h => h
      case hy28b =>
        refine Or.inl ⟨rfl, ?_⟩
        intro W hSw
        obtain ⟨u0, u1, u2, u3, u4⟩ := hSw
        go_simp
        try simp [hneq]
      case hS28b => assumption
      try simp only [Act.put, List.setIfInBounds_toArray, List.set_cons_zero, List.set_cons_succ]
      refine wpAnyH_take (i := 29) (oi := ?oi29b) (v := ?v29b) ?hi29b ?hs29b ?hf29b ?hr29b ?hQ29b ?hy29b ?hS29b ?h29b
      case hi29b => exact (by simp only [List.getElem?_toArray, List.getElem?_cons_succ, List.getElem?_cons_zero]; rfl)
      case hs29b => kernel_rfl
      case hf29b => kernel_rfl
      case hr29b => kernel_rfl
      case hQ29b => exact fun _ _ _ h => h
      case hy29b =>
        refine Or.inl ⟨rfl, ?_⟩
        intro W hSw
        obtain ⟨u0, u1, u2, u3, u4⟩ := hSw
        go_simp
        try with_reducible rfl
      case hS29b => assumption
      try simp only [Act.put, List.setIfInBounds_toArray, List.set_cons_zero, List.set_cons_succ]
      refine wpAnyH_take (i := 30) (oi := ?oi30b) (v := ?v30b) ?hi30b ?hs30b ?hf30b ?hr30b ?hQ30b ?hy30b ?hS30b ?h30b
      case hi30b => exact (by simp only [List.getElem?_toArray, List.getElem?_cons_succ, List.getElem?_cons_zero]; rfl)
      case hs30b => kernel_rfl
      case hf30b => kernel_rfl
      case hr30b => kernel_rfl
      case hQ30b => exact fun _ _ _ h => h
      case hy30b =>
        refine Or.inl ⟨rfl, ?_⟩
        intro W hSw
        obtain ⟨u0, u1, u2, u3, u4⟩ := hSw
        go_simp
        try with_reducible rfl
      case hS30b => assumption
      try simp only [Act.put, List.setIfInBounds_toArray, List.set_cons_zero, List.set_cons_succ]
      refine wpAnyH_done (by kernel_rfl) ?_ _
      go_upto_region 8 with (fail)
      have HDq : Hid (Below w9.heap.size w9 V0.drew) := HV0.out.drew
      refine wp_region_held_drew (S := fun W : World => (W.cell? ⟨P, 0, none⟩ = some (sV us.key) ∧ W.cell? ⟨P, 1, none⟩ = some (.int .i64 us.n1) ∧ W.cell? ⟨P, 2, none⟩ = some (.int .i64 us.n2) ∧ W.cell? ⟨P, 3, none⟩ = some (.int .i64 us.n3) ∧ W.cell? ⟨P, 4, none⟩ = some (.int .i64 us.n4) ∧ W.cell? ⟨P, 5, none⟩ = some (.int .i64 us.t1) ∧ W.cell? ⟨P, 6, none⟩ = some (.int .i64 us.t2) ∧ W.cell? ⟨P, 7, none⟩ = some (.int .i64 us.t3) ∧ W.cell? ⟨P, 8, none⟩ = some (.int .i64 us.t4) ∧ W.cell? ⟨P, 9, none⟩ = some (.int .i64 us.t5) ∧ W.cell? ⟨P, 10, none⟩ = some (.int .i64 us.t6) ∧ W.cell? ⟨P, 11, none⟩ = some (.int .i64 us.rate) ∧ W.cell? ⟨P, 12, none⟩ = some (.int .i64 us.out) ∧ W.cell? ⟨P, 13, none⟩ = some (.slice B1 n c1)) ∧ W.cell? ⟨Q, 0, none⟩ = some (sV us.key) ∧ W.cell? ⟨Q, 1, none⟩ = some (.int .i64 us.n1) ∧ W.cell? ⟨Q, 2, none⟩ = some (.int .i64 us.n2) ∧ W.cell? ⟨Q, 3, none⟩ = some (.int .i64 us.n3) ∧ W.cell? ⟨Q, 4, none⟩ = some (.int .i64 us.n4) ∧ W.cell? ⟨Q, 5, none⟩ = some (.int .i64 us.t1) ∧ W.cell? ⟨Q, 6, none⟩ = some (.int .i64 us.t2) ∧ W.cell? ⟨Q, 7, none⟩ = some (.int .i64 us.t3) ∧ W.cell? ⟨Q, 8, none⟩ = some (.int .i64 us.t4) ∧ W.cell? ⟨Q, 9, none⟩ = some (.int .i64 us.t5) ∧ W.cell? ⟨Q, 10, none⟩ = some (.int .i64 us.t6) ∧ W.cell? ⟨Q, 11, none⟩ = some (.int .i64 us.rate) ∧ W.cell? ⟨Q, 12, none⟩ = some (.int .i64 us.out) ∧ W.cell? ⟨Q, 13, none⟩ = some (.slice B3 n c3)) (by kernel_rfl) (⟨HCP.out _ (HDq.out), HCQ.out _ (HDq.out)⟩) (fun hHeld => ?_)
      obtain ⟨Wq0, hW0⟩ : ∃ W0, W0 = V0.drew := ⟨_, rfl⟩
      rw [← hW0] at hHeld HDq ⊢
      clear hW0
      refine wpAnyH_take (i := 0) (oi := ?oi0q) (v := ?v0q) ?hi0q ?hs0q ?hf0q ?hr0q ?hQ0q ?hy0q ?hS0q ?h0q
      case hi0q => exact (by simp only [List.getElem?_toArray, List.getElem?_cons_zero]; rfl)
      case hs0q => kernel_rfl
      case hf0q => kernel_rfl
      case hr0q => kernel_rfl
      case hQ0q => exact fun _ _ _ h => h
      case hy0q =>
        refine Or.inl ⟨rfl, ?_⟩
        intro W hSw
        obtain ⟨⟨s0, s1, s2, s3, s4, s5, s6, s7, s8, s9, s10, s11, s12, s13⟩, z0, z1, z2, z3, z4, z5, z6, z7, z8, z9, z10, z11, z12, z13⟩ := hSw
        go_simp
        try with_reducible rfl
      case hS0q => assumption
      try simp only [Act.put, List.setIfInBounds_toArray, List.set_cons_zero, List.set_cons_succ]
      refine wpAnyH_take (i := 2) (oi := ?oi2q) (v := ?v2q) ?hi2q ?hs2q ?hf2q ?hr2q ?hQ2q ?hy2q ?hS2q ?h2q
      case hi2q => exact (by simp only [List.getElem?_toArray, List.getElem?_cons_succ, List.getElem?_cons_zero]; rfl)
      case hs2q => kernel_rfl
      case hf2q => kernel_rfl
      case hr2q => kernel_rfl
      case hQ2q => exact fun _ _ _ h => h
      case hy2q =>
        refine Or.inl ⟨rfl, ?_⟩
        intro W hSw
        obtain ⟨⟨s0, s1, s2, s3, s4, s5, s6, s7, s8, s9, s10, s11, s12, s13⟩, z0, z1, z2, z3, z4, z5, z6, z7, z8, z9, z10, z11, z12, z13⟩ := hSw
        go_simp
        try with_reducible rfl
      case hS2q => assumption
      try simp only [Act.put, List.setIfInBounds_toArray, List.set_cons_zero, List.set_cons_succ]
      refine wpAnyH_ready (rs := [1]) (by kernel_rfl) (by simp) ?_
      refine AllReadyH.cons (o := _) rfl (fun K hK => ?_) AllReadyH.nil
      go_simp
      refine (HC5.out Wq0 (HM3.out _ HDq.out)).mono ?_
      rintro r Wq1 ⟨B4, c4, rfl, hM4, hbq⟩
      have HBq1 := Lib.hid (HDq.out.trans (hbq.mono HDq.out.size))
      clear hbq
      have HM4 := Lib.hid hM4
      clear hM4
      refine hK.out _ _ (⟨HCP.out _ (HBq1.out), HCQ.out _ (HBq1.out)⟩) (fun hHeld => ?_)
      clear hK K
      try simp only [Act.put, List.setIfInBounds_toArray, List.set_cons_zero, List.set_cons_succ]
      refine wpAnyH_ready (rs := [3]) (by kernel_rfl) (by simp) ?_
      refine AllReadyH.cons (o := _) rfl (fun K hK => ?_) AllReadyH.nil
      go_simp
      refine (HC6.out Wq1 B4 c4 HM4.out (HM1.out _ HBq1.out)).mono ?_
      rintro r Wq2 ⟨rfl, hbq⟩
      have HBq2 := Lib.hid (HBq1.out.trans (hbq.mono HBq1.out.size))
      clear hbq
      refine hK.out _ _ (⟨HCP.out _ (HBq2.out), HCQ.out _ (HBq2.out)⟩) (fun hHeld => ?_)
      clear hK K
      try simp only [Act.put, List.setIfInBounds_toArray, List.set_cons_zero, List.set_cons_succ]
      refine wpAnyH_take (i := 4) (oi := ?oi4q) (v := ?v4q) ?hi4q ?hs4q ?hf4q ?hr4q ?hQ4q ?hy4q ?hS4q ?h4q
      case hi4q => exact (by simp only [List.getElem?_toArray, List.getElem?_cons_succ, List.getElem?_cons_zero]; rfl)
      case hs4q => kernel_rfl
      case hf4q => kernel_rfl
      case hr4q => kernel_rfl
      case hQ4q => exact fun _ _ _ h => h
      case hy4q =>
        refine Or.inl ⟨rfl, ?_⟩
        intro W hSw
        obtain ⟨⟨s0, s1, s2, s3, s4, s5, s6, s7, s8, s9, s10, s11, s12, s13⟩, z0, z1, z2, z3, z4, z5, z6, z7, z8, z9, z10, z11, z12, z13⟩ := hSw
        go_simp
        try with_reducible rfl
      case hS4q => assumption
      try simp only [Act.put, List.setIfInBounds_toArray, List.set_cons_zero, List.set_cons_succ]
      refine wpAnyH_ready (rs := [5]) (by kernel_rfl) (by simp) ?_
      refine AllReadyH.cons (o := _) rfl (fun K hK => ?_) AllReadyH.nil
      go_simp
      refine (pawake Wq2).mono ?_
      rintro r Wq3 ⟨rfl, hbq⟩
      have HBq3 := Lib.hid (HBq2.out.trans (hbq.mono HBq2.out.size))
      clear hbq
      refine hK.out _ _ (⟨HCP.out _ (HBq3.out), HCQ.out _ (HBq3.out)⟩) (fun hHeld => ?_)
      clear hK K
      try simp only [Act.put, List.setIfInBounds_toArray, List.set_cons_zero, List.set_cons_succ]
      refine wpAnyH_take (i := 6) (oi := ?oi6q) (v := ?v6q) ?hi6q ?hs6q ?hf6q ?hr6q ?hQ6q ?hy6q ?hS6q ?h6q
      case hi6q => exact (by simp only [List.getElem?_toArray, List.getElem?_cons_succ, List.getElem?_cons_zero]; rfl)
      case hs6q => kernel_rfl
      case hf6q => kernel_rfl
      case hr6q => kernel_rfl
      case hQ6q => exact fun _ _ _ h => h
      case hy6q =>
        refine Or.inl ⟨rfl, ?_⟩
        intro W hSw
        obtain ⟨⟨s0, s1, s2, s3, s4, s5, s6, s7, s8, s9, s10, s11, s12, s13⟩, z0, z1, z2, z3, z4, z5, z6, z7, z8, z9, z10, z11, z12, z13⟩ := hSw
        go_simp
        try with_reducible rfl
      case hS6q => assumption
      try simp only [Act.put, List.setIfInBounds_toArray, List.set_cons_zero, List.set_cons_succ]
      refine wpAnyH_take (i := 7) (oi := ?oi7q) (v := ?v7q) ?hi7q ?hs7q ?hf7q ?hr7q ?hQ7q ?hy7q ?hS7q ?h7q
      case hi7q => exact (by simp only [List.getElem?_toArray, List.getElem?_cons_succ, List.getElem?_cons_zero]; rfl)
      case hs7q => kernel_rfl
      case hf7q => kernel_rfl
      case hr7q => kernel_rfl
      case hQ7q => exact fun _ _ _ h => h
      case hy7q =>
        refine Or.inl ⟨rfl, ?_⟩
        intro W hSw
        obtain ⟨⟨s0, s1, s2, s3, s4, s5, s6, s7, s8, s9, s10, s11, s12, s13⟩, z0, z1, z2, z3, z4, z5, z6, z7, z8, z9, z10, z11, z12, z13⟩ := hSw
        go_simp
        try with_reducible rfl
      case hS7q => assumption
      try simp only [Act.put, List.setIfInBounds_toArray, List.set_cons_zero, List.set_cons_succ]
      refine wpAnyH_done (by kernel_rfl) ?_ _
      try go_wp2
      go_ret
      exact ⟨rfl, HBw.out.trans (HBq3.out.mono HBw.out.size)⟩
    · have hge' := hge
      have HSr : Hid ((fun W : World => W.cell? ⟨R, 0, none⟩ = some (.int .i64 0) ∧ W.cell? ⟨R, 1, none⟩ = some (.int .i64 0) ∧ W.cell? ⟨R, 2, none⟩ = some (.int .i64 0) ∧ W.cell? ⟨R, 3, none⟩ = some (.int .i64 0) ∧ W.cell? ⟨R, 4, none⟩ = some (.int .i64 0)) w9.drew) := HCR.out _ HB9.out.drew
      refine wp_region_held_drew (S := fun W : World => W.cell? ⟨R, 0, none⟩ = some (.int .i64 0) ∧ W.cell? ⟨R, 1, none⟩ = some (.int .i64 0) ∧ W.cell? ⟨R, 2, none⟩ = some (.int .i64 0) ∧ W.cell? ⟨R, 3, none⟩ = some (.int .i64 0) ∧ W.cell? ⟨R, 4, none⟩ = some (.int .i64 0)) (by kernel_rfl) HSr.out (fun hHeld => ?_)
      obtain ⟨V0, hV0⟩ : ∃ V0, V0 = w9.drew := ⟨_, rfl⟩
      have HV0 : Hid (Below w9.heap.size w9 V0) := by rw [hV0]; exact HB9.out.drew
      rw [← hV0] at hHeld HSr ⊢
      clear hV0
      refine wpAnyH_take (i := 0) (oi := ?oi0e) (v := ?v0e) ?hi0e ?hs0e ?hf0e ?hr0e ?hQ0e ?hy0e ?hS0e ?h0e
      case hi0e => exact (by simp only [List.getElem?_toArray, List.getElem?_cons_zero]; rfl)
      case hs0e => kernel_rfl
      case hf0e => kernel_rfl
      case hr0e => kernel_rfl
      case hQ0e => exact fun _ _ _ h => h
      case hy0e =>
        refine Or.inl ⟨rfl, ?_⟩
        intro W hSw
        obtain ⟨u0, u1, u2, u3, u4⟩ := hSw
        go_simp
        try with_reducible rfl
      case hS0e => assumption
      try simp only [Act.put, List.setIfInBounds_toArray, List.set_cons_zero, List.set_cons_succ]
      refine wpAnyH_take (i := 1) (oi := ?oi1e) (v := ?v1e) ?hi1e ?hs1e ?hf1e ?hr1e ?hQ1e ?hy1e ?hS1e ?h1e
      case hi1e => exact (by simp only [List.getElem?_toArray, List.getElem?_cons_succ, List.getElem?_cons_zero]; rfl)
      case hs1e => kernel_rfl
      case hf1e => kernel_rfl
      case hr1e => kernel_rfl
      case hQ1e => exact fun _ _ _ h => h
      case hy1e =>
        refine Or.inl ⟨rfl, ?_⟩
        intro W hSw
        obtain ⟨u0, u1, u2, u3, u4⟩ := hSw
        go_simp
        try with_reducible rfl
      case hS1e => assumption
      try simp only [Act.put, List.setIfInBounds_toArray, List.set_cons_zero, List.set_cons_succ]
      refine wpAnyH_take (i := 2) (oi := ?oi2e) (v := (.bool false)) ?hi2e ?hs2e ?hf2e ?hr2e ?hQ2e ?hy2e ?hS2e ?h2e
      case hi2e => exact (by simp only [List.getElem?_toArray, List.getElem?_cons_succ, List.getElem?_cons_zero]; rfl)
      case hs2e => kernel_rfl
      case hf2e => kernel_rfl
      case hr2e => kernel_rfl
      case hQ2e => exact fun _ _ _ h => h
      case hy2e =>
        refine Or.inl ⟨rfl, ?_⟩
        intro W hSw
        obtain ⟨u0, u1, u2, u3, u4⟩ := hSw
        go_simp
        try simp [hge]
      case hS2e => assumption
      try simp only [Act.put, List.setIfInBounds_toArray, List.set_cons_zero, List.set_cons_succ]
      refine wpAnyH_take (i := 3) (oi := ?oi3e) (v := ?v3e) ?hi3e ?hs3e ?hf3e ?hr3e ?hQ3e ?hy3e ?hS3e ?h3e
      case hi3e => exact (by simp only [List.getElem?_toArray, List.getElem?_cons_succ, List.getElem?_cons_zero]; rfl)
      case hs3e => kernel_rfl
      case hf3e => kernel_rfl
      case hr3e => kernel_rfl
      case hQ3e => exact fun _ _ _ h => h
      case hy3e =>
        refine Or.inl ⟨rfl, ?_⟩
        intro W hSw
        obtain ⟨u0, u1, u2, u3, u4⟩ := hSw
        go_simp
        try with_reducible rfl
      case hS3e => assumption
      try simp only [Act.put, List.setIfInBounds_toArray, List.set_cons_zero, List.set_cons_succ]
      refine wpAnyH_take (i := 4) (oi := ?oi4e) (v := undef) ?hi4e ?hs4e ?hf4e ?hr4e ?hQ4e ?hy4e ?hS4e ?h4e
      case hi4e => exact (by simp only [List.getElem?_toArray, List.getElem?_cons_succ, List.getElem?_cons_zero]; rfl)
      case hs4e => kernel_rfl
      case hf4e => kernel_rfl
      case hr4e => kernel_rfl
      case hQ4e => exact fun _ _ _ h => h
      case hy4e =>
        exact Or.inr ⟨rfl, rfl⟩
      case hS4e => assumption
      try simp only [Act.put, List.setIfInBounds_toArray, List.set_cons_zero, List.set_cons_succ]
      refine wpAnyH_take (i := 5) (oi := ?oi5e) (v := undef) ?hi5e ?hs5e ?hf5e ?hr5e ?hQ5e ?hy5e ?hS5e ?h5e
      case hi5e => exact (by simp only [List.getElem?_toArray, List.getElem?_cons_succ, List.getElem?_cons_zero]; rfl)
      case hs5e => kernel_rfl
      case hf5e => kernel_rfl
      case hr5e => kernel_rfl
      case hQ5e => exact fun _ _ _ h => h
      case hy5e =>
        exact Or.inr ⟨rfl, rfl⟩
      case hS5e => assumption
      try simp only [Act.put, List.setIfInBounds_toArray, List.set_cons_zero, List.set_cons_succ]
      refine wpAnyH_take (i := 6) (oi := ?oi6e) (v := undef) ?hi6e ?hs6e ?hf6e ?hr6e ?hQ6e ?hy6e ?hS6e ?h6e
      case hi6e => exact (by simp only [List.getElem?_toArray, List.getElem?_cons_succ, List.getElem?_cons_zero]; rfl)
      case hs6e => kernel_rfl
      case hf6e => kernel_rfl
      case hr6e => kernel_rfl
      case hQ6e => exact fun _ _ _ h => h
      case hy6e =>
        exact Or.inr ⟨rfl, rfl⟩
      case hS6e => assumption
      try simp only [Act.put, List.setIfInBounds_toArray, List.set_cons_zero, List.set_cons_succ]
      refine wpAnyH_take (i := 7) (oi := ?oi7e) (v := undef) ?hi7e ?hs7e ?hf7e ?hr7e ?hQ7e ?hy7e ?hS7e ?h7e
      case hi7e => exact (by simp only [List.getElem?_toArray, List.getElem?_cons_succ, List.getElem?_cons_zero]; rfl)
      case hs7e => kernel_rfl
      case hf7e => kernel_rfl
      case hr7e => kernel_rfl
      case hQ7e => exact fun _ _ _ h => h
      case hy7e =>
        exact Or.inr ⟨rfl, rfl⟩
      case hS7e => assumption
      try simp only [Act.put, List.setIfInBounds_toArray, List.set_cons_zero, List.set_cons_succ]
      refine wpAnyH_take (i := 8) (oi := ?oi8e) (v := ?v8e) ?hi8e ?hs8e ?hf8e ?hr8e ?hQ8e ?hy8e ?hS8e ?h8e
      case hi8e => exact (by simp only [List.getElem?_toArray, List.getElem?_cons_succ, List.getElem?_cons_zero]; rfl)
      case hs8e => kernel_rfl
      case hf8e => kernel_rfl
      case hr8e => kernel_rfl
      case hQ8e => exact fun _ _ _ h => h
      case hy8e =>
        refine Or.inl ⟨rfl, ?_⟩
        intro W hSw
        obtain ⟨u0, u1, u2, u3, u4⟩ := hSw
        go_simp
        try with_reducible rfl
      case hS8e => assumption
      try simp only [Act.put, List.setIfInBounds_toArray, List.set_cons_zero, List.set_cons_succ]
      refine wpAnyH_take (i := 9) (oi := ?oi9e) (v := ?v9e) ?hi9e ?hs9e ?hf9e ?hr9e ?hQ9e ?hy9e ?hS9e ?h9e
      case hi9e => exact (by simp only [List.getElem?_toArray, List.getElem?_cons_succ, List.getElem?_cons_zero]; rfl)
      case hs9e => kernel_rfl
      case hf9e => kernel_rfl
      case hr9e => kernel_rfl
      case hQ9e => exact fun _ _ _ h => h
      case hy9e =>
        refine Or.inl ⟨rfl, ?_⟩
        intro W hSw
        obtain ⟨u0, u1, u2, u3, u4⟩ := hSw
        go_simp
        try with_reducible rfl
      case hS9e => assumption
      try simp only [Act.put, List.setIfInBounds_toArray, List.set_cons_zero, List.set_cons_succ]
      refine wpAnyH_take (i := 10) (oi := ?oi10e) (v := ?v10e) ?hi10e ?hs10e ?hf10e ?hr10e ?hQ10e ?hy10e ?hS10e ?h10e
      case hi10e => exact (by simp only [List.getElem?_toArray, List.getElem?_cons_succ, List.getElem?_cons_zero]; rfl)
      case hs10e => kernel_rfl
      case hf10e => kernel_rfl
      case hr10e => kernel_rfl
      case hQ10e => exact fun _ _ _ h => h
      case hy10e =>
        refine Or.inl ⟨rfl, ?_⟩
        intro W hSw
        obtain ⟨u0, u1, u2, u3, u4⟩ := hSw
        go_simp
        try with_reducible rfl
      case hS10e => assumption
      try simp only [Act.put, List.setIfInBounds_toArray, List.set_cons_zero, List.set_cons_succ]
      refine wpAnyH_take (i := 11) (oi := ?oi11e) (v := ?v11e) ?hi11e ?hs11e ?hf11e ?hr11e ?hQ11e ?hy11e ?hS11e ?h11e
      case hi11e => exact (by simp only [List.getElem?_toArray, List.getElem?_cons_succ, List.getElem?_cons_zero]; rfl)
      case hs11e => kernel_rfl
      case hf11e => kernel_rfl
      case hr11e => kernel_rfl
      case hQ11e => exact fun _ _ _ h => h
      case hy11e =>
        refine Or.inl ⟨rfl, ?_⟩
        intro W hSw
        obtain ⟨u0, u1, u2, u3, u4⟩ := hSw
        go_simp
        try with_reducible rfl
      case hS11e => assumption
      try simp only [Act.put, List.setIfInBounds_toArray, List.set_cons_zero, List.set_cons_succ]
      refine wpAnyH_take (i := 12) (oi := ?oi12e) (v := ?v12e) ?hi12e ?hs12e ?hf12e ?hr12e ?hQ12e ?hy12e ?hS12e ?h12e
      case hi12e => exact (by simp only [List.getElem?_toArray, List.getElem?_cons_succ, List.getElem?_cons_zero]; rfl)
      case hs12e => kernel_rfl
      case hf12e => kernel_rfl
      case hr12e => kernel_rfl
      case hQ12e => exact fun _ _ _ h => h
      case hy12e =>
        refine Or.inl ⟨rfl, ?_⟩
        intro W hSw
        obtain ⟨u0, u1, u2, u3, u4⟩ := hSw
        go_simp
        try with_reducible rfl
      case hS12e => assumption
      try simp only [Act.put, List.setIfInBounds_toArray, List.set_cons_zero, List.set_cons_succ]
      refine wpAnyH_take (i := 13) (oi := ?oi13e) (v := undef) ?hi13e ?hs13e ?hf13e ?hr13e ?hQ13e ?hy13e ?hS13e ?h13e
      case hi13e => exact (by simp only [List.getElem?_toArray, List.getElem?_cons_succ, List.getElem?_cons_zero]; rfl)
      case hs13e => kernel_rfl
      case hf13e => kernel_rfl
      case hr13e => kernel_rfl
      case hQ13e => exact fun _ _ _ h => h
      case hy13e =>
        exact Or.inr ⟨rfl, rfl⟩
      case hS13e => assumption
      try simp only [Act.put, List.setIfInBounds_toArray, List.set_cons_zero, List.set_cons_succ]
      refine wpAnyH_take (i := 14) (oi := ?oi14e) (v := undef) ?hi14e ?hs14e ?hf14e ?hr14e ?hQ14e ?hy14e ?hS14e ?h14e
      case hi14e => exact (by simp only [List.getElem?_toArray, List.getElem?_cons_succ, List.getElem?_cons_zero]; rfl)
      case hs14e => kernel_rfl
      case hf14e => kernel_rfl
      case hr14e => kernel_rfl
      case hQ14e => exact fun _ _ _ h => h
      case hy14e =>
        exact Or.inr ⟨rfl, rfl⟩
      case hS14e => assumption
      try simp only [Act.put, List.setIfInBounds_toArray, List.set_cons_zero, List.set_cons_succ]
      refine wpAnyH_take (i := 15) (oi := ?oi15e) (v := undef) ?hi15e ?hs15e ?hf15e ?hr15e ?hQ15e ?hy15e ?hS15e ?h15e
      case hi15e => exact (by simp only [List.getElem?_toArray, List.getElem?_cons_succ, List.getElem?_cons_zero]; rfl)
      case hs15e => kernel_rfl
      case hf15e => kernel_rfl
      case hr15e => kernel_rfl
      case hQ15e => exact fun _ _ _ h => h
      case hy15e =>
        exact Or.inr ⟨rfl, rfl⟩
      case hS15e => assumption
      try simp only [Act.put, List.setIfInBounds_toArray, List.set_cons_zero, List.set_cons_succ]
      refine wpAnyH_take (i := 16) (oi := ?oi16e) (v := undef) ?hi16e ?hs16e ?hf16e ?hr16e ?hQ16e ?hy16e ?hS16e ?h16e
      case hi16e => exact (by simp only [List.getElem?_toArray, List.getElem?_cons_succ, List.getElem?_cons_zero]; rfl)
      case hs16e => kernel_rfl
      case hf16e => kernel_rfl
      case hr16e => kernel_rfl
      case hQ16e => exact fun _ _ _ h => h
      case hy16e =>
        exact Or.inr ⟨rfl, rfl⟩
      case hS16e => assumption
      try simp only [Act.put, List.setIfInBounds_toArray, List.set_cons_zero, List.set_cons_succ]
      refine wpAnyH_take (i := 17) (oi := ?oi17e) (v := undef) ?hi17e ?hs17e ?hf17e ?hr17e ?hQ17e ?hy17e ?hS17e ?h17e
      case hi17e => exact (by simp only [List.getElem?_toArray, List.getElem?_cons_succ, List.getElem?_cons_zero]; rfl)
      case hs17e => kernel_rfl
      case hf17e => kernel_rfl
      case hr17e => kernel_rfl
      case hQ17e => exact fun _ _ _ h => h
      case hy17e =>
        exact Or.inr ⟨rfl, rfl⟩
      case hS17e => assumption
      try simp only [Act.put, List.setIfInBounds_toArray, List.set_cons_zero, List.set_cons_succ]
      refine wpAnyH_take (i := 18) (oi := ?oi18e) (v := undef) ?hi18e ?hs18e ?hf18e ?hr18e ?hQ18e ?hy18e ?hS18e ?h18e
      case hi18e => exact (by simp only [List.getElem?_toArray, List.getElem?_cons_succ, List.getElem?_cons_zero]; rfl)
      case hs18e => kernel_rfl
      case hf18e => kernel_rfl
      case hr18e => kernel_rfl
      case hQ18e => exact fun _ _ _ h => h
      case hy18e =>
        exact Or.inr ⟨rfl, rfl⟩
      case hS18e => assumption
      try simp only [Act.put, List.setIfInBounds_toArray, List.set_cons_zero, List.set_cons_succ]
      refine wpAnyH_take (i := 19) (oi := ?oi19e) (v := undef) ?hi19e ?hs19e ?hf19e ?hr19e ?hQ19e ?hy19e ?hS19e ?h19e
      case hi19e => exact (by simp only [List.getElem?_toArray, List.getElem?_cons_succ, List.getElem?_cons_zero]; rfl)
      case hs19e => kernel_rfl
      case hf19e => kernel_rfl
      case hr19e => kernel_rfl
      case hQ19e => exact fun _ _ _ h => h
      case hy19e =>
        exact Or.inr ⟨rfl, rfl⟩
      case hS19e => assumption
      try simp only [Act.put, List.setIfInBounds_toArray, List.set_cons_zero, List.set_cons_succ]
      refine wpAnyH_take (i := 20) (oi := ?oi20e) (v := ?v20e) ?hi20e ?hs20e ?hf20e ?hr20e ?hQ20e ?hy20e ?hS20e ?h20e
      case hi20e => exact (by simp only [List.getElem?_toArray, List.getElem?_cons_succ, List.getElem?_cons_zero]; rfl)
      case hs20e => kernel_rfl
      case hf20e => kernel_rfl
      case hr20e => kernel_rfl
      case hQ20e => exact fun _ _ _ h => h
      case hy20e =>
        refine Or.inl ⟨rfl, ?_⟩
        intro W hSw
        obtain ⟨u0, u1, u2, u3, u4⟩ := hSw
        go_simp
        try with_reducible rfl
      case hS20e => assumption
      try simp only [Act.put, List.setIfInBounds_toArray, List.set_cons_zero, List.set_cons_succ]
      refine wpAnyH_take (i := 21) (oi := ?oi21e) (v := ?v21e) ?hi21e ?hs21e ?hf21e ?hr21e ?hQ21e ?hy21e ?hS21e ?h21e
      case hi21e => exact (by simp only [List.getElem?_toArray, List.getElem?_cons_succ, List.getElem?_cons_zero]; rfl)
      case hs21e => kernel_rfl
      case hf21e => kernel_rfl
      case hr21e => kernel_rfl
      case hQ21e => exact fun _ _ _ h => h
      case hy21e =>
        refine Or.inl ⟨rfl, ?_⟩
        intro W hSw
        obtain ⟨u0, u1, u2, u3, u4⟩ := hSw
        go_simp
        try with_reducible rfl
      case hS21e => assumption
      try simp only [Act.put, List.setIfInBounds_toArray, List.set_cons_zero, List.set_cons_succ]
      refine wpAnyH_take (i := 22) (oi := ?oi22e) (v := ?v22e) ?hi22e ?hs22e ?hf22e ?hr22e ?hQ22e ?hy22e ?hS22e ?h22e
      case hi22e => exact (by simp only [List.getElem?_toArray, List.getElem?_cons_succ, List.getElem?_cons_zero]; rfl)
      case hs22e => kernel_rfl
      case hf22e => kernel_rfl
      case hr22e => kernel_rfl
      case hQ22e => exact fun _ _ _ h => h
      case hy22e =>
        refine Or.inl ⟨rfl, ?_⟩
        intro W hSw
        obtain ⟨u0, u1, u2, u3, u4⟩ := hSw
        go_simp
        try with_reducible rfl
      case hS22e => assumption
      try simp only [Act.put, List.setIfInBounds_toArray, List.set_cons_zero, List.set_cons_succ]
      refine wpAnyH_take (i := 23) (oi := ?oi23e) (v := ?v23e) ?hi23e ?hs23e ?hf23e ?hr23e ?hQ23e ?hy23e ?hS23e ?h23e
      case hi23e => exact (by simp only [List.getElem?_toArray, List.getElem?_cons_succ, List.getElem?_cons_zero]; rfl)
      case hs23e => kernel_rfl
      case hf23e => kernel_rfl
      case hr23e => kernel_rfl
      case hQ23e => exact fun _ _ _ h => h
      case hy23e =>
        refine Or.inl ⟨rfl, ?_⟩
        intro W hSw
        obtain ⟨u0, u1, u2, u3, u4⟩ := hSw
        go_simp
        try with_reducible rfl
      case hS23e => assumption
      try simp only [Act.put, List.setIfInBounds_toArray, List.set_cons_zero, List.set_cons_succ]
      refine wpAnyH_take (i := 24) (oi := ?oi24e) (v := ?v24e) ?hi24e ?hs24e ?hf24e ?hr24e ?hQ24e ?hy24e ?hS24e ?h24e
      case hi24e => exact (by simp only [List.getElem?_toArray, List.getElem?_cons_succ, List.getElem?_cons_zero]; rfl)
      case hs24e => kernel_rfl
      case hf24e => kernel_rfl
      case hr24e => kernel_rfl
      case hQ24e => exact fun _ _ _ h => h
      case hy24e =>
        refine Or.inl ⟨rfl, ?_⟩
        intro W hSw
        obtain ⟨u0, u1, u2, u3, u4⟩ := hSw
        go_simp
        try with_reducible rfl
      case hS24e => assumption
      try simp only [Act.put, List.setIfInBounds_toArray, List.set_cons_zero, List.set_cons_succ]
      refine wpAnyH_take (i := 25) (oi := ?oi25e) (v := ?v25e) ?hi25e ?hs25e ?hf25e ?hr25e ?hQ25e ?hy25e ?hS25e ?h25e
      case hi25e => exact (by simp only [List.getElem?_toArray, List.getElem?_cons_succ, List.getElem?_cons_zero]; rfl)
      case hs25e => kernel_rfl
      case hf25e => kernel_rfl
      case hr25e => kernel_rfl
      case hQ25e => exact fun _ _ _ h => h
      case hy25e =>
        refine Or.inl ⟨rfl, ?_⟩
        intro W hSw
        obtain ⟨u0, u1, u2, u3, u4⟩ := hSw
        go_simp
        try with_reducible rfl
      case hS25e => assumption
      try simp only [Act.put, List.setIfInBounds_toArray, List.set_cons_zero, List.set_cons_succ]
      refine wpAnyH_take (i := 26) (oi := ?oi26e) (v := ?v26e) ?hi26e ?hs26e ?hf26e ?hr26e ?hQ26e ?hy26e ?hS26e ?h26e
      case hi26e => exact (by simp only [List.getElem?_toArray, List.getElem?_cons_succ, List.getElem?_cons_zero]; rfl)
      case hs26e => kernel_rfl
      case hf26e => kernel_rfl
      case hr26e => kernel_rfl
      case hQ26e => exact fun _ _ _ h => h
      case hy26e =>
        refine Or.inl ⟨rfl, ?_⟩
        intro W hSw
        obtain ⟨u0, u1, u2, u3, u4⟩ := hSw
        go_simp
        try with_reducible rfl
      case hS26e => assumption
      try simp only [Act.put, List.setIfInBounds_toArray, List.set_cons_zero, List.set_cons_succ]
      refine wpAnyH_take (i := 27) (oi := ?oi27e) (v := ?v27e) ?hi27e ?hs27e ?hf27e ?hr27e ?hQ27e ?hy27e ?hS27e ?h27e
      case hi27e => exact (by simp only [List.getElem?_toArray, List.getElem?_cons_succ, List.getElem?_cons_zero]; rfl)
      case hs27e => kernel_rfl
      case hf27e => kernel_rfl
      case hr27e => kernel_rfl
      case hQ27e => exact fun _ _ _ h => h
      case hy27e =>
        refine Or.inl ⟨rfl, ?_⟩
        intro W hSw
        obtain ⟨u0, u1, u2, u3, u4⟩ := hSw
        go_simp
        try with_reducible rfl
      case hS27e => assumption
      try simp only [Act.put, List.setIfInBounds_toArray, List.set_cons_zero, List.set_cons_succ]
      refine wpAnyH_take (i := 28) (oi := ?oi28e) (v := (.bool false)) ?hi28e ?hs28e ?hf28e ?hr28e ?hQ28e ?hy28e ?hS28e ?h28e
      case hi28e => exact (by simp only [List.getElem?_toArray, List.getElem?_cons_succ, List.getElem?_cons_zero]; rfl)
      case hs28e => kernel_rfl
      case hf28e => kernel_rfl
      case hr28e => kernel_rfl
      case hQ28e => exact fun _ _ _ h => h
      case hy28e =>
        refine Or.inl ⟨rfl, ?_⟩
        intro W hSw
        obtain ⟨u0, u1, u2, u3, u4⟩ := hSw
        go_simp
        try simp [hneq]
      case hS28e => assumption
      try simp only [Act.put, List.setIfInBounds_toArray, List.set_cons_zero, List.set_cons_succ]
      refine wpAnyH_take (i := 29) (oi := ?oi29e) (v := ?v29e) ?hi29e ?hs29e ?hf29e ?hr29e ?hQ29e ?hy29e ?hS29e ?h29e
      case hi29e => exact (by simp only [List.getElem?_toArray, List.getElem?_cons_succ, List.getElem?_cons_zero]; rfl)
      case hs29e => kernel_rfl
      case hf29e => kernel_rfl
      case hr29e => kernel_rfl
      case hQ29e => exact fun _ _ _ h => h
      case hy29e =>
        refine Or.inl ⟨rfl, ?_⟩
        intro W hSw
        obtain ⟨u0, u1, u2, u3, u4⟩ := hSw
        go_simp
        try with_reducible rfl
      case hS29e => assumption
      try simp only [Act.put, List.setIfInBounds_toArray, List.set_cons_zero, List.set_cons_succ]
      refine wpAnyH_take (i := 30) (oi := ?oi30e) (v := ?v30e) ?hi30e ?hs30e ?hf30e ?hr30e ?hQ30e ?hy30e ?hS30e ?h30e
      case hi30e => exact (by simp only [List.getElem?_toArray, List.getElem?_cons_succ, List.getElem?_cons_zero]; rfl)
      case hs30e => kernel_rfl
      case hf30e => kernel_rfl
      case hr30e => kernel_rfl
      case hQ30e => exact fun _ _ _ h => h
      case hy30e =>
        refine Or.inl ⟨rfl, ?_⟩
        intro W hSw
        obtain ⟨u0, u1, u2, u3, u4⟩ := hSw
        go_simp
        try with_reducible rfl
      case hS30e => assumption
      try simp only [Act.put, List.setIfInBounds_toArray, List.set_cons_zero, List.set_cons_succ]
      refine wpAnyH_done (by kernel_rfl) ?_ _
      go_upto_region 8 with (fail)
      have HDr : Hid (Below w9.heap.size w9 V0.drew) := HV0.out.drew
      refine wp_region_held_drew (S := fun W : World => (W.cell? ⟨P, 0, none⟩ = some (sV us.key) ∧ W.cell? ⟨P, 1, none⟩ = some (.int .i64 us.n1) ∧ W.cell? ⟨P, 2, none⟩ = some (.int .i64 us.n2) ∧ W.cell? ⟨P, 3, none⟩ = some (.int .i64 us.n3) ∧ W.cell? ⟨P, 4, none⟩ = some (.int .i64 us.n4) ∧ W.cell? ⟨P, 5, none⟩ = some (.int .i64 us.t1) ∧ W.cell? ⟨P, 6, none⟩ = some (.int .i64 us.t2) ∧ W.cell? ⟨P, 7, none⟩ = some (.int .i64 us.t3) ∧ W.cell? ⟨P, 8, none⟩ = some (.int .i64 us.t4) ∧ W.cell? ⟨P, 9, none⟩ = some (.int .i64 us.t5) ∧ W.cell? ⟨P, 10, none⟩ = some (.int .i64 us.t6) ∧ W.cell? ⟨P, 11, none⟩ = some (.int .i64 us.rate) ∧ W.cell? ⟨P, 12, none⟩ = some (.int .i64 us.out) ∧ W.cell? ⟨P, 13, none⟩ = some (.slice B1 n c1)) ∧ W.cell? ⟨Q, 0, none⟩ = some (sV us.key) ∧ W.cell? ⟨Q, 1, none⟩ = some (.int .i64 us.n1) ∧ W.cell? ⟨Q, 2, none⟩ = some (.int .i64 us.n2) ∧ W.cell? ⟨Q, 3, none⟩ = some (.int .i64 us.n3) ∧ W.cell? ⟨Q, 4, none⟩ = some (.int .i64 us.n4) ∧ W.cell? ⟨Q, 5, none⟩ = some (.int .i64 us.t1) ∧ W.cell? ⟨Q, 6, none⟩ = some (.int .i64 us.t2) ∧ W.cell? ⟨Q, 7, none⟩ = some (.int .i64 us.t3) ∧ W.cell? ⟨Q, 8, none⟩ = some (.int .i64 us.t4) ∧ W.cell? ⟨Q, 9, none⟩ = some (.int .i64 us.t5) ∧ W.cell? ⟨Q, 10, none⟩ = some (.int .i64 us.t6) ∧ W.cell? ⟨Q, 11, none⟩ = some (.int .i64 us.rate) ∧ W.cell? ⟨Q, 12, none⟩ = some (.int .i64 us.out) ∧ W.cell? ⟨Q, 13, none⟩ = some (.slice B3 n c3)) (by kernel_rfl) (⟨HCP.out _ (HDr.out), HCQ.out _ (HDr.out)⟩) (fun hHeld => ?_)
      obtain ⟨Wr0, hW0⟩ : ∃ W0, W0 = V0.drew := ⟨_, rfl⟩
      rw [← hW0] at hHeld HDr ⊢
      clear hW0
      refine wpAnyH_take (i := 0) (oi := ?oi0r) (v := ?v0r) ?hi0r ?hs0r ?hf0r ?hr0r ?hQ0r ?hy0r ?hS0r ?h0r
      case hi0r => exact (by simp only [List.getElem?_toArray, List.getElem?_cons_zero]; rfl)
      case hs0r => kernel_rfl
      case hf0r => kernel_rfl
      case hr0r => kernel_rfl
      case hQ0r => exact fun _ _ _ h => h
      case hy0r =>
        refine Or.inl ⟨rfl, ?_⟩
        intro W hSw
        obtain ⟨⟨s0, s1, s2, s3, s4, s5, s6, s7, s8, s9, s10, s11, s12, s13⟩, z0, z1, z2, z3, z4, z5, z6, z7, z8, z9, z10, z11, z12, z13⟩ := hSw
        go_simp
        try with_reducible rfl
      case hS0r => assumption
      try simp only [Act.put, List.setIfInBounds_toArray, List.set_cons_zero, List.set_cons_succ]
      refine wpAnyH_take (i := 2) (oi := ?oi2r) (v := ?v2r) ?hi2r ?hs2r ?hf2r ?hr2r ?hQ2r ?hy2r ?hS2r ?h2r
      case hi2r => exact (by simp only [List.getElem?_toArray, List.getElem?_cons_succ, List.getElem?_cons_zero]; rfl)
      case hs2r => kernel_rfl
      case hf2r => kernel_rfl
      case hr2r => kernel_rfl
      case hQ2r => exact fun _ _ _ h => h
      case hy2r =>
        refine Or.inl ⟨rfl, ?_⟩
        intro W hSw
        obtain ⟨⟨s0, s1, s2, s3, s4, s5, s6, s7, s8, s9, s10, s11, s12, s13⟩, z0, z1, z2, z3, z4, z5, z6, z7, z8, z9, z10, z11, z12, z13⟩ := hSw
        go_simp
        try with_reducible rfl
      case hS2r => assumption
      try simp only [Act.put, List.setIfInBounds_toArray, List.set_cons_zero, List.set_cons_succ]
      refine wpAnyH_ready (rs := [1]) (by kernel_rfl) (by simp) ?_
      refine AllReadyH.cons (o := _) rfl (fun K hK => ?_) AllReadyH.nil
      go_simp
      refine (HC5.out Wr0 (HM3.out _ HDr.out)).mono ?_
      rintro r Wr1 ⟨B4, c4, rfl, hM4, hbq⟩
      have HBr1 := Lib.hid (HDr.out.trans (hbq.mono HDr.out.size))
      clear hbq
      have HM4 := Lib.hid hM4
      clear hM4
      refine hK.out _ _ (⟨HCP.out _ (HBr1.out), HCQ.out _ (HBr1.out)⟩) (fun hHeld => ?_)
      clear hK K
      try simp only [Act.put, List.setIfInBounds_toArray, List.set_cons_zero, List.set_cons_succ]
      refine wpAnyH_ready (rs := [3]) (by kernel_rfl) (by simp) ?_
      refine AllReadyH.cons (o := _) rfl (fun K hK => ?_) AllReadyH.nil
      go_simp
      refine (HC6.out Wr1 B4 c4 HM4.out (HM1.out _ HBr1.out)).mono ?_
      rintro r Wr2 ⟨rfl, hbq⟩
      have HBr2 := Lib.hid (HBr1.out.trans (hbq.mono HBr1.out.size))
      clear hbq
      refine hK.out _ _ (⟨HCP.out _ (HBr2.out), HCQ.out _ (HBr2.out)⟩) (fun hHeld => ?_)
      clear hK K
      try simp only [Act.put, List.setIfInBounds_toArray, List.set_cons_zero, List.set_cons_succ]
      refine wpAnyH_take (i := 4) (oi := ?oi4r) (v := ?v4r) ?hi4r ?hs4r ?hf4r ?hr4r ?hQ4r ?hy4r ?hS4r ?h4r
      case hi4r => exact (by simp only [List.getElem?_toArray, List.getElem?_cons_succ, List.getElem?_cons_zero]; rfl)
      case hs4r => kernel_rfl
      case hf4r => kernel_rfl
      case hr4r => kernel_rfl
      case hQ4r => exact fun _ _ _ h => h
      case hy4r =>
        refine Or.inl ⟨rfl, ?_⟩
        intro W hSw
        obtain ⟨⟨s0, s1, s2, s3, s4, s5, s6, s7, s8, s9, s10, s11, s12, s13⟩, z0, z1, z2, z3, z4, z5, z6, z7, z8, z9, z10, z11, z12, z13⟩ := hSw
        go_simp
        try with_reducible rfl
      case hS4r => assumption
      try simp only [Act.put, List.setIfInBounds_toArray, List.set_cons_zero, List.set_cons_succ]
      refine wpAnyH_ready (rs := [5]) (by kernel_rfl) (by simp) ?_
      refine AllReadyH.cons (o := _) rfl (fun K hK => ?_) AllReadyH.nil
      go_simp
      refine (pawake Wr2).mono ?_
      rintro r Wr3 ⟨rfl, hbq⟩
      have HBr3 := Lib.hid (HBr2.out.trans (hbq.mono HBr2.out.size))
      clear hbq
      refine hK.out _ _ (⟨HCP.out _ (HBr3.out), HCQ.out _ (HBr3.out)⟩) (fun hHeld => ?_)
      clear hK K
      try simp only [Act.put, List.setIfInBounds_toArray, List.set_cons_zero, List.set_cons_succ]
      refine wpAnyH_take (i := 6) (oi := ?oi6r) (v := ?v6r) ?hi6r ?hs6r ?hf6r ?hr6r ?hQ6r ?hy6r ?hS6r ?h6r
      case hi6r => exact (by simp only [List.getElem?_toArray, List.getElem?_cons_succ, List.getElem?_cons_zero]; rfl)
      case hs6r => kernel_rfl
      case hf6r => kernel_rfl
      case hr6r => kernel_rfl
      case hQ6r => exact fun _ _ _ h => h
      case hy6r =>
        refine Or.inl ⟨rfl, ?_⟩
        intro W hSw
        obtain ⟨⟨s0, s1, s2, s3, s4, s5, s6, s7, s8, s9, s10, s11, s12, s13⟩, z0, z1, z2, z3, z4, z5, z6, z7, z8, z9, z10, z11, z12, z13⟩ := hSw
        go_simp
        try with_reducible rfl
      case hS6r => assumption
      try simp only [Act.put, List.setIfInBounds_toArray, List.set_cons_zero, List.set_cons_succ]
      refine wpAnyH_take (i := 7) (oi := ?oi7r) (v := ?v7r) ?hi7r ?hs7r ?hf7r ?hr7r ?hQ7r ?hy7r ?hS7r ?h7r
      case hi7r => exact (by simp only [List.getElem?_toArray, List.getElem?_cons_succ, List.getElem?_cons_zero]; rfl)
      case hs7r => kernel_rfl
      case hf7r => kernel_rfl
      case hr7r => kernel_rfl
      case hQ7r => exact fun _ _ _ h => h
      case hy7r =>
        refine Or.inl ⟨rfl, ?_⟩
        intro W hSw
        obtain ⟨⟨s0, s1, s2, s3, s4, s5, s6, s7, s8, s9, s10, s11, s12, s13⟩, z0, z1, z2, z3, z4, z5, z6, z7, z8, z9, z10, z11, z12, z13⟩ := hSw
        go_simp
        try with_reducible rfl
      case hS7r => assumption
      try simp only [Act.put, List.setIfInBounds_toArray, List.set_cons_zero, List.set_cons_succ]
      refine wpAnyH_done (by kernel_rfl) ?_ _
      try go_wp2
      go_ret
      exact ⟨rfl, HBw.out.trans (HBr3.out.mono HBw.out.size)⟩
end Go.Proofs.Ytpomddmeachbbaa
