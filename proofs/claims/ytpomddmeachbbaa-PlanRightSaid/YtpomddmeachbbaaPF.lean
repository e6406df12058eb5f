/- Plan: PlanRight's walk. -/
import Derived.Test.YtpomddmeachbbaaPE
namespace Go.Proofs.Ytpomddmeachbbaa
open Go.RowKit
set_option maxRecDepth 20000

theorem Ms.kept_at {w W : World} {B B' : Nat} {A : Option Addr} {l : List Md} (h : Ms w B A l) (hB : B ≤ B') (hk : ∀ ad, A = some ad → W.heap[ad.block]? = w.heap[ad.block]?) : Ms W B' A l := h.kept hB hk
theorem Ms.kept_ne {w W : World} {B B' X : Nat} {A : Option Addr} {l : List Md} (h : Ms w B A l) (hB : B ≤ B') (hk : ∀ g, g ≠ X → W.heap[g]? = w.heap[g]?) (hX : B ≤ X) : Ms W B' A l := fun hl => by
  obtain ⟨b, o, rfl, h1, h2⟩ := h hl
  have hb := hk b (by omega)
  refine ⟨b, o, rfl, Nat.lt_of_lt_of_le h1 hB, fun i m hi => ?_⟩
  obtain ⟨c0, c1, c2, c3, c4⟩ := h2 i m hi
  have e : ∀ p, W.cell? ⟨b, p, none⟩ = w.cell? ⟨b, p, none⟩ := fun p => World.cell?_of_block hb
  exact ⟨(e _).trans c0, (e _).trans c1, (e _).trans c2, (e _).trans c3, (e _).trans c4⟩

set_option linter.unusedSimpArgs false in
set_option maxHeartbeats 40000000 in
theorem right_walk (C : Cfg) (A : Option Addr) (c : Nat) (l : List Md) (D : Cfg) (B : Option Addr) (d : Nat) (l' : List Md) (z : Int) (w : World) (hM : Ms w w.heap.size A l) (hl : l.length ≤ 9223372036854775807) (hk : C.key.length ≤ 9223372036854775807) (hM' : Ms w w.heap.size B l') (hl' : l'.length ≤ 9223372036854775807) (hk' : D.key.length ≤ 9223372036854775807) (hz : 0 ≤ z ∧ z ≤ 255) :
    Calls Try.prog 7 #[.agg (C.cells (.slice A l.length c)), .agg (D.cells (.slice B l'.length d)), .int .u8 z] w fun r w' => r = .returned (.bool true) ∧ Below w.heap.size w w' := by
  obtain ⟨n, hn⟩ : ∃ n, n = l.length := ⟨_, rfl⟩
  obtain ⟨m, hm⟩ : ∃ n, n = l'.length := ⟨_, rfl⟩
  rw [← hn] at hl ⊢
  rw [← hm] at hl' ⊢
  obtain ⟨w0, hw0⟩ : ∃ w0, w0 = (w.alloc (.cells (C.cells (.slice A n c)) 24)).alloc (.cells (D.cells (.slice B m d)) 24) := ⟨_, rfl⟩
  have hb0 : Below w.heap.size w w0 := by rw [hw0]; exact ((Below.refl _ _).alloc (Nat.le_refl _) _).alloc (by simp) _
  have hp0 : w0.heap[w.heap.size]? = some (.cells (C.cells (.slice A n c)) 24 (0, 0)) := by rw [hw0]; exact (Below.heap_alloc _ _ _ (by simp)).trans (heap_alloc_new w _)
  have hq0 : w0.heap[w.heap.size + 1]? = some (.cells (D.cells (.slice B m d)) 24 (0, 0)) := by
    have := heap_alloc_new (w.alloc (.cells (C.cells (.slice A n c)) 24)) (.cells (D.cells (.slice B m d)) 24)
    rw [World.size_alloc] at this
    rw [hw0]; exact this
  obtain ⟨P, hP⟩ : ∃ P, P = w.heap.size := ⟨_, rfl⟩
  obtain ⟨Q, hQ⟩ : ∃ Q, Q = P + 1 := ⟨_, rfl⟩
  have HB0 := Lib.hid hb0
  have HM : Hid (∀ W, Below w0.heap.size w0 W → Ms W W.heap.size A l) := fun W h => (((hM.below hb0).mono hb0.size).below h).mono h.size
  have HM' : Hid (∀ W, Below w0.heap.size w0 W → Ms W W.heap.size B l') := fun W h => (((hM'.below hb0).mono hb0.size).below h).mono h.size
  rw [← hP] at hp0 hq0
  rw [← hQ] at hq0
  have HCP : Hid (∀ W, Below w0.heap.size w0 W → W.cell? ⟨P, 0, none⟩ = some (sV C.key) ∧ W.cell? ⟨P, 1, none⟩ = some (.int .i64 C.n1) ∧ W.cell? ⟨P, 2, none⟩ = some (.int .i64 C.n2) ∧ W.cell? ⟨P, 3, none⟩ = some (.int .i64 C.n3) ∧ W.cell? ⟨P, 4, none⟩ = some (.int .i64 C.n4) ∧ W.cell? ⟨P, 5, none⟩ = some (.int .i64 C.t1) ∧ W.cell? ⟨P, 6, none⟩ = some (.int .i64 C.t2) ∧ W.cell? ⟨P, 7, none⟩ = some (.int .i64 C.t3) ∧ W.cell? ⟨P, 8, none⟩ = some (.int .i64 C.t4) ∧ W.cell? ⟨P, 9, none⟩ = some (.int .i64 C.t5) ∧ W.cell? ⟨P, 10, none⟩ = some (.int .i64 C.t6) ∧ W.cell? ⟨P, 11, none⟩ = some (.int .i64 C.rate) ∧ W.cell? ⟨P, 12, none⟩ = some (.int .i64 C.out) ∧ W.cell? ⟨P, 13, none⟩ = some (.slice A n c)) := fun W hW => by
    have e1 := (hW.block _ (lt_of_block hp0)).trans hp0
    exact ⟨cell_of_row W _ 0 _ _ _ e1, cell_of_row W _ 1 _ _ _ e1, cell_of_row W _ 2 _ _ _ e1, cell_of_row W _ 3 _ _ _ e1, cell_of_row W _ 4 _ _ _ e1, cell_of_row W _ 5 _ _ _ e1, cell_of_row W _ 6 _ _ _ e1, cell_of_row W _ 7 _ _ _ e1, cell_of_row W _ 8 _ _ _ e1, cell_of_row W _ 9 _ _ _ e1, cell_of_row W _ 10 _ _ _ e1, cell_of_row W _ 11 _ _ _ e1, cell_of_row W _ 12 _ _ _ e1, cell_of_row W _ 13 _ _ _ e1⟩
  have HCQ : Hid (∀ W, Below w0.heap.size w0 W → W.cell? ⟨Q, 0, none⟩ = some (sV D.key) ∧ W.cell? ⟨Q, 1, none⟩ = some (.int .i64 D.n1) ∧ W.cell? ⟨Q, 2, none⟩ = some (.int .i64 D.n2) ∧ W.cell? ⟨Q, 3, none⟩ = some (.int .i64 D.n3) ∧ W.cell? ⟨Q, 4, none⟩ = some (.int .i64 D.n4) ∧ W.cell? ⟨Q, 5, none⟩ = some (.int .i64 D.t1) ∧ W.cell? ⟨Q, 6, none⟩ = some (.int .i64 D.t2) ∧ W.cell? ⟨Q, 7, none⟩ = some (.int .i64 D.t3) ∧ W.cell? ⟨Q, 8, none⟩ = some (.int .i64 D.t4) ∧ W.cell? ⟨Q, 9, none⟩ = some (.int .i64 D.t5) ∧ W.cell? ⟨Q, 10, none⟩ = some (.int .i64 D.t6) ∧ W.cell? ⟨Q, 11, none⟩ = some (.int .i64 D.rate) ∧ W.cell? ⟨Q, 12, none⟩ = some (.int .i64 D.out) ∧ W.cell? ⟨Q, 13, none⟩ = some (.slice B m d)) := fun W hW => by
    have e2 := (hW.block _ (lt_of_block hq0)).trans hq0
    exact ⟨cell_of_row W _ 0 _ _ _ e2, cell_of_row W _ 1 _ _ _ e2, cell_of_row W _ 2 _ _ _ e2, cell_of_row W _ 3 _ _ _ e2, cell_of_row W _ 4 _ _ _ e2, cell_of_row W _ 5 _ _ _ e2, cell_of_row W _ 6 _ _ _ e2, cell_of_row W _ 7 _ _ _ e2, cell_of_row W _ 8 _ _ _ e2, cell_of_row W _ 9 _ _ _ e2, cell_of_row W _ 10 _ _ _ e2, cell_of_row W _ 11 _ _ _ e2, cell_of_row W _ 12 _ _ _ e2, cell_of_row W _ 13 _ _ _ e2⟩
  have H0 := Lib.hid hw0
  have HP := Lib.hid hP
  have HQ := Lib.hid hQ
  have HN := Lib.hid hn
  have HN' := Lib.hid hm
  have HBr : Hid (Below w0.heap.size w0 w0) := Below.refl _ _
  obtain ⟨x0, x1, x2, x3, x4, x5, x6, x7, x8, x9, x10, x11, x12, x13⟩ := HCP.out w0 HBr.out
  obtain ⟨y0, y1, y2, y3, y4, y5, y6, y7, y8, y9, y10, y11, y12, y13⟩ := HCQ.out w0 HBr.out
  clear hw0 hb0 hp0 hq0 hP hQ hM hM' hn hm
  by_cases h1 : 4 < n
  · have t : decide ((n : Int) > 4) = true := by rw [decide_eq_true_iff]; omega
    go_enter Try.func7, Try.ntmps7
    go_upto_region 1 with (fail)
    rw [← H0.out, ← HP.out, ← HQ.out]
    go_wp2
    go_ret
    exact ⟨rfl, HB0.out⟩
  have t1 : decide ((n : Int) > 4) = false := by rw [decide_eq_false_iff_not]; omega
  by_cases h2 : 4 < m
  · have t : decide ((m : Int) > 4) = true := by rw [decide_eq_true_iff]; omega
    go_enter Try.func7, Try.ntmps7
    go_upto_region 1 with (fail)
    rw [← H0.out, ← HP.out, ← HQ.out]
    go_wp2
    go_ret
    exact ⟨rfl, HB0.out⟩
  have t2 : decide ((m : Int) > 4) = false := by rw [decide_eq_false_iff_not]; omega
  by_cases h3 : 300 < C.key.length
  · have t : decide ((C.key.length : Int) > 300) = true := by rw [decide_eq_true_iff]; omega
    go_enter Try.func7, Try.ntmps7
    go_upto_region 1 with (fail)
    rw [← H0.out, ← HP.out, ← HQ.out]
    go_wp2
    go_ret
    exact ⟨rfl, HB0.out⟩
  have t3 : decide ((C.key.length : Int) > 300) = false := by rw [decide_eq_false_iff_not]; omega
  by_cases h4 : 300 < D.key.length
  · have t : decide ((D.key.length : Int) > 300) = true := by rw [decide_eq_true_iff]; omega
    go_enter Try.func7, Try.ntmps7
    go_upto_region 1 with (fail)
    rw [← H0.out, ← HP.out, ← HQ.out]
    go_wp2
    go_ret
    exact ⟨rfl, HB0.out⟩
  have t4 : decide ((D.key.length : Int) > 300) = false := by rw [decide_eq_false_iff_not]; omega
  have hn1000 : n ≤ 1000 := by omega
  have hm1000 : m ≤ 1000 := by omega
  obtain ⟨rs, hrs⟩ : ∃ rs, rs = wrongC C l := ⟨_, rfl⟩
  obtain ⟨rt, hrt⟩ : ∃ rs, rs = wrongC D l' := ⟨_, rfl⟩
  have HC1 : Hid (∀ W, Ms W W.heap.size A l → Calls Try.prog 14 #[.agg (C.cells (.slice A n c))] W fun r w' => r = .returned (sV rs) ∧ Below W.heap.size W w') := fun W h => by rw [hrs]; exact rcwrong_any C A n c l W HN.out h hn1000
  have HC2 : Hid (∀ W, Ms W W.heap.size B l' → Calls Try.prog 14 #[.agg (D.cells (.slice B m d))] W fun r w' => r = .returned (sV rt) ∧ Below W.heap.size W w') := fun W h => by rw [hrt]; exact rcwrong_any D B m d l' W HN'.out h hm1000
  have HC3 : Hid (∀ W, Ms W W.heap.size A l → Calls Try.prog 12 #[.agg (C.cells (.slice A n c))] W fun r w' => ∃ B c', r = .returned (.agg (C.cells (.slice B n c'))) ∧ Ms w' w'.heap.size B l ∧ Below W.heap.size W w' ∧ ∀ ad, B = some ad → W.heap.size ≤ ad.block) := fun W h => config_new C A n c l W HN.out h hn1000
  have HC4 : Hid (∀ W, Ms W W.heap.size B l' → Calls Try.prog 12 #[.agg (D.cells (.slice B m d))] W fun r w' => ∃ B c', r = .returned (.agg (D.cells (.slice B m c'))) ∧ Ms w' w'.heap.size B l' ∧ Below W.heap.size W w' ∧ ∀ ad, B = some ad → W.heap.size ≤ ad.block) := fun W h => config_new D B m d l' W HN'.out h hm1000
  have HRS := Lib.hid hrs
  have HRT := Lib.hid hrt
  clear hrs hrt hn1000 hm1000
  by_cases he : rs.isEmpty = true
  case neg =>
    have hef : rs.isEmpty = false := by simpa using he
    go_enter Try.func7, Try.ntmps7
    go_upto_region 1 with (fail)
    rw [← H0.out, ← HP.out, ← HQ.out]
    go_wp2_with fail
    refine (HC1.out w0 (HM.out _ HBr.out)).mono ?_
    rintro r w1 ⟨rfl, hb1⟩
    go_wp2
    go_ret
    exact ⟨rfl, HB0.out.trans (hb1.mono HB0.out.size)⟩
  by_cases he' : rt.isEmpty = true
  case neg =>
    have hef : rt.isEmpty = false := by simpa using he'
    go_enter Try.func7, Try.ntmps7
    go_upto_region 1 with (fail)
    rw [← H0.out, ← HP.out, ← HQ.out]
    go_wp2_with fail
    refine (HC1.out w0 (HM.out _ HBr.out)).mono ?_
    rintro r w1 ⟨rfl, hb1⟩
    have HB1 := Lib.hid hb1
    clear x0 x1 x2 x3 x4 x5 x6 x7 x8 x9 x10 x11 x12 x13 y0 y1 y2 y3 y4 y5 y6 y7 y8 y9 y10 y11 y12 y13 hb1
    obtain ⟨y0, y1, y2, y3, y4, y5, y6, y7, y8, y9, y10, y11, y12, y13⟩ := HCQ.out w1 HB1.out
    go_wp2_with fail
    refine (HC2.out w1 (HM'.out _ HB1.out)).mono ?_
    rintro r w2 ⟨rfl, hb2⟩
    go_wp2
    go_ret
    exact ⟨rfl, HB0.out.trans ((HB1.out.trans (hb2.mono HB1.out.size)).mono HB0.out.size)⟩
  have hR := (wrongC_nil C l).1 (by rw [← HRS.out]; exact List.isEmpty_iff.1 he)
  have hR' := (wrongC_nil D l').1 (by rw [← HRT.out]; exact List.isEmpty_iff.1 he')
  have HR := Lib.hid hR
  have HR' := Lib.hid hR'
  clear hR hR'
  go_enter Try.func7, Try.ntmps7
  go_upto_region 1 with (fail)
  rw [← H0.out, ← HP.out, ← HQ.out]
  generalize Value.agg (C.cells (Value.slice A n c)) = cv
  generalize Value.agg (D.cells (Value.slice B m d)) = dv
  go_wp2_with fail
  refine (HC1.out w0 (HM.out _ HBr.out)).mono ?_
  rintro r w1 ⟨rfl, hb1⟩
  have HB1 := Lib.hid hb1
  clear x0 x1 x2 x3 x4 x5 x6 x7 x8 x9 x10 x11 x12 x13 y0 y1 y2 y3 y4 y5 y6 y7 y8 y9 y10 y11 y12 y13 hb1
  obtain ⟨y0, y1, y2, y3, y4, y5, y6, y7, y8, y9, y10, y11, y12, y13⟩ := HCQ.out w1 HB1.out
  go_wp2_with fail
  refine (HC2.out w1 (HM'.out _ HB1.out)).mono ?_
  rintro r w2 ⟨rfl, hb2⟩
  have HB2 := Lib.hid (HB1.out.trans (hb2.mono HB1.out.size))
  clear y0 y1 y2 y3 y4 y5 y6 y7 y8 y9 y10 y11 y12 y13 hb2
  obtain ⟨x0, x1, x2, x3, x4, x5, x6, x7, x8, x9, x10, x11, x12, x13⟩ := HCP.out w2 HB2.out
  go_wp2_with fail
  refine (HC3.out w2 (HM.out _ HB2.out)).mono ?_
  rintro r w3 ⟨B1, c1, rfl, hMa, hb3, hfa⟩
  obtain ⟨w4, hw4⟩ : ∃ w4, w4 = w3.alloc (.cells (C.cells (.slice B1 n c1)) 31) := ⟨_, rfl⟩
  have hb4 : Below w3.heap.size w3 w4 := by rw [hw4]; exact (Below.refl _ _).alloc (Nat.le_refl _) _
  have hX4 : w4.heap[w3.heap.size]? = some (.cells (C.cells (.slice B1 n c1)) 31 (0, 0)) := by rw [hw4]; exact heap_alloc_new w3 _
  obtain ⟨X, hX⟩ : ∃ X, X = w3.heap.size := ⟨_, rfl⟩
  rw [← hX] at hX4
  have HMa : Hid (Ms w4 X B1 l) := by rw [hX]; exact hMa.below hb4
  have HB4 : Hid (Below w0.heap.size w0 w4) := (HB2.out.trans (hb3.mono HB2.out.size)).trans (hb4.mono (HB2.out.trans (hb3.mono HB2.out.size)).size)
  have H4 := Lib.hid hw4
  have HX := Lib.hid hX
  have HX4 := Lib.hid hX4
  have HXL : Hid (w0.heap.size ≤ X) := by rw [hX]; exact (HB2.out.trans (hb3.mono HB2.out.size)).size
  clear hMa hb3 hfa hw4 hb4 hX4 hX x0 x1 x2 x3 x4 x5 x6 x7 x8 x9 x10 x11 x12 x13
  go_upto_region 6 with (fail)
  rw [← H4.out, ← HX.out]
  obtain ⟨y0, y1, y2, y3, y4, y5, y6, y7, y8, y9, y10, y11, y12, y13⟩ := HCQ.out w4 HB4.out
  go_wp2_with fail
  refine (HC4.out w4 (HM'.out _ HB4.out)).mono ?_
  rintro r w5 ⟨B2, c2, rfl, hMb, hb5, hfb⟩
  obtain ⟨w6, hw6⟩ : ∃ w6, w6 = w5.alloc (.cells (D.cells (.slice B2 m c2)) 31) := ⟨_, rfl⟩
  have hb6 : Below w5.heap.size w5 w6 := by rw [hw6]; exact (Below.refl _ _).alloc (Nat.le_refl _) _
  have hY6 : w6.heap[w5.heap.size]? = some (.cells (D.cells (.slice B2 m c2)) 31 (0, 0)) := by rw [hw6]; exact heap_alloc_new w5 _
  have hb46 : Below w4.heap.size w4 w6 := hb5.trans (hb6.mono hb5.size)
  have HX6 : Hid (w6.heap[X]? = some (.cells (C.cells (.slice B1 n c1)) 31 (0, 0))) := (hb46.block _ (lt_of_block HX4.out)).trans HX4.out
  obtain ⟨Y, hY⟩ : ∃ Y, Y = w5.heap.size := ⟨_, rfl⟩
  rw [← hY] at hY6
  have HY6 := Lib.hid hY6
  have HMa6 : Hid (Ms w6 X B1 l) := HMa.out.below (hb46.mono (Nat.le_of_lt (lt_of_block HX4.out)))
  have HMb6 : Hid (Ms w6 Y B2 l') := by rw [hY]; exact hMb.below hb6
  have HXY : Hid (X < Y) := by rw [hY]; exact Nat.lt_of_lt_of_le (lt_of_block HX4.out) hb5.size
  have HNB : Hid (∀ ad, B2 = some ad → X < ad.block) := fun ad h => Nat.lt_of_lt_of_le (lt_of_block HX4.out) (hfb ad h)
  have HB6 : Hid (Below w0.heap.size w0 w6) := HB4.out.trans (hb46.mono HB4.out.size)
  have H6 := Lib.hid hw6
  have HY := Lib.hid hY
  have HBF : Hid (Below w.heap.size w w6) := HB0.out.trans (HB6.out.mono HB0.out.size)
  have HXW : Hid (w.heap.size ≤ X) := Nat.le_trans HB0.out.size HXL.out
  clear hw6 hb6 hY6 hb46 hY hMb hb5 hfb y0 y1 y2 y3 y4 y5 y6 y7 y8 y9 y10 y11 y12 y13 HX4 HMa H4 HX
  go_upto_region 7 with (fail)
  rw [← H6.out, ← HY.out]
  clear HB0 HB1 HB2 HB4 HB6 HC1 HC2 HC3 HC4 HCP HCQ HM HM' HBr HRS HRT HP HQ
  go_upto_region 10 with (fail)
  obtain ⟨q, hq⟩ : ∃ q, q = z % 7 := ⟨_, rfl⟩
  have hq0 : 0 ≤ q ∧ q < 7 := by omega
  rw [← hq]
  clear hq
  rcases (show q = 0 ∨ q = 1 ∨ q = 2 ∨ q = 3 ∨ q = 4 ∨ q = 5 ∨ q = 6 by omega) with rfl | rfl | rfl | rfl | rfl | rfl | rfl
  · obtain ⟨⟨a0, a1, a2, a3, a4, a5, a6, a7, a8, a9, a10, a11, a12, a13⟩, am⟩ := HR.out
    obtain ⟨⟨e0, e1, e2, e3, e4, e5, e6, e7, e8, e9, e10, e11, e12, e13⟩, em⟩ := HR'.out
    go_upto_region 11 with (fail)
    have HSY : Hid ((fun W : World => W.cell? ⟨Y, 0, none⟩ = some (sV D.key) ∧ W.cell? ⟨Y, 1, none⟩ = some (.int .i64 D.n1)) w6.drew) := ⟨cell_of_row w6.drew _ 0 _ _ _ HY6.out, cell_of_row w6.drew _ 1 _ _ _ HY6.out⟩
    refine wp_region_held_drew (S := fun W : World => W.cell? ⟨Y, 0, none⟩ = some (sV D.key) ∧ W.cell? ⟨Y, 1, none⟩ = some (.int .i64 D.n1)) (by kernel_rfl) HSY.out (fun hHeld => ?_)
    obtain ⟨W6, hW6⟩ : ∃ W6, W6 = w6.drew := ⟨_, rfl⟩
    have hp6 : W6.heap = w6.heap := by rw [hW6]; rfl
    rw [← hW6] at hHeld HSY ⊢
    have HXB : Hid (W6.heap[X]? = some (.cells (C.cells (.slice B1 n c1)) 31 (0, 0))) := by rw [Hid, hp6]; exact HX6.out
    have HBW : Hid (Below w.heap.size w W6) := by rw [hW6]; exact HBF.out.drew
    have HMa6 : Hid (Ms W6 X B1 l) := by rw [hW6]; exact HMa6.out.below (Below.refl _ _).drew
    have HMb6 : Hid (Ms W6 Y B2 l') := by rw [hW6]; exact HMb6.out.below (Below.refl _ _).drew
    have HXS : Hid (X ≤ W6.heap.size) := by rw [Hid, hp6]; exact Nat.le_of_lt (lt_of_block HX6.out)
    have HYS : Hid (Y ≤ W6.heap.size) := by rw [Hid, hp6]; exact Nat.le_of_lt (lt_of_block HY6.out)
    clear hW6 hp6
    have f0 : ∀ i, W6.frozen? ⟨X, i, none⟩ = false := fun i => frozen_of_row W6 _ i _ _ HXB.out
    have k0 := cell_of_row W6 X 0 _ _ _ HXB.out
    have k1 := cell_of_row W6 X 1 _ _ _ HXB.out
    simp at k0 k1
    refine wpAnyH_take (i := 0) (oi := ?oi0a) (v := ?v0a) ?hi0a ?hs0a ?hf0a ?hr0a ?hQ0a ?hy0a ?hS0a ?h0a
    case hi0a => exact (by simp only [List.getElem?_toArray, List.getElem?_cons_zero]; rfl)
    case hs0a => kernel_rfl
    case hf0a => kernel_rfl
    case hr0a => kernel_rfl
    case hQ0a => exact fun _ _ _ h => h
    case hy0a =>
      refine Or.inl ⟨rfl, ?_⟩
      intro W hSw
      obtain ⟨s0, s1⟩ := hSw
      go_simp
      try with_reducible rfl
    case hS0a => assumption
    try simp only [Act.put, List.setIfInBounds_toArray, List.set_cons_zero, List.set_cons_succ]
    refine wpAnyH_take (i := 1) (oi := ?oi1a) (v := ?v1a) ?hi1a ?hs1a ?hf1a ?hr1a ?hQ1a ?hy1a ?hS1a ?h1a
    case hi1a => exact (by simp only [List.getElem?_toArray, List.getElem?_cons_succ, List.getElem?_cons_zero]; rfl)
    case hs1a => kernel_rfl
    case hf1a => kernel_rfl
    case hr1a => kernel_rfl
    case hQ1a => exact fun _ _ _ h => h
    case hy1a =>
      refine Or.inl ⟨rfl, ?_⟩
      intro W hSw
      obtain ⟨s0, s1⟩ := hSw
      go_simp
      try with_reducible rfl
    case hS1a => assumption
    try simp only [Act.put, List.setIfInBounds_toArray, List.set_cons_zero, List.set_cons_succ]
    refine wpAnyH_take (i := 2) (oi := ?oi2a) (v := ?v2a) ?hi2a ?hs2a ?hf2a ?hr2a ?hQ2a ?hy2a ?hS2a ?h2a
    case hi2a => exact (by simp only [List.getElem?_toArray, List.getElem?_cons_succ, List.getElem?_cons_zero]; rfl)
    case hs2a => kernel_rfl
    case hf2a => kernel_rfl
    case hr2a => kernel_rfl
    case hQ2a => exact fun _ _ _ h => h
    case hy2a =>
      refine Or.inl ⟨rfl, ?_⟩
      intro W hSw
      obtain ⟨s0, s1⟩ := hSw
      go_simp
      try with_reducible rfl
    case hS2a => assumption
    try simp only [Act.put, List.setIfInBounds_toArray, List.set_cons_zero, List.set_cons_succ]
    refine wpAnyH_take (i := 3) (oi := ?oi3a) (v := ?v3a) ?hi3a ?hs3a ?hf3a ?hr3a ?hQ3a ?hy3a ?hS3a ?h3a
    case hi3a => exact (by simp only [List.getElem?_toArray, List.getElem?_cons_succ, List.getElem?_cons_zero]; rfl)
    case hs3a => kernel_rfl
    case hf3a => kernel_rfl
    case hr3a => kernel_rfl
    case hQ3a => exact fun _ _ _ h => h
    case hy3a =>
      refine Or.inl ⟨rfl, ?_⟩
      intro W hSw
      obtain ⟨s0, s1⟩ := hSw
      go_simp
      try with_reducible rfl
    case hS3a => assumption
    try simp only [Act.put, List.setIfInBounds_toArray, List.set_cons_zero, List.set_cons_succ]
    refine wpAnyH_take (i := 4) (oi := ?oi4a) (v := ?v4a) ?hi4a ?hs4a ?hf4a ?hr4a ?hQ4a ?hy4a ?hS4a ?h4a
    case hi4a => exact (by simp only [List.getElem?_toArray, List.getElem?_cons_succ, List.getElem?_cons_zero]; rfl)
    case hs4a => kernel_rfl
    case hf4a => kernel_rfl
    case hr4a => kernel_rfl
    case hQ4a => exact fun _ _ _ h => h
    case hy4a =>
      refine Or.inl ⟨rfl, ?_⟩
      intro W hSw
      obtain ⟨s0, s1⟩ := hSw
      go_simp
      try with_reducible rfl
    case hS4a => assumption
    try simp only [Act.put, List.setIfInBounds_toArray, List.set_cons_zero, List.set_cons_succ]
    refine wpAnyH_ready (rs := [5]) (by kernel_rfl) (by simp) ?_
    refine AllReadyH.cons (o := _) rfl (fun K hK => ?_) AllReadyH.nil
    go_simp
    refine hK.out _ _ ⟨?_, ?_⟩ (fun hHeld => ?_)
    · exact (World.cell?_of_block (Below.heap_setCell _ _ _ _ (by have := HXY.out; show Y ≠ X; omega))).trans HSY.out.1
    · exact (World.cell?_of_block (Below.heap_setCell _ _ _ _ (by have := HXY.out; show Y ≠ X; omega))).trans HSY.out.2
    clear hK K
    try simp only [Act.put, List.setIfInBounds_toArray, List.set_cons_zero, List.set_cons_succ]
    refine wpAnyH_take (i := 6) (oi := ?oi6a) (v := ?v6a) ?hi6a ?hs6a ?hf6a ?hr6a ?hQ6a ?hy6a ?hS6a ?h6a
    case hi6a => exact (by simp only [List.getElem?_toArray, List.getElem?_cons_succ, List.getElem?_cons_zero]; rfl)
    case hs6a => kernel_rfl
    case hf6a => kernel_rfl
    case hr6a => kernel_rfl
    case hQ6a => exact fun _ _ _ h => h
    case hy6a =>
      refine Or.inl ⟨rfl, ?_⟩
      intro W hSw
      obtain ⟨s0, s1⟩ := hSw
      go_simp
      try with_reducible rfl
    case hS6a => assumption
    try simp only [Act.put, List.setIfInBounds_toArray, List.set_cons_zero, List.set_cons_succ]
    refine wpAnyH_ready (rs := [7]) (by kernel_rfl) (by simp) ?_
    refine AllReadyH.cons (o := _) rfl (fun K hK => ?_) AllReadyH.nil
    go_simp
    refine hK.out _ _ ⟨?_, ?_⟩ (fun hHeld => ?_)
    · exact (World.cell?_of_block ((Below.heap_setCell _ _ _ _ (by have := HXY.out; show Y ≠ X; omega)).trans (Below.heap_setCell _ _ _ _ (by have := HXY.out; show Y ≠ X; omega)))).trans HSY.out.1
    · exact (World.cell?_of_block ((Below.heap_setCell _ _ _ _ (by have := HXY.out; show Y ≠ X; omega)).trans (Below.heap_setCell _ _ _ _ (by have := HXY.out; show Y ≠ X; omega)))).trans HSY.out.2
    clear hK K
    try simp only [Act.put, List.setIfInBounds_toArray, List.set_cons_zero, List.set_cons_succ]
    refine wpAnyH_done (by kernel_rfl) ?_ _
    clear f0 k0 k1
    have hx7 := HXB.out
    have hbw := HBW.out
    have hx7 := heap_setCell_same _ X 0 _ 31 (sV D.key) hx7
    have hbw := hbw.setCell (p := ⟨X, 0, none⟩) HXW.out (sV D.key)
    have hx7 := heap_setCell_same _ X 1 _ 31 (.int .i64 D.n1) hx7
    have hbw := hbw.setCell (p := ⟨X, 1, none⟩) HXW.out (.int .i64 D.n1)
    obtain ⟨w7, hw7⟩ : ∃ w7, w7 = ((W6.setCell ⟨X, 0, none⟩ (sV D.key)).setCell ⟨X, 1, none⟩ (.int .i64 D.n1)) := ⟨_, rfl⟩
    have HX7 : Hid (w7.heap[X]? = some (.cells (Cfg.cells { C with key := D.key, n1 := D.n1 } (.slice B1 n c1)) 31 (0, 0))) := by rw [hw7]; exact hx7
    have HB7 : Hid (Below w.heap.size w w7) := by rw [hw7]; exact hbw
    have HK7 : Hid (∀ g, g ≠ X → w7.heap[g]? = W6.heap[g]?) := fun g hg => by
      rw [hw7]
      exact (Below.heap_setCell _ _ _ _ hg).trans ((Below.heap_setCell _ _ _ _ hg).trans (rfl))
    have hsz : w7.heap.size = W6.heap.size := by rw [hw7]; simp only [World.size_setCell]
    have HMF : Hid (Ms w7 w7.heap.size B1 l) := by rw [hsz]; exact Ms.kept_ne HMa6.out HXS.out HK7.out (Nat.le_refl X)
    have HCW : Hid (Calls Try.prog 13 #[.agg (Cfg.cells { C with key := D.key, n1 := D.n1 } (.slice B1 n c1))] w7 fun r w' => r = .returned (.string ⟨#[]⟩) ∧ Below w7.heap.size w7 w') := by
      have h := cwrong_any { C with key := D.key, n1 := D.n1 } B1 n c1 l w7 HN.out HMF.out (by omega)
      rw [(wrongC_nil { C with key := D.key, n1 := D.n1 } l).2 ⟨⟨e0, e1, a2, a3, a4, a5, a6, a7, a8, a9, a10, a11, a12, a13⟩, am⟩] at h
      exact h
    obtain ⟨x0, x1, x2, x3, x4, x5, x6, x7, x8, x9, x10, x11, x12, x13⟩ : w7.cell? ⟨X, 0, none⟩ = some (sV D.key) ∧ w7.cell? ⟨X, 1, none⟩ = some (.int .i64 D.n1) ∧ w7.cell? ⟨X, 2, none⟩ = some (.int .i64 C.n2) ∧ w7.cell? ⟨X, 3, none⟩ = some (.int .i64 C.n3) ∧ w7.cell? ⟨X, 4, none⟩ = some (.int .i64 C.n4) ∧ w7.cell? ⟨X, 5, none⟩ = some (.int .i64 C.t1) ∧ w7.cell? ⟨X, 6, none⟩ = some (.int .i64 C.t2) ∧ w7.cell? ⟨X, 7, none⟩ = some (.int .i64 C.t3) ∧ w7.cell? ⟨X, 8, none⟩ = some (.int .i64 C.t4) ∧ w7.cell? ⟨X, 9, none⟩ = some (.int .i64 C.t5) ∧ w7.cell? ⟨X, 10, none⟩ = some (.int .i64 C.t6) ∧ w7.cell? ⟨X, 11, none⟩ = some (.int .i64 C.rate) ∧ w7.cell? ⟨X, 12, none⟩ = some (.int .i64 C.out) ∧ w7.cell? ⟨X, 13, none⟩ = some (.slice B1 n c1) := ⟨cell_of_row w7 _ 0 _ _ _ HX7.out, cell_of_row w7 _ 1 _ _ _ HX7.out, cell_of_row w7 _ 2 _ _ _ HX7.out, cell_of_row w7 _ 3 _ _ _ HX7.out, cell_of_row w7 _ 4 _ _ _ HX7.out, cell_of_row w7 _ 5 _ _ _ HX7.out, cell_of_row w7 _ 6 _ _ _ HX7.out, cell_of_row w7 _ 7 _ _ _ HX7.out, cell_of_row w7 _ 8 _ _ _ HX7.out, cell_of_row w7 _ 9 _ _ _ HX7.out, cell_of_row w7 _ 10 _ _ _ HX7.out, cell_of_row w7 _ 11 _ _ _ HX7.out, cell_of_row w7 _ 12 _ _ _ HX7.out, cell_of_row w7 _ 13 _ _ _ HX7.out⟩
    have H7 := Lib.hid hw7
    clear hw7 hx7 hbw hsz
    go_upto_region 23 with (fail)
    rw [← H7.out]
    go_wp2_with fail
    refine HCW.out.mono ?_
    rintro r w8 ⟨rfl, hb8⟩
    go_wp2_with fail
    refine (pawake w8).mono ?_
    rintro r w9 ⟨rfl, hb9⟩
    go_wp2
    go_ret
    exact ⟨rfl, HB7.out.trans ((hb8.trans (hb9.mono hb8.size)).mono HB7.out.size)⟩
  · obtain ⟨⟨a0, a1, a2, a3, a4, a5, a6, a7, a8, a9, a10, a11, a12, a13⟩, am⟩ := HR.out
    obtain ⟨⟨e0, e1, e2, e3, e4, e5, e6, e7, e8, e9, e10, e11, e12, e13⟩, em⟩ := HR'.out
    go_upto_region 13 with (fail)
    have HSY : Hid ((fun W : World => W.cell? ⟨Y, 2, none⟩ = some (.int .i64 D.n2) ∧ W.cell? ⟨Y, 3, none⟩ = some (.int .i64 D.n3)) w6.drew) := ⟨cell_of_row w6.drew _ 2 _ _ _ HY6.out, cell_of_row w6.drew _ 3 _ _ _ HY6.out⟩
    refine wp_region_held_drew (S := fun W : World => W.cell? ⟨Y, 2, none⟩ = some (.int .i64 D.n2) ∧ W.cell? ⟨Y, 3, none⟩ = some (.int .i64 D.n3)) (by kernel_rfl) HSY.out (fun hHeld => ?_)
    obtain ⟨W6, hW6⟩ : ∃ W6, W6 = w6.drew := ⟨_, rfl⟩
    have hp6 : W6.heap = w6.heap := by rw [hW6]; rfl
    rw [← hW6] at hHeld HSY ⊢
    have HXB : Hid (W6.heap[X]? = some (.cells (C.cells (.slice B1 n c1)) 31 (0, 0))) := by rw [Hid, hp6]; exact HX6.out
    have HBW : Hid (Below w.heap.size w W6) := by rw [hW6]; exact HBF.out.drew
    have HMa6 : Hid (Ms W6 X B1 l) := by rw [hW6]; exact HMa6.out.below (Below.refl _ _).drew
    have HMb6 : Hid (Ms W6 Y B2 l') := by rw [hW6]; exact HMb6.out.below (Below.refl _ _).drew
    have HXS : Hid (X ≤ W6.heap.size) := by rw [Hid, hp6]; exact Nat.le_of_lt (lt_of_block HX6.out)
    have HYS : Hid (Y ≤ W6.heap.size) := by rw [Hid, hp6]; exact Nat.le_of_lt (lt_of_block HY6.out)
    clear hW6 hp6
    have f0 : ∀ i, W6.frozen? ⟨X, i, none⟩ = false := fun i => frozen_of_row W6 _ i _ _ HXB.out
    have k0 := cell_of_row W6 X 2 _ _ _ HXB.out
    have k1 := cell_of_row W6 X 3 _ _ _ HXB.out
    simp at k0 k1
    refine wpAnyH_take (i := 0) (oi := ?oi0b) (v := ?v0b) ?hi0b ?hs0b ?hf0b ?hr0b ?hQ0b ?hy0b ?hS0b ?h0b
    case hi0b => exact (by simp only [List.getElem?_toArray, List.getElem?_cons_zero]; rfl)
    case hs0b => kernel_rfl
    case hf0b => kernel_rfl
    case hr0b => kernel_rfl
    case hQ0b => exact fun _ _ _ h => h
    case hy0b =>
      refine Or.inl ⟨rfl, ?_⟩
      intro W hSw
      obtain ⟨s0, s1⟩ := hSw
      go_simp
      try with_reducible rfl
    case hS0b => assumption
    try simp only [Act.put, List.setIfInBounds_toArray, List.set_cons_zero, List.set_cons_succ]
    refine wpAnyH_take (i := 1) (oi := ?oi1b) (v := ?v1b) ?hi1b ?hs1b ?hf1b ?hr1b ?hQ1b ?hy1b ?hS1b ?h1b
    case hi1b => exact (by simp only [List.getElem?_toArray, List.getElem?_cons_succ, List.getElem?_cons_zero]; rfl)
    case hs1b => kernel_rfl
    case hf1b => kernel_rfl
    case hr1b => kernel_rfl
    case hQ1b => exact fun _ _ _ h => h
    case hy1b =>
      refine Or.inl ⟨rfl, ?_⟩
      intro W hSw
      obtain ⟨s0, s1⟩ := hSw
      go_simp
      try with_reducible rfl
    case hS1b => assumption
    try simp only [Act.put, List.setIfInBounds_toArray, List.set_cons_zero, List.set_cons_succ]
    refine wpAnyH_take (i := 2) (oi := ?oi2b) (v := ?v2b) ?hi2b ?hs2b ?hf2b ?hr2b ?hQ2b ?hy2b ?hS2b ?h2b
    case hi2b => exact (by simp only [List.getElem?_toArray, List.getElem?_cons_succ, List.getElem?_cons_zero]; rfl)
    case hs2b => kernel_rfl
    case hf2b => kernel_rfl
    case hr2b => kernel_rfl
    case hQ2b => exact fun _ _ _ h => h
    case hy2b =>
      refine Or.inl ⟨rfl, ?_⟩
      intro W hSw
      obtain ⟨s0, s1⟩ := hSw
      go_simp
      try with_reducible rfl
    case hS2b => assumption
    try simp only [Act.put, List.setIfInBounds_toArray, List.set_cons_zero, List.set_cons_succ]
    refine wpAnyH_take (i := 3) (oi := ?oi3b) (v := ?v3b) ?hi3b ?hs3b ?hf3b ?hr3b ?hQ3b ?hy3b ?hS3b ?h3b
    case hi3b => exact (by simp only [List.getElem?_toArray, List.getElem?_cons_succ, List.getElem?_cons_zero]; rfl)
    case hs3b => kernel_rfl
    case hf3b => kernel_rfl
    case hr3b => kernel_rfl
    case hQ3b => exact fun _ _ _ h => h
    case hy3b =>
      refine Or.inl ⟨rfl, ?_⟩
      intro W hSw
      obtain ⟨s0, s1⟩ := hSw
      go_simp
      try with_reducible rfl
    case hS3b => assumption
    try simp only [Act.put, List.setIfInBounds_toArray, List.set_cons_zero, List.set_cons_succ]
    refine wpAnyH_take (i := 4) (oi := ?oi4b) (v := ?v4b) ?hi4b ?hs4b ?hf4b ?hr4b ?hQ4b ?hy4b ?hS4b ?h4b
    case hi4b => exact (by simp only [List.getElem?_toArray, List.getElem?_cons_succ, List.getElem?_cons_zero]; rfl)
    case hs4b => kernel_rfl
    case hf4b => kernel_rfl
    case hr4b => kernel_rfl
    case hQ4b => exact fun _ _ _ h => h
    case hy4b =>
      refine Or.inl ⟨rfl, ?_⟩
      intro W hSw
      obtain ⟨s0, s1⟩ := hSw
      go_simp
      try with_reducible rfl
    case hS4b => assumption
    try simp only [Act.put, List.setIfInBounds_toArray, List.set_cons_zero, List.set_cons_succ]
    refine wpAnyH_ready (rs := [5]) (by kernel_rfl) (by simp) ?_
    refine AllReadyH.cons (o := _) rfl (fun K hK => ?_) AllReadyH.nil
    go_simp
    refine hK.out _ _ ⟨?_, ?_⟩ (fun hHeld => ?_)
    · exact (World.cell?_of_block (Below.heap_setCell _ _ _ _ (by have := HXY.out; show Y ≠ X; omega))).trans HSY.out.1
    · exact (World.cell?_of_block (Below.heap_setCell _ _ _ _ (by have := HXY.out; show Y ≠ X; omega))).trans HSY.out.2
    clear hK K
    try simp only [Act.put, List.setIfInBounds_toArray, List.set_cons_zero, List.set_cons_succ]
    refine wpAnyH_take (i := 6) (oi := ?oi6b) (v := ?v6b) ?hi6b ?hs6b ?hf6b ?hr6b ?hQ6b ?hy6b ?hS6b ?h6b
    case hi6b => exact (by simp only [List.getElem?_toArray, List.getElem?_cons_succ, List.getElem?_cons_zero]; rfl)
    case hs6b => kernel_rfl
    case hf6b => kernel_rfl
    case hr6b => kernel_rfl
    case hQ6b => exact fun _ _ _ h => h
    case hy6b =>
      refine Or.inl ⟨rfl, ?_⟩
      intro W hSw
      obtain ⟨s0, s1⟩ := hSw
      go_simp
      try with_reducible rfl
    case hS6b => assumption
    try simp only [Act.put, List.setIfInBounds_toArray, List.set_cons_zero, List.set_cons_succ]
    refine wpAnyH_ready (rs := [7]) (by kernel_rfl) (by simp) ?_
    refine AllReadyH.cons (o := _) rfl (fun K hK => ?_) AllReadyH.nil
    go_simp
    refine hK.out _ _ ⟨?_, ?_⟩ (fun hHeld => ?_)
    · exact (World.cell?_of_block ((Below.heap_setCell _ _ _ _ (by have := HXY.out; show Y ≠ X; omega)).trans (Below.heap_setCell _ _ _ _ (by have := HXY.out; show Y ≠ X; omega)))).trans HSY.out.1
    · exact (World.cell?_of_block ((Below.heap_setCell _ _ _ _ (by have := HXY.out; show Y ≠ X; omega)).trans (Below.heap_setCell _ _ _ _ (by have := HXY.out; show Y ≠ X; omega)))).trans HSY.out.2
    clear hK K
    try simp only [Act.put, List.setIfInBounds_toArray, List.set_cons_zero, List.set_cons_succ]
    refine wpAnyH_done (by kernel_rfl) ?_ _
    clear f0 k0 k1
    have hx7 := HXB.out
    have hbw := HBW.out
    have hx7 := heap_setCell_same _ X 2 _ 31 (.int .i64 D.n2) hx7
    have hbw := hbw.setCell (p := ⟨X, 2, none⟩) HXW.out (.int .i64 D.n2)
    have hx7 := heap_setCell_same _ X 3 _ 31 (.int .i64 D.n3) hx7
    have hbw := hbw.setCell (p := ⟨X, 3, none⟩) HXW.out (.int .i64 D.n3)
    obtain ⟨w7, hw7⟩ : ∃ w7, w7 = ((W6.setCell ⟨X, 2, none⟩ (.int .i64 D.n2)).setCell ⟨X, 3, none⟩ (.int .i64 D.n3)) := ⟨_, rfl⟩
    have HX7 : Hid (w7.heap[X]? = some (.cells (Cfg.cells { C with n2 := D.n2, n3 := D.n3 } (.slice B1 n c1)) 31 (0, 0))) := by rw [hw7]; exact hx7
    have HB7 : Hid (Below w.heap.size w w7) := by rw [hw7]; exact hbw
    have HK7 : Hid (∀ g, g ≠ X → w7.heap[g]? = W6.heap[g]?) := fun g hg => by
      rw [hw7]
      exact (Below.heap_setCell _ _ _ _ hg).trans ((Below.heap_setCell _ _ _ _ hg).trans (rfl))
    have hsz : w7.heap.size = W6.heap.size := by rw [hw7]; simp only [World.size_setCell]
    have HMF : Hid (Ms w7 w7.heap.size B1 l) := by rw [hsz]; exact Ms.kept_ne HMa6.out HXS.out HK7.out (Nat.le_refl X)
    have HCW : Hid (Calls Try.prog 13 #[.agg (Cfg.cells { C with n2 := D.n2, n3 := D.n3 } (.slice B1 n c1))] w7 fun r w' => r = .returned (.string ⟨#[]⟩) ∧ Below w7.heap.size w7 w') := by
      have h := cwrong_any { C with n2 := D.n2, n3 := D.n3 } B1 n c1 l w7 HN.out HMF.out (by omega)
      rw [(wrongC_nil { C with n2 := D.n2, n3 := D.n3 } l).2 ⟨⟨a0, a1, e2, e3, a4, a5, a6, a7, a8, a9, a10, a11, a12, a13⟩, am⟩] at h
      exact h
    obtain ⟨x0, x1, x2, x3, x4, x5, x6, x7, x8, x9, x10, x11, x12, x13⟩ : w7.cell? ⟨X, 0, none⟩ = some (sV C.key) ∧ w7.cell? ⟨X, 1, none⟩ = some (.int .i64 C.n1) ∧ w7.cell? ⟨X, 2, none⟩ = some (.int .i64 D.n2) ∧ w7.cell? ⟨X, 3, none⟩ = some (.int .i64 D.n3) ∧ w7.cell? ⟨X, 4, none⟩ = some (.int .i64 C.n4) ∧ w7.cell? ⟨X, 5, none⟩ = some (.int .i64 C.t1) ∧ w7.cell? ⟨X, 6, none⟩ = some (.int .i64 C.t2) ∧ w7.cell? ⟨X, 7, none⟩ = some (.int .i64 C.t3) ∧ w7.cell? ⟨X, 8, none⟩ = some (.int .i64 C.t4) ∧ w7.cell? ⟨X, 9, none⟩ = some (.int .i64 C.t5) ∧ w7.cell? ⟨X, 10, none⟩ = some (.int .i64 C.t6) ∧ w7.cell? ⟨X, 11, none⟩ = some (.int .i64 C.rate) ∧ w7.cell? ⟨X, 12, none⟩ = some (.int .i64 C.out) ∧ w7.cell? ⟨X, 13, none⟩ = some (.slice B1 n c1) := ⟨cell_of_row w7 _ 0 _ _ _ HX7.out, cell_of_row w7 _ 1 _ _ _ HX7.out, cell_of_row w7 _ 2 _ _ _ HX7.out, cell_of_row w7 _ 3 _ _ _ HX7.out, cell_of_row w7 _ 4 _ _ _ HX7.out, cell_of_row w7 _ 5 _ _ _ HX7.out, cell_of_row w7 _ 6 _ _ _ HX7.out, cell_of_row w7 _ 7 _ _ _ HX7.out, cell_of_row w7 _ 8 _ _ _ HX7.out, cell_of_row w7 _ 9 _ _ _ HX7.out, cell_of_row w7 _ 10 _ _ _ HX7.out, cell_of_row w7 _ 11 _ _ _ HX7.out, cell_of_row w7 _ 12 _ _ _ HX7.out, cell_of_row w7 _ 13 _ _ _ HX7.out⟩
    have H7 := Lib.hid hw7
    clear hw7 hx7 hbw hsz
    go_upto_region 23 with (fail)
    rw [← H7.out]
    go_wp2_with fail
    refine HCW.out.mono ?_
    rintro r w8 ⟨rfl, hb8⟩
    go_wp2_with fail
    refine (pawake w8).mono ?_
    rintro r w9 ⟨rfl, hb9⟩
    go_wp2
    go_ret
    exact ⟨rfl, HB7.out.trans ((hb8.trans (hb9.mono hb8.size)).mono HB7.out.size)⟩
  · obtain ⟨⟨a0, a1, a2, a3, a4, a5, a6, a7, a8, a9, a10, a11, a12, a13⟩, am⟩ := HR.out
    obtain ⟨⟨e0, e1, e2, e3, e4, e5, e6, e7, e8, e9, e10, e11, e12, e13⟩, em⟩ := HR'.out
    obtain ⟨W6, hW6⟩ : ∃ W6, W6 = w6 := ⟨_, rfl⟩
    rw [← hW6] at HX6 HY6 HBF HMa6 HMb6 ⊢
    clear hW6
    have HXB := HX6
    have HBW := HBF
    have HXS : Hid (X ≤ W6.heap.size) := Nat.le_of_lt (lt_of_block HX6.out)
    have HYS : Hid (Y ≤ W6.heap.size) := Nat.le_of_lt (lt_of_block HY6.out)
    have f0 : ∀ i, W6.frozen? ⟨X, i, none⟩ = false := fun i => frozen_of_row W6 _ i _ _ HXB.out
    have k5 := cell_of_row W6 X 5 _ _ _ HXB.out
    have k6 := cell_of_row W6 X 6 _ _ _ HXB.out
    have k7 := cell_of_row W6 X 7 _ _ _ HXB.out
    have k8 := cell_of_row W6 X 8 _ _ _ HXB.out
    have k9 := cell_of_row W6 X 9 _ _ _ HXB.out
    have k10 := cell_of_row W6 X 10 _ _ _ HXB.out
    simp at k5 k6 k7 k8 k9 k10
    have m5 := cell_of_row W6 Y 5 _ _ _ HY6.out
    have m6 := cell_of_row W6 Y 6 _ _ _ HY6.out
    have m7 := cell_of_row W6 Y 7 _ _ _ HY6.out
    have m8 := cell_of_row W6 Y 8 _ _ _ HY6.out
    have m9 := cell_of_row W6 Y 9 _ _ _ HY6.out
    have m10 := cell_of_row W6 Y 10 _ _ _ HY6.out
    simp at m5 m6 m7 m8 m9 m10
    have hx7 := HXB.out
    have hbw := HBW.out
    have hx7 := heap_setCell_same _ X 5 _ 31 (.int .i64 D.t1) hx7
    have hbw := hbw.setCell (p := ⟨X, 5, none⟩) HXW.out (.int .i64 D.t1)
    have hx7 := heap_setCell_same _ X 6 _ 31 (.int .i64 D.t2) hx7
    have hbw := hbw.setCell (p := ⟨X, 6, none⟩) HXW.out (.int .i64 D.t2)
    have hx7 := heap_setCell_same _ X 7 _ 31 (.int .i64 D.t3) hx7
    have hbw := hbw.setCell (p := ⟨X, 7, none⟩) HXW.out (.int .i64 D.t3)
    have hx7 := heap_setCell_same _ X 8 _ 31 (.int .i64 D.t4) hx7
    have hbw := hbw.setCell (p := ⟨X, 8, none⟩) HXW.out (.int .i64 D.t4)
    have hx7 := heap_setCell_same _ X 9 _ 31 (.int .i64 D.t5) hx7
    have hbw := hbw.setCell (p := ⟨X, 9, none⟩) HXW.out (.int .i64 D.t5)
    have hx7 := heap_setCell_same _ X 10 _ 31 (.int .i64 D.t6) hx7
    have hbw := hbw.setCell (p := ⟨X, 10, none⟩) HXW.out (.int .i64 D.t6)
    obtain ⟨w7, hw7⟩ : ∃ w7, w7 = ((((((W6.setCell ⟨X, 5, none⟩ (.int .i64 D.t1)).setCell ⟨X, 6, none⟩ (.int .i64 D.t2)).setCell ⟨X, 7, none⟩ (.int .i64 D.t3)).setCell ⟨X, 8, none⟩ (.int .i64 D.t4)).setCell ⟨X, 9, none⟩ (.int .i64 D.t5)).setCell ⟨X, 10, none⟩ (.int .i64 D.t6)) := ⟨_, rfl⟩
    have HX7 : Hid (w7.heap[X]? = some (.cells (Cfg.cells { C with t1 := D.t1, t2 := D.t2, t3 := D.t3, t4 := D.t4, t5 := D.t5, t6 := D.t6 } (.slice B1 n c1)) 31 (0, 0))) := by rw [hw7]; exact hx7
    have HB7 : Hid (Below w.heap.size w w7) := by rw [hw7]; exact hbw
    have HK7 : Hid (∀ g, g ≠ X → w7.heap[g]? = W6.heap[g]?) := fun g hg => by
      rw [hw7]
      exact (Below.heap_setCell _ _ _ _ hg).trans ((Below.heap_setCell _ _ _ _ hg).trans ((Below.heap_setCell _ _ _ _ hg).trans ((Below.heap_setCell _ _ _ _ hg).trans ((Below.heap_setCell _ _ _ _ hg).trans ((Below.heap_setCell _ _ _ _ hg).trans (rfl))))))
    have hsz : w7.heap.size = W6.heap.size := by rw [hw7]; simp only [World.size_setCell]
    have HMF : Hid (Ms w7 w7.heap.size B1 l) := by rw [hsz]; exact Ms.kept_ne HMa6.out HXS.out HK7.out (Nat.le_refl X)
    have HCW : Hid (Calls Try.prog 13 #[.agg (Cfg.cells { C with t1 := D.t1, t2 := D.t2, t3 := D.t3, t4 := D.t4, t5 := D.t5, t6 := D.t6 } (.slice B1 n c1))] w7 fun r w' => r = .returned (.string ⟨#[]⟩) ∧ Below w7.heap.size w7 w') := by
      have h := cwrong_any { C with t1 := D.t1, t2 := D.t2, t3 := D.t3, t4 := D.t4, t5 := D.t5, t6 := D.t6 } B1 n c1 l w7 HN.out HMF.out (by omega)
      rw [(wrongC_nil { C with t1 := D.t1, t2 := D.t2, t3 := D.t3, t4 := D.t4, t5 := D.t5, t6 := D.t6 } l).2 ⟨⟨a0, a1, a2, a3, a4, e5, e6, e7, e8, e9, e10, a11, a12, a13⟩, am⟩] at h
      exact h
    obtain ⟨x0, x1, x2, x3, x4, x5, x6, x7, x8, x9, x10, x11, x12, x13⟩ : w7.cell? ⟨X, 0, none⟩ = some (sV C.key) ∧ w7.cell? ⟨X, 1, none⟩ = some (.int .i64 C.n1) ∧ w7.cell? ⟨X, 2, none⟩ = some (.int .i64 C.n2) ∧ w7.cell? ⟨X, 3, none⟩ = some (.int .i64 C.n3) ∧ w7.cell? ⟨X, 4, none⟩ = some (.int .i64 C.n4) ∧ w7.cell? ⟨X, 5, none⟩ = some (.int .i64 D.t1) ∧ w7.cell? ⟨X, 6, none⟩ = some (.int .i64 D.t2) ∧ w7.cell? ⟨X, 7, none⟩ = some (.int .i64 D.t3) ∧ w7.cell? ⟨X, 8, none⟩ = some (.int .i64 D.t4) ∧ w7.cell? ⟨X, 9, none⟩ = some (.int .i64 D.t5) ∧ w7.cell? ⟨X, 10, none⟩ = some (.int .i64 D.t6) ∧ w7.cell? ⟨X, 11, none⟩ = some (.int .i64 C.rate) ∧ w7.cell? ⟨X, 12, none⟩ = some (.int .i64 C.out) ∧ w7.cell? ⟨X, 13, none⟩ = some (.slice B1 n c1) := ⟨cell_of_row w7 _ 0 _ _ _ HX7.out, cell_of_row w7 _ 1 _ _ _ HX7.out, cell_of_row w7 _ 2 _ _ _ HX7.out, cell_of_row w7 _ 3 _ _ _ HX7.out, cell_of_row w7 _ 4 _ _ _ HX7.out, cell_of_row w7 _ 5 _ _ _ HX7.out, cell_of_row w7 _ 6 _ _ _ HX7.out, cell_of_row w7 _ 7 _ _ _ HX7.out, cell_of_row w7 _ 8 _ _ _ HX7.out, cell_of_row w7 _ 9 _ _ _ HX7.out, cell_of_row w7 _ 10 _ _ _ HX7.out, cell_of_row w7 _ 11 _ _ _ HX7.out, cell_of_row w7 _ 12 _ _ _ HX7.out, cell_of_row w7 _ 13 _ _ _ HX7.out⟩
    have H7 := Lib.hid hw7
    clear hw7 hx7 hbw hsz
    go_upto_region 23 with (fail)
    rw [← H7.out]
    go_wp2_with fail
    refine HCW.out.mono ?_
    rintro r w8 ⟨rfl, hb8⟩
    go_wp2_with fail
    refine (pawake w8).mono ?_
    rintro r w9 ⟨rfl, hb9⟩
    go_wp2
    go_ret
    exact ⟨rfl, HB7.out.trans ((hb8.trans (hb9.mono hb8.size)).mono HB7.out.size)⟩
  · obtain ⟨⟨a0, a1, a2, a3, a4, a5, a6, a7, a8, a9, a10, a11, a12, a13⟩, am⟩ := HR.out
    obtain ⟨⟨e0, e1, e2, e3, e4, e5, e6, e7, e8, e9, e10, e11, e12, e13⟩, em⟩ := HR'.out
    go_upto_region 17 with (fail)
    have HSY : Hid ((fun W : World => W.cell? ⟨Y, 11, none⟩ = some (.int .i64 D.rate) ∧ W.cell? ⟨Y, 12, none⟩ = some (.int .i64 D.out)) w6.drew) := ⟨cell_of_row w6.drew _ 11 _ _ _ HY6.out, cell_of_row w6.drew _ 12 _ _ _ HY6.out⟩
    refine wp_region_held_drew (S := fun W : World => W.cell? ⟨Y, 11, none⟩ = some (.int .i64 D.rate) ∧ W.cell? ⟨Y, 12, none⟩ = some (.int .i64 D.out)) (by kernel_rfl) HSY.out (fun hHeld => ?_)
    obtain ⟨W6, hW6⟩ : ∃ W6, W6 = w6.drew := ⟨_, rfl⟩
    have hp6 : W6.heap = w6.heap := by rw [hW6]; rfl
    rw [← hW6] at hHeld HSY ⊢
    have HXB : Hid (W6.heap[X]? = some (.cells (C.cells (.slice B1 n c1)) 31 (0, 0))) := by rw [Hid, hp6]; exact HX6.out
    have HBW : Hid (Below w.heap.size w W6) := by rw [hW6]; exact HBF.out.drew
    have HMa6 : Hid (Ms W6 X B1 l) := by rw [hW6]; exact HMa6.out.below (Below.refl _ _).drew
    have HMb6 : Hid (Ms W6 Y B2 l') := by rw [hW6]; exact HMb6.out.below (Below.refl _ _).drew
    have HXS : Hid (X ≤ W6.heap.size) := by rw [Hid, hp6]; exact Nat.le_of_lt (lt_of_block HX6.out)
    have HYS : Hid (Y ≤ W6.heap.size) := by rw [Hid, hp6]; exact Nat.le_of_lt (lt_of_block HY6.out)
    clear hW6 hp6
    have f0 : ∀ i, W6.frozen? ⟨X, i, none⟩ = false := fun i => frozen_of_row W6 _ i _ _ HXB.out
    have k0 := cell_of_row W6 X 11 _ _ _ HXB.out
    have k1 := cell_of_row W6 X 12 _ _ _ HXB.out
    simp at k0 k1
    refine wpAnyH_take (i := 0) (oi := ?oi0e) (v := ?v0e) ?hi0e ?hs0e ?hf0e ?hr0e ?hQ0e ?hy0e ?hS0e ?h0e
    case hi0e => exact (by simp only [List.getElem?_toArray, List.getElem?_cons_zero]; rfl)
    case hs0e => kernel_rfl
    case hf0e => kernel_rfl
    case hr0e => kernel_rfl
    case hQ0e => exact fun _ _ _ h => h
    case hy0e =>
      refine Or.inl ⟨rfl, ?_⟩
      intro W hSw
      obtain ⟨s0, s1⟩ := hSw
      go_simp
      try with_reducible rfl
    case hS0e => assumption
    try simp only [Act.put, List.setIfInBounds_toArray, List.set_cons_zero, List.set_cons_succ]
    refine wpAnyH_take (i := 1) (oi := ?oi1e) (v := ?v1e) ?hi1e ?hs1e ?hf1e ?hr1e ?hQ1e ?hy1e ?hS1e ?h1e
    case hi1e => exact (by simp only [List.getElem?_toArray, List.getElem?_cons_succ, List.getElem?_cons_zero]; rfl)
    case hs1e => kernel_rfl
    case hf1e => kernel_rfl
    case hr1e => kernel_rfl
    case hQ1e => exact fun _ _ _ h => h
    case hy1e =>
      refine Or.inl ⟨rfl, ?_⟩
      intro W hSw
      obtain ⟨s0, s1⟩ := hSw
      go_simp
      try with_reducible rfl
    case hS1e => assumption
    try simp only [Act.put, List.setIfInBounds_toArray, List.set_cons_zero, List.set_cons_succ]
    refine wpAnyH_take (i := 2) (oi := ?oi2e) (v := ?v2e) ?hi2e ?hs2e ?hf2e ?hr2e ?hQ2e ?hy2e ?hS2e ?h2e
    case hi2e => exact (by simp only [List.getElem?_toArray, List.getElem?_cons_succ, List.getElem?_cons_zero]; rfl)
    case hs2e => kernel_rfl
    case hf2e => kernel_rfl
    case hr2e => kernel_rfl
    case hQ2e => exact fun _ _ _ h => h
    case hy2e =>
      refine Or.inl ⟨rfl, ?_⟩
      intro W hSw
      obtain ⟨s0, s1⟩ := hSw
      go_simp
      try with_reducible rfl
    case hS2e => assumption
    try simp only [Act.put, List.setIfInBounds_toArray, List.set_cons_zero, List.set_cons_succ]
    refine wpAnyH_take (i := 3) (oi := ?oi3e) (v := ?v3e) ?hi3e ?hs3e ?hf3e ?hr3e ?hQ3e ?hy3e ?hS3e ?h3e
    case hi3e => exact (by simp only [List.getElem?_toArray, List.getElem?_cons_succ, List.getElem?_cons_zero]; rfl)
    case hs3e => kernel_rfl
    case hf3e => kernel_rfl
    case hr3e => kernel_rfl
    case hQ3e => exact fun _ _ _ h => h
    case hy3e =>
      refine Or.inl ⟨rfl, ?_⟩
      intro W hSw
      obtain ⟨s0, s1⟩ := hSw
      go_simp
      try with_reducible rfl
    case hS3e => assumption
    try simp only [Act.put, List.setIfInBounds_toArray, List.set_cons_zero, List.set_cons_succ]
    refine wpAnyH_take (i := 4) (oi := ?oi4e) (v := ?v4e) ?hi4e ?hs4e ?hf4e ?hr4e ?hQ4e ?hy4e ?hS4e ?h4e
    case hi4e => exact (by simp only [List.getElem?_toArray, List.getElem?_cons_succ, List.getElem?_cons_zero]; rfl)
    case hs4e => kernel_rfl
    case hf4e => kernel_rfl
    case hr4e => kernel_rfl
    case hQ4e => exact fun _ _ _ h => h
    case hy4e =>
      refine Or.inl ⟨rfl, ?_⟩
      intro W hSw
      obtain ⟨s0, s1⟩ := hSw
      go_simp
      try with_reducible rfl
    case hS4e => assumption
    try simp only [Act.put, List.setIfInBounds_toArray, List.set_cons_zero, List.set_cons_succ]
    refine wpAnyH_ready (rs := [5]) (by kernel_rfl) (by simp) ?_
    refine AllReadyH.cons (o := _) rfl (fun K hK => ?_) AllReadyH.nil
    go_simp
    refine hK.out _ _ ⟨?_, ?_⟩ (fun hHeld => ?_)
    · exact (World.cell?_of_block (Below.heap_setCell _ _ _ _ (by have := HXY.out; show Y ≠ X; omega))).trans HSY.out.1
    · exact (World.cell?_of_block (Below.heap_setCell _ _ _ _ (by have := HXY.out; show Y ≠ X; omega))).trans HSY.out.2
    clear hK K
    try simp only [Act.put, List.setIfInBounds_toArray, List.set_cons_zero, List.set_cons_succ]
    refine wpAnyH_take (i := 6) (oi := ?oi6e) (v := ?v6e) ?hi6e ?hs6e ?hf6e ?hr6e ?hQ6e ?hy6e ?hS6e ?h6e
    case hi6e => exact (by simp only [List.getElem?_toArray, List.getElem?_cons_succ, List.getElem?_cons_zero]; rfl)
    case hs6e => kernel_rfl
    case hf6e => kernel_rfl
    case hr6e => kernel_rfl
    case hQ6e => exact fun _ _ _ h => h
    case hy6e =>
      refine Or.inl ⟨rfl, ?_⟩
      intro W hSw
      obtain ⟨s0, s1⟩ := hSw
      go_simp
      try with_reducible rfl
    case hS6e => assumption
    try simp only [Act.put, List.setIfInBounds_toArray, List.set_cons_zero, List.set_cons_succ]
    refine wpAnyH_ready (rs := [7]) (by kernel_rfl) (by simp) ?_
    refine AllReadyH.cons (o := _) rfl (fun K hK => ?_) AllReadyH.nil
    go_simp
    refine hK.out _ _ ⟨?_, ?_⟩ (fun hHeld => ?_)
    · exact (World.cell?_of_block ((Below.heap_setCell _ _ _ _ (by have := HXY.out; show Y ≠ X; omega)).trans (Below.heap_setCell _ _ _ _ (by have := HXY.out; show Y ≠ X; omega)))).trans HSY.out.1
    · exact (World.cell?_of_block ((Below.heap_setCell _ _ _ _ (by have := HXY.out; show Y ≠ X; omega)).trans (Below.heap_setCell _ _ _ _ (by have := HXY.out; show Y ≠ X; omega)))).trans HSY.out.2
    clear hK K
    try simp only [Act.put, List.setIfInBounds_toArray, List.set_cons_zero, List.set_cons_succ]
    refine wpAnyH_done (by kernel_rfl) ?_ _
    clear f0 k0 k1
    have hx7 := HXB.out
    have hbw := HBW.out
    have hx7 := heap_setCell_same _ X 11 _ 31 (.int .i64 D.rate) hx7
    have hbw := hbw.setCell (p := ⟨X, 11, none⟩) HXW.out (.int .i64 D.rate)
    have hx7 := heap_setCell_same _ X 12 _ 31 (.int .i64 D.out) hx7
    have hbw := hbw.setCell (p := ⟨X, 12, none⟩) HXW.out (.int .i64 D.out)
    obtain ⟨w7, hw7⟩ : ∃ w7, w7 = ((W6.setCell ⟨X, 11, none⟩ (.int .i64 D.rate)).setCell ⟨X, 12, none⟩ (.int .i64 D.out)) := ⟨_, rfl⟩
    have HX7 : Hid (w7.heap[X]? = some (.cells (Cfg.cells { C with rate := D.rate, out := D.out } (.slice B1 n c1)) 31 (0, 0))) := by rw [hw7]; exact hx7
    have HB7 : Hid (Below w.heap.size w w7) := by rw [hw7]; exact hbw
    have HK7 : Hid (∀ g, g ≠ X → w7.heap[g]? = W6.heap[g]?) := fun g hg => by
      rw [hw7]
      exact (Below.heap_setCell _ _ _ _ hg).trans ((Below.heap_setCell _ _ _ _ hg).trans (rfl))
    have hsz : w7.heap.size = W6.heap.size := by rw [hw7]; simp only [World.size_setCell]
    have HMF : Hid (Ms w7 w7.heap.size B1 l) := by rw [hsz]; exact Ms.kept_ne HMa6.out HXS.out HK7.out (Nat.le_refl X)
    have HCW : Hid (Calls Try.prog 13 #[.agg (Cfg.cells { C with rate := D.rate, out := D.out } (.slice B1 n c1))] w7 fun r w' => r = .returned (.string ⟨#[]⟩) ∧ Below w7.heap.size w7 w') := by
      have h := cwrong_any { C with rate := D.rate, out := D.out } B1 n c1 l w7 HN.out HMF.out (by omega)
      rw [(wrongC_nil { C with rate := D.rate, out := D.out } l).2 ⟨⟨a0, a1, a2, a3, a4, a5, a6, a7, a8, a9, a10, e11, e12, a13⟩, am⟩] at h
      exact h
    obtain ⟨x0, x1, x2, x3, x4, x5, x6, x7, x8, x9, x10, x11, x12, x13⟩ : w7.cell? ⟨X, 0, none⟩ = some (sV C.key) ∧ w7.cell? ⟨X, 1, none⟩ = some (.int .i64 C.n1) ∧ w7.cell? ⟨X, 2, none⟩ = some (.int .i64 C.n2) ∧ w7.cell? ⟨X, 3, none⟩ = some (.int .i64 C.n3) ∧ w7.cell? ⟨X, 4, none⟩ = some (.int .i64 C.n4) ∧ w7.cell? ⟨X, 5, none⟩ = some (.int .i64 C.t1) ∧ w7.cell? ⟨X, 6, none⟩ = some (.int .i64 C.t2) ∧ w7.cell? ⟨X, 7, none⟩ = some (.int .i64 C.t3) ∧ w7.cell? ⟨X, 8, none⟩ = some (.int .i64 C.t4) ∧ w7.cell? ⟨X, 9, none⟩ = some (.int .i64 C.t5) ∧ w7.cell? ⟨X, 10, none⟩ = some (.int .i64 C.t6) ∧ w7.cell? ⟨X, 11, none⟩ = some (.int .i64 D.rate) ∧ w7.cell? ⟨X, 12, none⟩ = some (.int .i64 D.out) ∧ w7.cell? ⟨X, 13, none⟩ = some (.slice B1 n c1) := ⟨cell_of_row w7 _ 0 _ _ _ HX7.out, cell_of_row w7 _ 1 _ _ _ HX7.out, cell_of_row w7 _ 2 _ _ _ HX7.out, cell_of_row w7 _ 3 _ _ _ HX7.out, cell_of_row w7 _ 4 _ _ _ HX7.out, cell_of_row w7 _ 5 _ _ _ HX7.out, cell_of_row w7 _ 6 _ _ _ HX7.out, cell_of_row w7 _ 7 _ _ _ HX7.out, cell_of_row w7 _ 8 _ _ _ HX7.out, cell_of_row w7 _ 9 _ _ _ HX7.out, cell_of_row w7 _ 10 _ _ _ HX7.out, cell_of_row w7 _ 11 _ _ _ HX7.out, cell_of_row w7 _ 12 _ _ _ HX7.out, cell_of_row w7 _ 13 _ _ _ HX7.out⟩
    have H7 := Lib.hid hw7
    clear hw7 hx7 hbw hsz
    go_upto_region 23 with (fail)
    rw [← H7.out]
    go_wp2_with fail
    refine HCW.out.mono ?_
    rintro r w8 ⟨rfl, hb8⟩
    go_wp2_with fail
    refine (pawake w8).mono ?_
    rintro r w9 ⟨rfl, hb9⟩
    go_wp2
    go_ret
    exact ⟨rfl, HB7.out.trans ((hb8.trans (hb9.mono hb8.size)).mono HB7.out.size)⟩
  · obtain ⟨⟨a0, a1, a2, a3, a4, a5, a6, a7, a8, a9, a10, a11, a12, a13⟩, am⟩ := HR.out
    obtain ⟨⟨e0, e1, e2, e3, e4, e5, e6, e7, e8, e9, e10, e11, e12, e13⟩, em⟩ := HR'.out
    obtain ⟨W6, hW6⟩ : ∃ W6, W6 = w6 := ⟨_, rfl⟩
    rw [← hW6] at HX6 HY6 HBF HMa6 HMb6 ⊢
    clear hW6
    have HXB := HX6
    have HBW := HBF
    have HXS : Hid (X ≤ W6.heap.size) := Nat.le_of_lt (lt_of_block HX6.out)
    have HYS : Hid (Y ≤ W6.heap.size) := Nat.le_of_lt (lt_of_block HY6.out)
    have f0 : ∀ i, W6.frozen? ⟨X, i, none⟩ = false := fun i => frozen_of_row W6 _ i _ _ HXB.out
    have k13 := cell_of_row W6 X 13 _ _ _ HXB.out
    simp at k13
    have m13 := cell_of_row W6 Y 13 _ _ _ HY6.out
    simp at m13
    have hx7 := HXB.out
    have hbw := HBW.out
    have hx7 := heap_setCell_same _ X 13 _ 31 (.slice B2 m c2) hx7
    have hbw := hbw.setCell (p := ⟨X, 13, none⟩) HXW.out (.slice B2 m c2)
    obtain ⟨w7, hw7⟩ : ∃ w7, w7 = (W6.setCell ⟨X, 13, none⟩ (.slice B2 m c2)) := ⟨_, rfl⟩
    have HX7 : Hid (w7.heap[X]? = some (.cells (Cfg.cells C (.slice B2 m c2)) 31 (0, 0))) := by rw [hw7]; exact hx7
    have HB7 : Hid (Below w.heap.size w w7) := by rw [hw7]; exact hbw
    have HK7 : Hid (∀ g, g ≠ X → w7.heap[g]? = W6.heap[g]?) := fun g hg => by
      rw [hw7]
      exact (Below.heap_setCell _ _ _ _ hg).trans (rfl)
    have hsz : w7.heap.size = W6.heap.size := by rw [hw7]; simp only [World.size_setCell]
    have HMF : Hid (Ms w7 w7.heap.size B2 l') := by rw [hsz]; exact Ms.kept_at HMb6.out HYS.out (fun ad had => HK7.out _ (by have := HNB.out ad had; omega))
    have HCW : Hid (Calls Try.prog 13 #[.agg (Cfg.cells C (.slice B2 m c2))] w7 fun r w' => r = .returned (.string ⟨#[]⟩) ∧ Below w7.heap.size w7 w') := by
      have h := cwrong_any C B2 m c2 l' w7 HN'.out HMF.out (by omega)
      rw [(wrongC_nil C l').2 ⟨⟨a0, a1, a2, a3, a4, a5, a6, a7, a8, a9, a10, a11, a12, e13⟩, em⟩] at h
      exact h
    obtain ⟨x0, x1, x2, x3, x4, x5, x6, x7, x8, x9, x10, x11, x12, x13⟩ : w7.cell? ⟨X, 0, none⟩ = some (sV C.key) ∧ w7.cell? ⟨X, 1, none⟩ = some (.int .i64 C.n1) ∧ w7.cell? ⟨X, 2, none⟩ = some (.int .i64 C.n2) ∧ w7.cell? ⟨X, 3, none⟩ = some (.int .i64 C.n3) ∧ w7.cell? ⟨X, 4, none⟩ = some (.int .i64 C.n4) ∧ w7.cell? ⟨X, 5, none⟩ = some (.int .i64 C.t1) ∧ w7.cell? ⟨X, 6, none⟩ = some (.int .i64 C.t2) ∧ w7.cell? ⟨X, 7, none⟩ = some (.int .i64 C.t3) ∧ w7.cell? ⟨X, 8, none⟩ = some (.int .i64 C.t4) ∧ w7.cell? ⟨X, 9, none⟩ = some (.int .i64 C.t5) ∧ w7.cell? ⟨X, 10, none⟩ = some (.int .i64 C.t6) ∧ w7.cell? ⟨X, 11, none⟩ = some (.int .i64 C.rate) ∧ w7.cell? ⟨X, 12, none⟩ = some (.int .i64 C.out) ∧ w7.cell? ⟨X, 13, none⟩ = some (.slice B2 m c2) := ⟨cell_of_row w7 _ 0 _ _ _ HX7.out, cell_of_row w7 _ 1 _ _ _ HX7.out, cell_of_row w7 _ 2 _ _ _ HX7.out, cell_of_row w7 _ 3 _ _ _ HX7.out, cell_of_row w7 _ 4 _ _ _ HX7.out, cell_of_row w7 _ 5 _ _ _ HX7.out, cell_of_row w7 _ 6 _ _ _ HX7.out, cell_of_row w7 _ 7 _ _ _ HX7.out, cell_of_row w7 _ 8 _ _ _ HX7.out, cell_of_row w7 _ 9 _ _ _ HX7.out, cell_of_row w7 _ 10 _ _ _ HX7.out, cell_of_row w7 _ 11 _ _ _ HX7.out, cell_of_row w7 _ 12 _ _ _ HX7.out, cell_of_row w7 _ 13 _ _ _ HX7.out⟩
    have H7 := Lib.hid hw7
    clear hw7 hx7 hbw hsz
    go_upto_region 23 with (fail)
    rw [← H7.out]
    go_wp2_with fail
    refine HCW.out.mono ?_
    rintro r w8 ⟨rfl, hb8⟩
    go_wp2_with fail
    refine (pawake w8).mono ?_
    rintro r w9 ⟨rfl, hb9⟩
    go_wp2
    go_ret
    exact ⟨rfl, HB7.out.trans ((hb8.trans (hb9.mono hb8.size)).mono HB7.out.size)⟩
  · obtain ⟨⟨a0, a1, a2, a3, a4, a5, a6, a7, a8, a9, a10, a11, a12, a13⟩, am⟩ := HR.out
    obtain ⟨⟨e0, e1, e2, e3, e4, e5, e6, e7, e8, e9, e10, e11, e12, e13⟩, em⟩ := HR'.out
    obtain ⟨W6, hW6⟩ : ∃ W6, W6 = w6 := ⟨_, rfl⟩
    rw [← hW6] at HX6 HY6 HBF HMa6 HMb6 ⊢
    clear hW6
    have HXB := HX6
    have HBW := HBF
    have HXS : Hid (X ≤ W6.heap.size) := Nat.le_of_lt (lt_of_block HX6.out)
    have HYS : Hid (Y ≤ W6.heap.size) := Nat.le_of_lt (lt_of_block HY6.out)
    have f0 : ∀ i, W6.frozen? ⟨X, i, none⟩ = false := fun i => frozen_of_row W6 _ i _ _ HXB.out
    have k9 := cell_of_row W6 X 9 _ _ _ HXB.out
    have k12 := cell_of_row W6 X 12 _ _ _ HXB.out
    simp at k9 k12
    have hx7 := HXB.out
    have hbw := HBW.out
    have hx7 := heap_setCell_same _ X 9 _ 31 (.int .i64 0) hx7
    have hbw := hbw.setCell (p := ⟨X, 9, none⟩) HXW.out (.int .i64 0)
    have hx7 := heap_setCell_same _ X 12 _ 31 (.int .i64 0) hx7
    have hbw := hbw.setCell (p := ⟨X, 12, none⟩) HXW.out (.int .i64 0)
    obtain ⟨w7, hw7⟩ : ∃ w7, w7 = ((W6.setCell ⟨X, 9, none⟩ (.int .i64 0)).setCell ⟨X, 12, none⟩ (.int .i64 0)) := ⟨_, rfl⟩
    have HX7 : Hid (w7.heap[X]? = some (.cells (Cfg.cells { C with t5 := 0, out := 0 } (.slice B1 n c1)) 31 (0, 0))) := by rw [hw7]; exact hx7
    have HB7 : Hid (Below w.heap.size w w7) := by rw [hw7]; exact hbw
    have HK7 : Hid (∀ g, g ≠ X → w7.heap[g]? = W6.heap[g]?) := fun g hg => by
      rw [hw7]
      exact (Below.heap_setCell _ _ _ _ hg).trans ((Below.heap_setCell _ _ _ _ hg).trans (rfl))
    have hsz : w7.heap.size = W6.heap.size := by rw [hw7]; simp only [World.size_setCell]
    have HMF : Hid (Ms w7 w7.heap.size B1 l) := by rw [hsz]; exact Ms.kept_ne HMa6.out HXS.out HK7.out (Nat.le_refl X)
    have HCW : Hid (Calls Try.prog 13 #[.agg (Cfg.cells { C with t5 := 0, out := 0 } (.slice B1 n c1))] w7 fun r w' => r = .returned (.string ⟨#[71, 114, 97, 99, 101]⟩) ∧ Below w7.heap.size w7 w') := by
      have h := cwrong_any { C with t5 := 0, out := 0 } B1 n c1 l w7 HN.out HMF.out (by omega)
      rw [wrong_grace C l HR.out.1] at h
      exact h
    obtain ⟨x0, x1, x2, x3, x4, x5, x6, x7, x8, x9, x10, x11, x12, x13⟩ : w7.cell? ⟨X, 0, none⟩ = some (sV C.key) ∧ w7.cell? ⟨X, 1, none⟩ = some (.int .i64 C.n1) ∧ w7.cell? ⟨X, 2, none⟩ = some (.int .i64 C.n2) ∧ w7.cell? ⟨X, 3, none⟩ = some (.int .i64 C.n3) ∧ w7.cell? ⟨X, 4, none⟩ = some (.int .i64 C.n4) ∧ w7.cell? ⟨X, 5, none⟩ = some (.int .i64 C.t1) ∧ w7.cell? ⟨X, 6, none⟩ = some (.int .i64 C.t2) ∧ w7.cell? ⟨X, 7, none⟩ = some (.int .i64 C.t3) ∧ w7.cell? ⟨X, 8, none⟩ = some (.int .i64 C.t4) ∧ w7.cell? ⟨X, 9, none⟩ = some (.int .i64 0) ∧ w7.cell? ⟨X, 10, none⟩ = some (.int .i64 C.t6) ∧ w7.cell? ⟨X, 11, none⟩ = some (.int .i64 C.rate) ∧ w7.cell? ⟨X, 12, none⟩ = some (.int .i64 0) ∧ w7.cell? ⟨X, 13, none⟩ = some (.slice B1 n c1) := ⟨cell_of_row w7 _ 0 _ _ _ HX7.out, cell_of_row w7 _ 1 _ _ _ HX7.out, cell_of_row w7 _ 2 _ _ _ HX7.out, cell_of_row w7 _ 3 _ _ _ HX7.out, cell_of_row w7 _ 4 _ _ _ HX7.out, cell_of_row w7 _ 5 _ _ _ HX7.out, cell_of_row w7 _ 6 _ _ _ HX7.out, cell_of_row w7 _ 7 _ _ _ HX7.out, cell_of_row w7 _ 8 _ _ _ HX7.out, cell_of_row w7 _ 9 _ _ _ HX7.out, cell_of_row w7 _ 10 _ _ _ HX7.out, cell_of_row w7 _ 11 _ _ _ HX7.out, cell_of_row w7 _ 12 _ _ _ HX7.out, cell_of_row w7 _ 13 _ _ _ HX7.out⟩
    have H7 := Lib.hid hw7
    clear hw7 hx7 hbw hsz
    go_upto_region 22 with (fail)
    rw [← H7.out]
    go_wp2_with fail
    refine HCW.out.mono ?_
    rintro r w8 ⟨rfl, hb8⟩
    go_wp2_with fail
    refine (pawake w8).mono ?_
    rintro r w9 ⟨rfl, hb9⟩
    go_wp2
    go_ret
    exact ⟨rfl, HB7.out.trans ((hb8.trans (hb9.mono hb8.size)).mono HB7.out.size)⟩
  · obtain ⟨⟨a0, a1, a2, a3, a4, a5, a6, a7, a8, a9, a10, a11, a12, a13⟩, am⟩ := HR.out
    obtain ⟨⟨e0, e1, e2, e3, e4, e5, e6, e7, e8, e9, e10, e11, e12, e13⟩, em⟩ := HR'.out
    obtain ⟨W6, hW6⟩ : ∃ W6, W6 = w6 := ⟨_, rfl⟩
    rw [← hW6] at HX6 HY6 HBF HMa6 HMb6 ⊢
    clear hW6
    have HXB := HX6
    have HBW := HBF
    have HXS : Hid (X ≤ W6.heap.size) := Nat.le_of_lt (lt_of_block HX6.out)
    have HYS : Hid (Y ≤ W6.heap.size) := Nat.le_of_lt (lt_of_block HY6.out)
    have f0 : ∀ i, W6.frozen? ⟨X, i, none⟩ = false := fun i => frozen_of_row W6 _ i _ _ HXB.out
    have k4 := cell_of_row W6 X 4 _ _ _ HXB.out
    have k13 := cell_of_row W6 X 13 _ _ _ HXB.out
    simp at k4 k13
    have hx7 := HXB.out
    have hbw := HBW.out
    have hx7 := heap_setCell_same _ X 4 _ 31 (.int .i64 17) hx7
    have hbw := hbw.setCell (p := ⟨X, 4, none⟩) HXW.out (.int .i64 17)
    have hx7 := heap_setCell_same _ X 13 _ 31 (.slice none 0 0) hx7
    have hbw := hbw.setCell (p := ⟨X, 13, none⟩) HXW.out (.slice none 0 0)
    obtain ⟨w7, hw7⟩ : ∃ w7, w7 = ((W6.setCell ⟨X, 4, none⟩ (.int .i64 17)).setCell ⟨X, 13, none⟩ (.slice none 0 0)) := ⟨_, rfl⟩
    have HX7 : Hid (w7.heap[X]? = some (.cells (Cfg.cells { C with n4 := 17 } (.slice none 0 0)) 31 (0, 0))) := by rw [hw7]; exact hx7
    have HB7 : Hid (Below w.heap.size w w7) := by rw [hw7]; exact hbw
    have HK7 : Hid (∀ g, g ≠ X → w7.heap[g]? = W6.heap[g]?) := fun g hg => by
      rw [hw7]
      exact (Below.heap_setCell _ _ _ _ hg).trans ((Below.heap_setCell _ _ _ _ hg).trans (rfl))
    have hsz : w7.heap.size = W6.heap.size := by rw [hw7]; simp only [World.size_setCell]
    have HMF : Hid (Ms w7 w7.heap.size none []) := fun h => by simp at h
    have HCW : Hid (Calls Try.prog 13 #[.agg (Cfg.cells { C with n4 := 17 } (.slice none 0 0))] w7 fun r w' => r = .returned (.string ⟨#[73, 110, 115, 116, 97, 110, 99, 101, 115]⟩) ∧ Below w7.heap.size w7 w') := by
      have h := cwrong_any { C with n4 := 17 } none 0 0 [] w7 rfl HMF.out (by omega)
      rw [wrong_inst C l.length HR.out.1] at h
      exact h
    obtain ⟨x0, x1, x2, x3, x4, x5, x6, x7, x8, x9, x10, x11, x12, x13⟩ : w7.cell? ⟨X, 0, none⟩ = some (sV C.key) ∧ w7.cell? ⟨X, 1, none⟩ = some (.int .i64 C.n1) ∧ w7.cell? ⟨X, 2, none⟩ = some (.int .i64 C.n2) ∧ w7.cell? ⟨X, 3, none⟩ = some (.int .i64 C.n3) ∧ w7.cell? ⟨X, 4, none⟩ = some (.int .i64 17) ∧ w7.cell? ⟨X, 5, none⟩ = some (.int .i64 C.t1) ∧ w7.cell? ⟨X, 6, none⟩ = some (.int .i64 C.t2) ∧ w7.cell? ⟨X, 7, none⟩ = some (.int .i64 C.t3) ∧ w7.cell? ⟨X, 8, none⟩ = some (.int .i64 C.t4) ∧ w7.cell? ⟨X, 9, none⟩ = some (.int .i64 C.t5) ∧ w7.cell? ⟨X, 10, none⟩ = some (.int .i64 C.t6) ∧ w7.cell? ⟨X, 11, none⟩ = some (.int .i64 C.rate) ∧ w7.cell? ⟨X, 12, none⟩ = some (.int .i64 C.out) ∧ w7.cell? ⟨X, 13, none⟩ = some (.slice none 0 0) := ⟨cell_of_row w7 _ 0 _ _ _ HX7.out, cell_of_row w7 _ 1 _ _ _ HX7.out, cell_of_row w7 _ 2 _ _ _ HX7.out, cell_of_row w7 _ 3 _ _ _ HX7.out, cell_of_row w7 _ 4 _ _ _ HX7.out, cell_of_row w7 _ 5 _ _ _ HX7.out, cell_of_row w7 _ 6 _ _ _ HX7.out, cell_of_row w7 _ 7 _ _ _ HX7.out, cell_of_row w7 _ 8 _ _ _ HX7.out, cell_of_row w7 _ 9 _ _ _ HX7.out, cell_of_row w7 _ 10 _ _ _ HX7.out, cell_of_row w7 _ 11 _ _ _ HX7.out, cell_of_row w7 _ 12 _ _ _ HX7.out, cell_of_row w7 _ 13 _ _ _ HX7.out⟩
    have H7 := Lib.hid hw7
    clear hw7 hx7 hbw hsz
    go_upto_region 9 with (fail)
    rw [← H7.out]
    go_wp2_with fail
    refine HCW.out.mono ?_
    rintro r w8 ⟨rfl, hb8⟩
    go_wp2_with fail
    refine (pawake w8).mono ?_
    rintro r w9 ⟨rfl, hb9⟩
    go_wp2
    go_ret
    exact ⟨rfl, HB7.out.trans ((hb8.trans (hb9.mono hb8.size)).mono HB7.out.size)⟩
end Go.Proofs.Ytpomddmeachbbaa
