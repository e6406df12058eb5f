/- Plan: a mode's Wrong. -/
import Derived.Test.YtccabdhfnjlbdaaF1
namespace Go.Proofs.Ytccabdhfnjlbdaa
open Go.RowKit
set_option maxRecDepth 20000

abbrev mV (k b s c e : Int) : Value := .agg #[.int .i64 k, .int .i64 b, .int .i64 s, .int .i64 c, .int .i64 e]
abbrev mCells (k b s c e : Int) : Array Value := #[.int .i64 k, .int .i64 b, .int .i64 s, .int .i64 c, .int .i64 e]
/-- The first thing of a mode that is not as it must be. -/
def wrongM (k b s c e : Int) : List UInt8 :=
  kp (kp (kp (kp (kp [] [75] (inB 1 k 4)) [66, 97, 115, 101] (inB 0 b 10000)) [83, 116, 101, 112] (inB 0 s 10000)) [67, 97, 112] (inB 0 c 10000 && decide (b ≤ c))) [69, 118, 101, 114, 121] (inB 1 e 1099511627776)
theorem Kps.upto {B C : Nat} {s : List UInt8} {w W W' : World} (h : Kps B C s w W) (hb : Below W.heap.size W W') : Kps B C s w W' := by
  obtain ⟨h0, h1, h2⟩ := h
  have l1 := lt_of_block h1
  exact ⟨h0.trans (hb.mono (Nat.le_of_lt l1)), (hb.block B l1).trans h1, (hb.block C (lt_of_block h2)).trans h2⟩
theorem Kps.mk0 (w0 : World) : Kps w0.heap.size (w0.heap.size + 1) [] w0 ((w0.alloc (.cells #[sV []] 9)).alloc (.cells #[.pointer (some ⟨w0.heap.size, 0, none⟩)] 69)) := by
  have e1 : (w0.alloc (.cells #[sV []] 9)).heap.size = w0.heap.size + 1 := by simp
  refine ⟨((Below.refl _ _).alloc (Nat.le_refl _) _).alloc (by simp) _, ?_, ?_⟩
  · exact (Below.heap_alloc _ _ _ (by simp)).trans (heap_alloc_new w0 _)
  · have := heap_alloc_new (w0.alloc (.cells #[sV []] 9)) (.cells #[.pointer (some ⟨w0.heap.size, 0, none⟩)] 69)
    rwa [e1] at this

set_option maxHeartbeats 4000000 in
theorem wrongM_any (k b s c e : Int) (w : World) : Calls Try.prog 23 #[mV k b s c e] w fun r w' => r = .returned (sV (wrongM k b s c e)) ∧ Below w.heap.size w w' := by
  obtain ⟨w0, hw0⟩ : ∃ w0, w0 = w.alloc (.cells (mCells k b s c e) 35) := ⟨_, rfl⟩
  have hb0 : Below w.heap.size w w0 := by rw [hw0]; exact (Below.refl _ _).alloc (Nat.le_refl _) _
  have hp0 : w0.heap[w.heap.size]? = some (.cells (mCells k b s c e) 35 (0, 0)) := by rw [hw0]; exact heap_alloc_new w _
  obtain ⟨w1, hw1⟩ : ∃ w1, w1 = w0.alloc (.cells #[sV []] 9) := ⟨_, rfl⟩
  have hsz1 : w1.heap.size = w0.heap.size + 1 := by rw [hw1]; simp
  have HK0 := Lib.hid (Kps.mk0 w0)
  rw [← hw1] at HK0
  have HCE : Hid (∀ W, Below w0.heap.size w0 W → W.cell? ⟨w.heap.size, 0, none⟩ = some (.int .i64 k) ∧ W.cell? ⟨w.heap.size, 1, none⟩ = some (.int .i64 b) ∧ W.cell? ⟨w.heap.size, 2, none⟩ = some (.int .i64 s) ∧ W.cell? ⟨w.heap.size, 3, none⟩ = some (.int .i64 c) ∧ W.cell? ⟨w.heap.size, 4, none⟩ = some (.int .i64 e)) := fun W hW => by
    have e2 := (hW.block _ (lt_of_block hp0)).trans hp0
    exact ⟨cell_of_row W _ 0 _ _ _ e2, cell_of_row W _ 1 _ _ _ e2, cell_of_row W _ 2 _ _ _ e2, cell_of_row W _ 3 _ _ _ e2, cell_of_row W _ 4 _ _ _ e2⟩
  obtain ⟨rs, hrs⟩ : ∃ rs, rs = wrongM k b s c e := ⟨_, rfl⟩
  rw [← hrs]
  unfold wrongM at hrs
  obtain ⟨r1, hr1⟩ : ∃ r, r = inB 1 k 4 := ⟨_, rfl⟩
  obtain ⟨r2, hr2⟩ : ∃ r, r = inB 0 b 10000 := ⟨_, rfl⟩
  obtain ⟨r3, hr3⟩ : ∃ r, r = inB 0 s 10000 := ⟨_, rfl⟩
  obtain ⟨r4, hr4⟩ : ∃ r, r = inB 0 c 10000 := ⟨_, rfl⟩
  obtain ⟨r5, hr5⟩ : ∃ r, r = inB 1 e 1099511627776 := ⟨_, rfl⟩
  have hC1 : ∀ W, Calls Try.prog 33 #[.int .i64 k, .int .i64 1, .int .i64 4] W fun r w' => r = .returned (.bool r1) ∧ w' = W := by rw [hr1]; exact within_int k 1 4
  have hC2 : ∀ W, Calls Try.prog 33 #[.int .i64 b, .int .i64 0, .int .i64 10000] W fun r w' => r = .returned (.bool r2) ∧ w' = W := by rw [hr2]; exact within_int b 0 10000
  have hC3 : ∀ W, Calls Try.prog 33 #[.int .i64 s, .int .i64 0, .int .i64 10000] W fun r w' => r = .returned (.bool r3) ∧ w' = W := by rw [hr3]; exact within_int s 0 10000
  have hC4 : ∀ W, Calls Try.prog 33 #[.int .i64 c, .int .i64 0, .int .i64 10000] W fun r w' => r = .returned (.bool r4) ∧ w' = W := by rw [hr4]; exact within_int c 0 10000
  have hC5 : ∀ W, Calls Try.prog 34 #[.int .i64 e] W fun r w' => r = .returned (.bool r5) ∧ w' = W := by rw [hr5]; exact lasts_any e
  rw [← hr1, ← hr2, ← hr3, ← hr4, ← hr5] at hrs
  have HRS := Lib.hid hrs
  have HC1 := Lib.hid hC1
  have HC2 := Lib.hid hC2
  have HC3 := Lib.hid hC3
  have HC4 := Lib.hid hC4
  have HC5 := Lib.hid hC5
  clear hC1 hC2 hC3 hC4 hC5 hrs hr1 hr2 hr3 hr4 hr5
  have H0 := Lib.hid hw0
  have H1 := Lib.hid hw1
  have HB0 := Lib.hid hb0
  have HS1 := Lib.hid hsz1
  clear hw0 hw1 hb0 hp0 hsz1
  go_enter Try.func23, Try.ntmps23
  go_upto_region 1 with (fail)
  rw [← H0.out]
  go_upto_region 2 with (fail)
  rw [← H1.out]
  go_wp2_with fail
  refine (keeper_any w0.heap.size w1).mono ?_
  rintro r w2 ⟨rfl, rfl⟩
  rw [HS1.out]
  obtain ⟨w2, hw2⟩ : ∃ w2, w2 = w1.alloc (.cells #[.pointer (some ⟨w0.heap.size, 0, none⟩)] 69) := ⟨_, rfl⟩
  rw [← hw2] at HK0 ⊢
  clear hw2
  obtain ⟨c0, c1, c2, c3, c4⟩ := HCE.out w2 HK0.out.1
  go_wp2_with fail
  refine (HC1.out w2).mono ?_
  rintro r w' ⟨rfl, rfl⟩
  go_wp2_with fail
  refine (keep_any [75] r1 w0.heap.size (w0.heap.size + 1) ([]) w0 w' HK0.out).mono ?_
  rintro r w3 ⟨rfl, hk0⟩
  have HK1 := Lib.hid hk0
  clear hk0 c0 c1 c2 c3 c4 HK0
  obtain ⟨c0, c1, c2, c3, c4⟩ := HCE.out w3 HK1.out.1
  go_wp2_with fail
  refine (HC2.out w3).mono ?_
  rintro r w' ⟨rfl, rfl⟩
  go_wp2_with fail
  refine (keep_any [66, 97, 115, 101] r2 w0.heap.size (w0.heap.size + 1) (kp ([]) [75] r1) w0 w' HK1.out).mono ?_
  rintro r w4 ⟨rfl, hk1⟩
  have HK2 := Lib.hid hk1
  clear hk1 c0 c1 c2 c3 c4 HK1
  obtain ⟨c0, c1, c2, c3, c4⟩ := HCE.out w4 HK2.out.1
  go_wp2_with fail
  refine (HC3.out w4).mono ?_
  rintro r w' ⟨rfl, rfl⟩
  go_wp2_with fail
  refine (keep_any [83, 116, 101, 112] r3 w0.heap.size (w0.heap.size + 1) (kp (kp ([]) [75] r1) [66, 97, 115, 101] r2) w0 w' HK2.out).mono ?_
  rintro r w5 ⟨rfl, hk2⟩
  have HK3 := Lib.hid hk2
  clear hk2 c0 c1 c2 c3 c4 HK2
  obtain ⟨c0, c1, c2, c3, c4⟩ := HCE.out w5 HK3.out.1
  cases r4
  all_goals
    go_wp2_with fail
    refine (HC4.out w5).mono ?_
    rintro r w' ⟨rfl, rfl⟩
    go_wp2_with fail
    refine (keep_any [67, 97, 112] _ w0.heap.size (w0.heap.size + 1) (kp (kp (kp ([]) [75] r1) [66, 97, 115, 101] r2) [83, 116, 101, 112] r3) w0 w' HK3.out).mono ?_
    rintro r w6 ⟨rfl, hk3⟩
    have HK4 := Lib.hid hk3
    clear hk3 c0 c1 c2 c3 c4 HK3
    obtain ⟨c0, c1, c2, c3, c4⟩ := HCE.out w6 HK4.out.1
    go_wp2_with fail
    refine (HC5.out w6).mono ?_
    rintro r w' ⟨rfl, rfl⟩
    go_wp2_with fail
    refine (keep_any [69, 118, 101, 114, 121] r5 w0.heap.size (w0.heap.size + 1) _ w0 w' HK4.out).mono ?_
    rintro r w7 ⟨rfl, hk4⟩
    have HK5 := Lib.hid hk4
    clear hk4 c0 c1 c2 c3 c4 HK4
    obtain ⟨c0, c1, c2, c3, c4⟩ := HCE.out w7 HK5.out.1
    have d : w7.cell? ⟨w0.heap.size, 0, none⟩ = some (sV rs) := by rw [HRS.out]; exact cell_of_one HK5.out.2.1
    go_wp2
    go_ret
    exact ⟨rfl, HB0.out.trans (HK5.out.1.mono HB0.out.size)⟩
end Go.Proofs.Ytccabdhfnjlbdaa
