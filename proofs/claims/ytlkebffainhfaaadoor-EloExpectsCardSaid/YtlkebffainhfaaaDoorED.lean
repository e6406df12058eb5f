/- Elo: EloExpects' walk. -/
import Derived.Test.YtlkebffainhfaaaDoorE9
namespace Go.Proofs.YtlkebffainhfaaaDoor
open Go.RowKit
set_option maxRecDepth 20000

set_option maxHeartbeats 1000000 in
theorem expects_walk (x y m r : Int) (A : Option Addr) (c : Nat) (l : List Int) (w : World) (hR : Rw w) (hz : 0 < w.heap.size) (_hx : -9223372036854775808 ≤ x ∧ x ≤ 9223372036854775807) (_hy : -9223372036854775808 ≤ y ∧ y ≤ 9223372036854775807) (_hm : -9223372036854775808 ≤ m ∧ m ≤ 9223372036854775807) (_hr : -9223372036854775808 ≤ r ∧ r ≤ 9223372036854775807) (hl : Zs w (.slice A l.length c) l) (hll : l.length ≤ 9223372036854775807) :
    Calls Tryd.prog 3 #[.agg #[.int .i64 x, .int .i64 y], .agg #[.int .i64 m, .int .i64 r], .slice A l.length c] w fun e w' => e = .returned (.bool true) ∧ Below w.heap.size w w' := by
  obtain ⟨w0, hw0⟩ : ∃ w0, w0 = (w.alloc (.cells #[.int .i64 x, .int .i64 y] 22)).alloc (.cells #[.int .i64 m, .int .i64 r] 22) := ⟨_, rfl⟩
  have hb0 : Below w.heap.size w w0 := by rw [hw0]; exact ((Below.refl _ _).alloc (Nat.le_refl _) _).alloc (by simp) _
  have hp0 : w0.heap[w.heap.size]? = some (.cells #[.int .i64 x, .int .i64 y] 22 (0, 0)) := by rw [hw0]; exact (Below.heap_alloc _ _ _ (by simp)).trans (heap_alloc_new w _)
  have hq0 : w0.heap[w.heap.size + 1]? = some (.cells #[.int .i64 m, .int .i64 r] 22 (0, 0)) := by
    have := heap_alloc_new (w.alloc (.cells #[.int .i64 x, .int .i64 y] 22)) (.cells #[.int .i64 m, .int .i64 r] 22)
    rw [World.size_alloc] at this
    rw [hw0]; exact this
  have c0 := cell_of_row w0 w.heap.size 0 _ _ _ hp0
  have c1 := cell_of_row w0 w.heap.size 1 _ _ _ hp0
  have d0 := cell_of_row w0 (w.heap.size + 1) 0 _ _ _ hq0
  have d1 := cell_of_row w0 (w.heap.size + 1) 1 _ _ _ hq0
  simp at c0 c1 d0 d1
  have H0 := Lib.hid hw0
  have HB0 := Lib.hid hb0
  clear hw0 hp0 hq0
  by_cases h1 : 40 < l.length
  · have g1 : 40 < (l.length : Int) := by omega
    go_enter Tryd.func3, Tryd.ntmps3
    go_upto_region 1 with (fail)
    rw [← H0.out]
    go_wp2_with fail
    go_ret
    exact ⟨rfl, HB0.out⟩
  · have g1 : ¬ 40 < (l.length : Int) := by omega
    obtain ⟨E, hE⟩ : ∃ E, E = expd (rt x) (rt y) := ⟨_, rfl⟩
    obtain ⟨M, hM⟩ : ∃ M, M = meanR l := ⟨_, rfl⟩
    obtain ⟨S, hS⟩ : ∃ S, S = stk x y m r := ⟨_, rfl⟩
    have HE1 : Hid (∀ W, Below w.heap.size w W → Calls Tryd.prog 10 #[.int .i64 x, .int .i64 y] W fun e w' => e = .returned (.int .i64 E) ∧ w' = W) := fun W hB => by rw [hE]; exact exp_any x y W (hR.below hB hz)
    have HE2 : Hid (∀ W, Calls Tryd.prog 11 #[.int .i64 x, .int .i64 y] W fun e w' => e = .returned (.int .i64 E) ∧ Below W.heap.size W w') := fun W => by rw [hE]; exact rexp_any x y W
    have HM1 : Hid (∀ W, Below w.heap.size w W → Calls Tryd.prog 12 #[.slice A l.length c] W fun e w' => e = .returned (.int .i64 M) ∧ w' = W) := fun W hB => by rw [hM]; exact mean_any _ l W (hl.below hB (Nat.le_refl _)) (by omega)
    have HM2 : Hid (∀ W, Below w.heap.size w W → Calls Tryd.prog 13 #[.slice A l.length c] W fun e w' => e = .returned (.int .i64 M) ∧ w' = W) := fun W hB => by rw [hM]; exact rmean_any _ l W (hl.below hB (Nat.le_refl _)) (by omega)
    have HS1 : Hid (∀ W, Below w.heap.size w W → Calls Tryd.prog 14 #[.int .i64 x, .int .i64 y, .int .i64 m, .int .i64 r] W fun e w' => e = .returned (.int .i64 S) ∧ w' = W) := fun W hB => by rw [hS]; exact stake_any x y m r W (hR.below hB hz)
    have HS2 : Hid (∀ W, Calls Tryd.prog 15 #[.int .i64 x, .int .i64 y, .int .i64 m, .int .i64 r] W fun e w' => e = .returned (.int .i64 S) ∧ Below W.heap.size W w') := fun W => by rw [hS]; exact rstake_any x y m r W
    have HW : Hid (∀ W, Below w.heap.size w W → Calls Tryd.prog 16 #[] W fun r w' => r = .returned (.bool true) ∧ Below W.heap.size W w') := fun W hb => eawake W (hR.below hb hz) (Nat.lt_of_lt_of_le hz hb.size)
    have e1 : (E == E) = true := by simp
    have e2 : (M == M) = true := by simp
    have e3 : (S == S) = true := by simp
    clear hE hM hS hl hR hb0
    go_enter Tryd.func3, Tryd.ntmps3
    go_upto_region 1 with (fail)
    rw [← H0.out]
    go_wp2_with fail
    go_quiet (fail)
    go_wp2_with fail
    refine (HE1.out _ (below_drewN HB0.out _)).mono ?_
    rintro e w1 ⟨rfl, rfl⟩
    go_wp2_with fail
    refine (HE2.out _).mono ?_
    rintro e w2 ⟨rfl, hb2⟩
    have HB2 : Hid (Below w.heap.size w w2) := (below_drewN HB0.out _).trans (hb2.mono (below_drewN HB0.out _).size)
    clear hb2 c0 c1 d0 d1
    go_wp2_with fail
    refine (HM1.out _ HB2.out).mono ?_
    rintro e w1 ⟨rfl, rfl⟩
    go_wp2_with fail
    refine (HM2.out _ HB2.out).mono ?_
    rintro e w1 ⟨rfl, rfl⟩
    go_wp2_with fail
    refine (HS1.out _ HB2.out).mono ?_
    rintro e w1 ⟨rfl, rfl⟩
    go_wp2_with fail
    refine (HS2.out _).mono ?_
    rintro e w3 ⟨rfl, hb3⟩
    have HB3 : Hid (Below w.heap.size w w3) := HB2.out.trans (hb3.mono HB2.out.size)
    clear hb3
    go_wp2_with fail
    refine (HW.out _ HB3.out).mono ?_
    rintro e w4 ⟨rfl, hb4⟩
    go_wp2_with fail
    go_ret
    exact ⟨rfl, HB3.out.trans (hb4.mono HB3.out.size)⟩
end Go.Proofs.YtlkebffainhfaaaDoor
