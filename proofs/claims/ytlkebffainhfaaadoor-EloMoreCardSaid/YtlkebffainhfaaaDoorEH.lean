/- Elo: EloMore's walk. -/
import Derived.Test.YtlkebffainhfaaaDoorEG
namespace Go.Proofs.YtlkebffainhfaaaDoor
open Go.RowKit
set_option maxRecDepth 20000

set_option maxHeartbeats 1000000 in
theorem more_walk (a b c u p : Int) (w : World) (hR : Rw w) (hz : 0 < w.heap.size) (_ha : -9223372036854775808 ≤ a ∧ a ≤ 9223372036854775807) (_hb : -9223372036854775808 ≤ b ∧ b ≤ 9223372036854775807) (_hc : -9223372036854775808 ≤ c ∧ c ≤ 9223372036854775807) (hu : 0 ≤ u ∧ u ≤ 255) (hp : -2147483648 ≤ p ∧ p ≤ 2147483647) :
    Calls Tryd.prog 9 #[.agg #[.int .i64 a, .int .i64 b, .int .i64 c], .int .u8 u, .int .i32 p] w fun e w' => e = .returned (.bool true) ∧ Below w.heap.size w w' := by
  obtain ⟨w0, hw0⟩ : ∃ w0, w0 = w.alloc (.cells #[.int .i64 a, .int .i64 b, .int .i64 c] 39) := ⟨_, rfl⟩
  have hb0 : Below w.heap.size w w0 := by rw [hw0]; exact (Below.refl _ _).alloc (Nat.le_refl _) _
  have hp0 : w0.heap[w.heap.size]? = some (.cells #[.int .i64 a, .int .i64 b, .int .i64 c] 39 (0, 0)) := by rw [hw0]; exact heap_alloc_new w _
  have c0 := cell_of_row w0 w.heap.size 0 _ _ _ hp0
  have c1 := cell_of_row w0 w.heap.size 1 _ _ _ hp0
  have c2 := cell_of_row w0 w.heap.size 2 _ _ _ hp0
  simp at c0 c1 c2
  have H0 := Lib.hid hw0
  have HB0 := Lib.hid hb0
  clear hw0 hp0 hb0
  obtain ⟨n, hn⟩ : ∃ n : Nat, u % 9 = (n : Int) := ⟨(u % 9).toNat, by omega⟩
  have hn9 : n < 9 := by omega
  have hzb : u.tmod 9 = (n : Int) := by rw [Int.tmod_eq_emod_of_nonneg hu.1]; exact hn
  have HST : Hid (∀ x y r W, Below w.heap.size w W → Calls Tryd.prog 14 #[.int .i64 x, .int .i64 y, .int .i64 (n : Int), .int .i64 r] W fun e w' => e = .returned (.int .i64 (stk x y n r)) ∧ w' = W) := fun x y r W hB => stake_any x y n r W (hR.below hB hz)
  have HW : Hid (∀ W, Below w.heap.size w W → Calls Tryd.prog 16 #[] W fun r w' => r = .returned (.bool true) ∧ Below W.heap.size W w') := fun W hb => eawake W (hR.below hb hz) (Nat.lt_of_lt_of_le hz hb.size)
  clear hR
  obtain ⟨x, y, hxy, hm⟩ : ∃ x y, y ≤ x ∧ ((a < c ∧ x = c ∧ y = a) ∨ (c < a ∧ x = a ∧ y = c) ∨ (a = c ∧ x = a ∧ y = a)) := by
    by_cases h : a < c
    · exact ⟨c, a, by omega, .inl ⟨h, rfl, rfl⟩⟩
    · by_cases h2 : c < a
      · exact ⟨a, c, by omega, .inr (.inl ⟨h2, rfl, rfl⟩)⟩
      · exact ⟨a, a, by omega, .inr (.inr ⟨by omega, rfl, rfl⟩)⟩
  have hmo := stk_mono1 b n hxy
  obtain ⟨sx, hsx⟩ : ∃ sx, sx = stk x b n 1 := ⟨_, rfl⟩
  obtain ⟨sy, hsy⟩ : ∃ sy, sy = stk y b n 1 := ⟨_, rfl⟩
  obtain ⟨sa, hsa⟩ : ∃ sa, sa = stk a b n 1 := ⟨_, rfl⟩
  have hsb : stk b a n 2 = -sa := by rw [hsa]; exact stk_turn a b n 1
  have hsab := stk_bd a b n 1
  rw [← hsa] at hsab
  rw [← hsx, ← hsy] at hmo
  have HX : Hid (∀ W, Below w.heap.size w W → Calls Tryd.prog 14 #[.int .i64 x, .int .i64 b, .int .i64 (n : Int), .int .i64 1] W fun e w' => e = .returned (.int .i64 sx) ∧ w' = W) := fun W hB => by rw [hsx]; exact HST.out x b 1 W hB
  have HY : Hid (∀ W, Below w.heap.size w W → Calls Tryd.prog 14 #[.int .i64 y, .int .i64 b, .int .i64 (n : Int), .int .i64 1] W fun e w' => e = .returned (.int .i64 sy) ∧ w' = W) := fun W hB => by rw [hsy]; exact HST.out y b 1 W hB
  have HA : Hid (∀ W, Below w.heap.size w W → Calls Tryd.prog 14 #[.int .i64 a, .int .i64 b, .int .i64 (n : Int), .int .i64 1] W fun e w' => e = .returned (.int .i64 sa) ∧ w' = W) := fun W hB => by rw [hsa]; exact HST.out a b 1 W hB
  have HBB : Hid (∀ W, Below w.heap.size w W → Calls Tryd.prog 14 #[.int .i64 b, .int .i64 a, .int .i64 (n : Int), .int .i64 2] W fun e w' => e = .returned (.int .i64 (-sa)) ∧ w' = W) := fun W hB => by rw [← hsb]; exact HST.out b a 2 W hB
  have hnl : ¬ sy < sx := by omega
  have hz0 : sa + -sa = 0 := by omega
  have HSH : Hid (∀ (k : Int) W, Calls Tryd.prog 17 #[.int .i64 p, .int .i64 (n : Int), .int .i64 k] W fun e w' => e = .returned (.int .i64 (shr p n k)) ∧ ∃ q, w' = W.drewN q) := fun k W => share_any p n k W (by omega) (by omega) (by omega) (by omega)
  clear hsx hsy hsa hsb hmo HST hxy
  have goal2 : ∀ k : Nat, k ≤ n → -((k : Int) * (1 + max p (-p))) ≤ sumS p n k ∧ sumS p n k ≤ (k : Int) * (1 + max p (-p)) := fun k _ => sumS_bd p n k
  have HSB : Hid (∀ k : Nat, k ≤ n → -20000000000 ≤ sumS p n k ∧ sumS p n k ≤ 20000000000) := fun k hk => by
    have := goal2 k hk
    rcases (by omega : k = 0 ∨ k = 1 ∨ k = 2 ∨ k = 3 ∨ k = 4 ∨ k = 5 ∨ k = 6 ∨ k = 7 ∨ k = 8) with rfl | rfl | rfl | rfl | rfl | rfl | rfl | rfl | rfl <;> omega
  clear goal2
  have h0 : shr p n n = 0 := shr_out p n
  have HLast : Hid (∀ W, Calls Tryd.prog 17 #[.int .i64 p, .int .i64 (n : Int), .int .i64 (n : Int)] W fun e w' => e = .returned (.int .i64 0) ∧ ∃ q, w' = W.drewN q) := fun W => by
    have := HSH.out n W
    rw [h0] at this
    exact this
  clear h0
  rcases hm with ⟨g, rfl, rfl⟩ | ⟨g, rfl, rfl⟩ | ⟨rfl, rfl, hyx⟩
  rotate_left 2
  subst hyx
  rotate_left 1
  all_goals
    go_enter Tryd.func9, Tryd.ntmps9
    go_upto_region 1 with (fail)
    rw [← H0.out]
    go_quiet (fail)
    clear c0 c1 c2
    go_wp2_with fail
    refine (HY.out _ (below_drewN HB0.out _)).mono ?_
    rintro e w1 ⟨rfl, rfl⟩
    go_wp2_with fail
    refine (HX.out _ (below_drewN HB0.out _)).mono ?_
    rintro e w1 ⟨rfl, rfl⟩
    go_wp2_with fail
    refine (HA.out _ (below_drewN HB0.out _)).mono ?_
    rintro e w1 ⟨rfl, rfl⟩
    go_wp2_with fail
    refine (HBB.out _ (below_drewN HB0.out _)).mono ?_
    rintro e w1 ⟨rfl, rfl⟩
    go_wp2_with fail
    go_loopw [13, 14, 15, 16] (fun sm i _ _ wr => ∃ k : Nat, k ≤ n ∧ i = .int .i64 k ∧ sm = .int .i64 (sumS p n k) ∧ Hid (Below w.heap.size w wr)) (fun _ i _ _ _ => n - (intOf i).toNat)
    case atStart => exact ⟨0, Nat.zero_le _, rfl, rfl, below_drewN HB0.out _⟩
    case round =>
      obtain ⟨k, hk, rfl, rfl, HBW⟩ := hrel
      by_cases hlt : k < n
      · have hsk := HSB.out k hk
        have HSN : Hid (sumS p n (k + 1) = sumS p n k + shr p n k) := rfl
        have hnear := shr_near p n k (by omega) (by omega)
        have hs1 := shr_bd p n k
        have hs2 := shr_bd p n 0
        have HK := HSH.out k
        have HZ := HSH.out 0
        generalize shr p n k = s at *
        generalize shr p n 0 = t at *
        generalize sumS p n k = sm at *
        have HK' := Lib.hid HK
        have HZ' := Lib.hid HZ
        clear HK HZ
        have q1 : ¬ 1 < s - t := by omega
        have q2 : ¬ 1 < t - s := by omega
        go_wp2_with fail
        refine (HK'.out _).mono ?_
        rintro e w1 ⟨rfl, q3, rfl⟩
        go_wp2_with fail
        refine (HZ'.out _).mono ?_
        rintro e w1 ⟨rfl, q4, rfl⟩
        go_wp2_with fail
        go_roundw
        case rel => exact ⟨k + 1, by omega, by go_num, by rw [HSN.out], below_drewN HBW.out _⟩
        case measure => simp [intOf]; omega
      · obtain rfl : k = n := by omega
        by_cases hk0 : k = 0
        · subst hk0
          go_wp2_with fail
          refine (HLast.out _).mono ?_
          rintro e w1 ⟨rfl, q3, rfl⟩
          go_wp2_with fail
          refine (HW.out _ (below_drewN HBW.out _)).mono ?_
          rintro e w1 ⟨rfl, hb1⟩
          go_wp2_with fail
          go_ret
          exact ⟨rfl, (below_drewN HBW.out _).trans (hb1.mono (below_drewN HBW.out _).size)⟩
        · have hall := sumS_all p k (by omega)
          rw [hall]
          have f0 : ((k : Int) == 0) = false := by simp; omega
          have f1 : (p == p) = true := by simp
          clear hall
          go_wp2_with fail
          refine (HLast.out _).mono ?_
          rintro e w1 ⟨rfl, q3, rfl⟩
          go_wp2_with fail
          refine (HW.out _ (below_drewN HBW.out _)).mono ?_
          rintro e w1 ⟨rfl, hb1⟩
          go_wp2_with fail
          go_ret
          exact ⟨rfl, (below_drewN HBW.out _).trans (hb1.mono (below_drewN HBW.out _).size)⟩
end Go.Proofs.YtlkebffainhfaaaDoor
