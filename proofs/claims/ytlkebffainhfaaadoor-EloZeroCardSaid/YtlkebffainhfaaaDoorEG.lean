/- Elo: more and less; sums of shares; EloMore's walk. -/
import Derived.Test.YtlkebffainhfaaaDoorEC
namespace Go.Proofs.YtlkebffainhfaaaDoor
open Go.RowKit
set_option maxRecDepth 20000

theorem rowAt_mono {i j : Nat} (hij : i ≤ j) (hj : j < 17) : rowAt i ≤ rowAt j := by
  have h : ∀ j : Fin 17, ∀ i : Fin 17, i.1 ≤ j.1 → rowAt i.1 ≤ rowAt j.1 := by decide +kernel
  exact h ⟨j, hj⟩ ⟨i, by omega⟩ hij
theorem plc_mono {d e : Int} (h : d ≤ e) : plc d ≤ plc e := by unfold plc; omega
theorem expd_mono {a a' : Int} (b : Int) (h : a ≤ a') : expd a b ≤ expd a' b := by
  unfold expd
  by_cases h1 : a < b
  · rw [if_pos h1]
    by_cases h2 : a' < b
    · rw [if_pos h2]
      have := rowAt_mono (plc_mono (d := b - a') (e := b - a) (by omega)) (plc_lt _)
      omega
    · rw [if_neg h2]
      have h3 := rowAt_bd _ (plc_lt (b - a))
      have h4 := rowAt_bd _ (plc_lt (a' - b))
      omega
  · rw [if_neg h1, if_neg (by omega)]
    exact rowAt_mono (plc_mono (by omega)) (plc_lt _)
theorem rt_mono {n m : Int} (h : n ≤ m) : rt n ≤ rt m := by
  unfold rt
  split <;> split <;> (try split) <;> (try split) <;> omega
theorem stk_mono1 {x y : Int} (b m : Int) (h : y ≤ x) : stk x b m 1 ≤ stk y b m 1 := by
  unfold stk
  have hi : isr 1 = true := by decide
  rw [if_pos hi, if_pos hi]
  have hs : scr 1 = 1000 := by decide
  rw [hs]
  have hm := clm_bd m
  have h1 := expd_mono (rt b) (rt_mono h)
  have h2 := expd_bd (rt x) (rt b)
  have h3 := expd_bd (rt y) (rt b)
  generalize expd (rt x) (rt b) = ex at *
  generalize expd (rt y) (rt b) = ey at *
  have hp : 32 * clm m * (1000 - ex) ≤ 32 * clm m * (1000 - ey) := Int.mul_le_mul_of_nonneg_left (by omega) (by omega)
  have hp0 : 0 ≤ 32 * clm m * (1000 - ex) := Int.mul_nonneg (by omega) (by omega)
  rw [Int.tdiv_eq_ediv_of_nonneg hp0, Int.tdiv_eq_ediv_of_nonneg (by omega)]
  exact Int.ediv_le_ediv (by omega) hp

/-- All shares ahead of a place. -/
def sumS (p m : Int) : Nat → Int
  | 0 => 0
  | k + 1 => sumS p m k + shr p m k
theorem sumS_pos (p m : Int) (hp : 0 ≤ p) (hm : 0 < m) (k : Nat) (hk : (k : Int) ≤ m) : sumS p m k = k * (p / m) + min (k : Int) (p % m) := by
  have hb := div_bd p m hp hm
  induction k with
  | zero => simp [sumS]; omega
  | succ k ih =>
    have ih' := ih (by omega)
    unfold sumS
    have e : shr p m k = if (k : Int) < p % m then p / m + 1 else p / m := by
      unfold shr shp
      rw [if_neg (by omega), if_neg (by omega)]
    rw [ih', e]
    push_cast
    rw [Int.add_mul]
    split <;> omega
theorem sumS_neg (p m : Int) (k : Nat) : sumS (-p) m k = -sumS p m k := by
  induction k with
  | zero => simp [sumS]
  | succ k ih => unfold sumS; rw [ih, shr_neg']; omega
theorem sumS_all (p : Int) (n : Nat) (hn : 0 < n) : sumS p n n = p := by
  have key : ∀ p : Int, 0 ≤ p → sumS p n n = p := fun p hp => by
    have hb := div_bd p n hp (by omega)
    rw [sumS_pos p n hp (by omega) n (Int.le_refl _)]
    have h := Int.mul_ediv_add_emod p (n : Int)
    omega
  by_cases h : 0 ≤ p
  · exact key p h
  · have h2 := key (-p) (by omega)
    rw [sumS_neg] at h2
    omega
theorem sumS_bd (p m : Int) (k : Nat) : -((k : Int) * (1 + max p (-p))) ≤ sumS p m k ∧ sumS p m k ≤ (k : Int) * (1 + max p (-p)) := by
  induction k with
  | zero => simp [sumS]
  | succ k ih =>
    have := shr_bd p m k
    unfold sumS
    push_cast
    rw [Int.add_mul]
    omega
theorem shr_near (p m k : Int) (hk : 0 ≤ k) (hm : k < m) : shr p m k - shr p m 0 ≤ 1 ∧ shr p m 0 - shr p m k ≤ 1 := by
  unfold shr shp
  rw [if_neg (show ¬ (k < 0 ∨ m ≤ k) by omega), if_neg (show ¬ (k < 0 ∨ m ≤ k) by omega), if_neg (show ¬ ((0 : Int) < 0 ∨ m ≤ 0) by omega), if_neg (show ¬ ((0 : Int) < 0 ∨ m ≤ 0) by omega)]
  split <;> split <;> split <;> omega
theorem shr_out (p : Int) (n : Int) : shr p n n = 0 := by
  unfold shr shp
  rw [if_pos (show n < 0 ∨ n ≤ n by omega), if_pos (show n < 0 ∨ n ≤ n by omega)]
  simp

end Go.Proofs.YtlkebffainhfaaaDoor
