/- Elo: what is at stake. -/
import Derived.Test.YtlkebffainhfaaaDoorE3
namespace Go.Proofs.YtlkebffainhfaaaDoor
open Go.RowKit
set_option maxRecDepth 20000

/-- So many as a team may have. -/
def clm (m : Int) : Int := if m < 0 then 0 else if 4 < m then 4 else m
theorem clm_bd (m : Int) : 0 ≤ clm m ∧ clm m ≤ 4 := by unfold clm; split <;> (try split) <;> omega
/-- What is at stake. -/
def stk (a b m r : Int) : Int := if isr r = true then (32 * clm m * (scr r - expd (rt a) (rt b))).tdiv 1000 else 0
theorem wr64 {x : Int} (h1 : -9223372036854775808 ≤ x) (h2 : x ≤ 9223372036854775807) : wrap64 x = x := by
  unfold wrap64
  omega
theorem prod_bd (m d : Int) (h0 : 0 ≤ m) (h4 : m ≤ 4) (h1 : -1000 ≤ d) (h2 : d ≤ 1000) : -128000 ≤ 32 * m * d ∧ 32 * m * d ≤ 128000 := by
  rcases (by omega : m = 0 ∨ m = 1 ∨ m = 2 ∨ m = 3 ∨ m = 4) with rfl | rfl | rfl | rfl | rfl <;> omega
theorem scr_bd (r : Int) : 0 ≤ scr r ∧ scr r ≤ 1000 := by unfold scr; split <;> (try split) <;> omega

set_option maxHeartbeats 400000 in
theorem stake_core (a b m r s x : Int) (is : Bool) (w : World) (hs : ∀ W, Calls Tryd.prog 25 #[.int .i64 r] W fun e w' => e = .returned (.tuple #[.int .i64 s, .bool is]) ∧ w' = W)
    (hx : Calls Tryd.prog 10 #[.int .i64 a, .int .i64 b] w fun e w' => e = .returned (.int .i64 x) ∧ w' = w) (hs0 : 0 ≤ s ∧ s ≤ 1000) (hx0 : 10 ≤ x ∧ x ≤ 990) :
    Calls Tryd.prog 14 #[.int .i64 a, .int .i64 b, .int .i64 m, .int .i64 r] w fun e w' => e = .returned (.int .i64 (if is = true then (32 * clm m * (s - x)).tdiv 1000 else 0)) ∧ w' = w := by
  have HS := Lib.hid hs
  have HX := Lib.hid hx
  clear hs hx
  cases is
  · rw [if_neg (by simp)]
    go_enter Tryd.func14, Tryd.ntmps14
    go_wp2_with fail
    refine (HS.out _).mono ?_
    rintro e w' ⟨rfl, rfl⟩
    go_wp2
    go_ret
    exact ⟨rfl, rfl⟩
  · rw [if_pos rfl]
    have hm := clm_bd m
    have hm1 : m < 0 ∨ 4 < m ∨ (0 ≤ m ∧ m ≤ 4) := by omega
    obtain ⟨d, hd⟩ : ∃ d, s - x = d := ⟨_, rfl⟩
    have hd0 : -1000 ≤ d ∧ d ≤ 1000 := by omega
    have hp0 := prod_bd (clm m) d hm.1 hm.2 hd0.1 hd0.2
    rw [hd]
    obtain ⟨q, hq⟩ : ∃ q, 32 * clm m = q := ⟨_, rfl⟩
    rw [hq] at hp0 ⊢
    have hp : wrap64 (q * d) = q * d := wr64 (by omega) (by omega)
    rcases hm1 with g | g | ⟨g1, g2⟩
    · have e1 : clm m = 0 := by unfold clm; rw [if_pos g]
      rw [e1] at hq
      obtain rfl : q = 0 := by omega
      clear hq e1
      go_enter Tryd.func14, Tryd.ntmps14
      go_wp2_with fail
      refine (HS.out _).mono ?_
      rintro e w' ⟨rfl, rfl⟩
      go_wp2_with fail
      refine HX.out.mono ?_
      rintro e w' ⟨rfl, rfl⟩
      go_wp2
      go_ret
      exact ⟨by simp, rfl⟩
    · have e1 : clm m = 4 := by unfold clm; rw [if_neg (by omega), if_pos g]
      rw [e1] at hq
      obtain rfl : q = 128 := by omega
      have g3 : ¬ m < 0 := by omega
      clear hq e1
      go_enter Tryd.func14, Tryd.ntmps14
      go_wp2_with fail
      refine (HS.out _).mono ?_
      rintro e w' ⟨rfl, rfl⟩
      go_wp2_with fail
      refine HX.out.mono ?_
      rintro e w' ⟨rfl, rfl⟩
      go_wp2
      go_ret
      exact ⟨rfl, rfl⟩
    · have e1 : clm m = m := by unfold clm; rw [if_neg (by omega), if_neg (by omega)]
      rw [e1] at hq
      clear e1
      go_enter Tryd.func14, Tryd.ntmps14
      go_wp2_with fail
      refine (HS.out _).mono ?_
      rintro e w' ⟨rfl, rfl⟩
      go_wp2_with fail
      refine HX.out.mono ?_
      rintro e w' ⟨rfl, rfl⟩
      go_wp2
      go_ret
      exact ⟨rfl, rfl⟩
theorem stake_any (a b m r : Int) (w : World) (hr : Rw w) : Calls Tryd.prog 14 #[.int .i64 a, .int .i64 b, .int .i64 m, .int .i64 r] w fun e w' => e = .returned (.int .i64 (stk a b m r)) ∧ w' = w :=
  stake_core a b m r (scr r) (expd (rt a) (rt b)) (isr r) w (fun W => score_any r W) (exp_any a b w hr) (scr_bd r) (expd_bd _ _)

theorem isr_cases (r : Int) : (isr r = true ∧ (r = 0 ∨ r = 1 ∨ r = 2)) ∨ (isr r = false ∧ r ≠ 0 ∧ r ≠ 1 ∧ r ≠ 2) := by
  unfold isr
  by_cases h : 0 ≤ r ∧ r ≤ 2
  · left; simp; omega
  · right; simp; omega

set_option maxHeartbeats 400000 in
theorem rstake_core (a b m s x : Int) (r : Int) (w : World) (hr : (r = 0 ∧ s = 500) ∨ (r = 1 ∧ s = 1000) ∨ (r = 2 ∧ s = 0))
    (hx : Calls Tryd.prog 11 #[.int .i64 a, .int .i64 b] w fun e w' => e = .returned (.int .i64 x) ∧ Below w.heap.size w w') (hx0 : 10 ≤ x ∧ x ≤ 990) :
    Calls Tryd.prog 15 #[.int .i64 a, .int .i64 b, .int .i64 m, .int .i64 r] w fun e w' => e = .returned (.int .i64 ((32 * clm m * (s - x)).tdiv 1000)) ∧ Below w.heap.size w w' := by
  have HX := Lib.hid hx
  clear hx
  have hm := clm_bd m
  have hm1 : m < 0 ∨ 4 < m ∨ (0 ≤ m ∧ m ≤ 4) := by omega
  obtain ⟨d, hd⟩ : ∃ d, s - x = d := ⟨_, rfl⟩
  have hd0 : -1000 ≤ d ∧ d ≤ 1000 := by omega
  have hp0 := prod_bd (clm m) d hm.1 hm.2 hd0.1 hd0.2
  rw [hd]
  obtain ⟨q, hq⟩ : ∃ q, 32 * clm m = q := ⟨_, rfl⟩
  rw [hq] at hp0 ⊢
  obtain ⟨p, hpq⟩ : ∃ p, q * d = p := ⟨_, rfl⟩
  have hp : wrap64 (q * d) = p := by rw [← hpq]; exact wr64 (by omega) (by omega)
  rw [hpq] at hp0 ⊢
  have hq0 : q = 0 → p = 0 := fun e => by rw [← hpq, e]; simp
  have hpn : p < 0 ∨ 0 ≤ p := by omega
  obtain ⟨t, ht⟩ : ∃ t, p.tdiv 1000 = t := ⟨_, rfl⟩
  have htp : 0 ≤ p → p / 1000 = t := fun h => by rw [← ht, Int.tdiv_eq_ediv_of_nonneg h]
  have htb : -128 ≤ t ∧ t ≤ 128 := by
    rw [← ht]
    rcases hpn with h | h
    · have e1 : p = -(-p) := by omega
      rw [e1, Int.neg_tdiv, Int.tdiv_eq_ediv_of_nonneg (by omega)]
      omega
    · rw [Int.tdiv_eq_ediv_of_nonneg h]
      omega
  have hwt : wrap64 (-t) = -t := wr64 (by omega) (by omega)
  rw [ht]
  rcases hr with ⟨rfl, rfl⟩ | ⟨rfl, rfl⟩ | ⟨rfl, rfl⟩ <;> rcases hm1 with g | g | ⟨g1, g2⟩ <;> rcases hpn with n | n <;>
  first
  | (exfalso
     have e1 : clm m = 0 := by unfold clm; rw [if_pos g]
     rw [e1] at hq
     have hp0 := hq0 (by omega)
     omega)
  | (first
     | (have e1 : clm m = 0 := by unfold clm; rw [if_pos g]
        rw [e1] at hq
        obtain rfl : q = 0 := by omega
        obtain rfl : p = 0 := hq0 rfl
        clear e1)
     | (have e1 : clm m = 4 := by unfold clm; rw [if_neg (by omega), if_pos g]
        have g3 : ¬ m < 0 := by omega
        rw [e1] at hq
        obtain rfl : q = 128 := by omega
        clear e1)
     | (have e1 : clm m = m := by unfold clm; rw [if_neg (by omega), if_neg (by omega)]
        rw [e1] at hq
        clear e1)
     clear hq0
     first
     | (have n0 := htp n
        clear htp)
     | clear htp
     go_enter Tryd.func15, Tryd.ntmps15
     go_wp2_with fail
     refine HX.out.mono ?_
     rintro e w' ⟨rfl, hb⟩
     go_wp2
     all_goals
       go_ret
       exact ⟨rfl, hb⟩)

set_option maxHeartbeats 400000 in
theorem rstake_none (a b m r : Int) (w : World) (h0 : r ≠ 0) (h1 : r ≠ 1) (h2 : r ≠ 2) :
    Calls Tryd.prog 15 #[.int .i64 a, .int .i64 b, .int .i64 m, .int .i64 r] w fun e w' => e = .returned (.int .i64 0) ∧ Below w.heap.size w w' := by
  have f0 : (r == 0) = false := by simpa using h0
  have f1 : (r == 1) = false := by simpa using h1
  have f2 : (r == 2) = false := by simpa using h2
  have hm1 : m < 0 ∨ 4 < m ∨ (0 ≤ m ∧ m ≤ 4) := by omega
  clear h0 h1 h2
  rcases hm1 with g | g | ⟨g1, g2⟩
  · go_enter Tryd.func15, Tryd.ntmps15
    go_wp2
    go_ret
    exact ⟨rfl, Below.refl _ _⟩
  · have g3 : ¬ m < 0 := by omega
    go_enter Tryd.func15, Tryd.ntmps15
    go_wp2
    go_ret
    exact ⟨rfl, Below.refl _ _⟩
  · go_enter Tryd.func15, Tryd.ntmps15
    go_wp2
    go_ret
    exact ⟨rfl, Below.refl _ _⟩
theorem rstake_any (a b m r : Int) (w : World) : Calls Tryd.prog 15 #[.int .i64 a, .int .i64 b, .int .i64 m, .int .i64 r] w fun e w' => e = .returned (.int .i64 (stk a b m r)) ∧ Below w.heap.size w w' := by
  unfold stk
  rcases isr_cases r with ⟨h1, h2⟩ | ⟨h1, h2, h3, h4⟩
  · rw [if_pos h1]
    exact rstake_core a b m (scr r) (expd (rt a) (rt b)) r w (by rcases h2 with rfl | rfl | rfl <;> simp [scr]) (rexp_any a b w) (expd_bd _ _)
  · rw [if_neg (by simp [h1])]
    exact rstake_none a b m r w h2 h3 h4
theorem stk_bd (a b m r : Int) : -128 ≤ stk a b m r ∧ stk a b m r ≤ 128 := by
  unfold stk
  split
  · have hm := clm_bd m
    have hs := scr_bd r
    have hx := expd_bd (rt a) (rt b)
    have hp0 := prod_bd (clm m) (scr r - expd (rt a) (rt b)) hm.1 hm.2 (by omega) (by omega)
    generalize 32 * clm m * (scr r - expd (rt a) (rt b)) = p at hp0 ⊢
    rcases (by omega : p < 0 ∨ 0 ≤ p) with h | h
    · have e1 : p = -(-p) := by omega
      rw [e1, Int.neg_tdiv, Int.tdiv_eq_ediv_of_nonneg (by omega)]
      omega
    · rw [Int.tdiv_eq_ediv_of_nonneg h]
      omega
  · omega
end Go.Proofs.YtlkebffainhfaaaDoor
