/- Draft: the document's Rating, Near. -/
import Derived.Test.YtnloikdfbdpilaaDI
namespace Go.Proofs.Ytnloikdfbdpilaa
open Go.RowKit
set_option maxRecDepth 20000
set_option linter.unusedVariables false

theorem rt_bd (x : Int) : 0 ≤ rt x ∧ rt x ≤ 10000 := by unfold rt; omega
set_option maxHeartbeats 2000000 in
theorem rating_any (x : Int) (w : World) : Calls Try.prog 36 #[.int .i64 x] w fun r w' => r = .returned (.int .i64 (rt x)) ∧ w' = w := by
  by_cases h1 : x < 0
  · rw [show rt x = 0 by unfold rt; omega]
    go_enter Try.func36, Try.ntmps36
    go_wp2
    go_ret
    exact ⟨rfl, rfl⟩
  · by_cases h2 : 10000 < x
    · rw [show rt x = 10000 by unfold rt; omega]
      go_enter Try.func36, Try.ntmps36
      go_wp2
      go_ret
      exact ⟨rfl, rfl⟩
    · rw [show rt x = x by unfold rt; omega]
      go_enter Try.func36, Try.ntmps36
      go_wp2
      go_ret
      exact ⟨rfl, rfl⟩
set_option maxHeartbeats 2000000 in
theorem near_any (a v b u : Int) (w : World) : Calls Try.prog 23 #[.int .i64 a, .int .i64 v, .int .i64 b, .int .i64 u] w fun r w' => r = .returned (.bool (decide (dist (rt a) (rt b) ≤ min v u))) ∧ w' = w := by
  obtain ⟨X, hX⟩ : ∃ X, X = rt a := ⟨_, rfl⟩
  obtain ⟨Y, hY⟩ : ∃ Y, Y = rt b := ⟨_, rfl⟩
  have hXb := rt_bd a
  have hYb := rt_bd b
  have HA := Lib.hid (rating_any a w)
  have HB := Lib.hid (rating_any b w)
  rw [← hX] at hXb HA ⊢
  rw [← hY] at hYb HB ⊢
  clear hX hY
  by_cases h : dist X Y ≤ min v u
  · rw [decide_eq_true h]
    have h1 : (X - Y < 0 → Y - X ≤ v ∧ Y - X ≤ u) ∧ (¬ X - Y < 0 → X - Y ≤ v ∧ X - Y ≤ u) := by unfold dist at h; omega
    by_cases hn : X - Y < 0
    · obtain ⟨k1, k2⟩ := h1.1 hn
      clear h h1
      go_enter Try.func23, Try.ntmps23
      go_wp2_with fail
      refine HA.out.mono ?_
      rintro r w' ⟨rfl, rfl⟩
      go_wp2_with fail
      refine HB.out.mono ?_
      rintro r w' ⟨rfl, rfl⟩
      go_wp2
      go_ret
      exact ⟨by simp <;> omega, rfl⟩
    · obtain ⟨k1, k2⟩ := h1.2 hn
      clear h h1
      go_enter Try.func23, Try.ntmps23
      go_wp2_with fail
      refine HA.out.mono ?_
      rintro r w' ⟨rfl, rfl⟩
      go_wp2_with fail
      refine HB.out.mono ?_
      rintro r w' ⟨rfl, rfl⟩
      go_wp2
      go_ret
      exact ⟨by simp <;> omega, rfl⟩
  · rw [decide_eq_false h]
    have h1 : (X - Y < 0 → ¬ (Y - X ≤ v ∧ Y - X ≤ u)) ∧ (¬ X - Y < 0 → ¬ (X - Y ≤ v ∧ X - Y ≤ u)) := by unfold dist at h; omega
    clear h
    go_enter Try.func23, Try.ntmps23
    go_wp2_with fail
    refine HA.out.mono ?_
    rintro r w' ⟨rfl, rfl⟩
    go_wp2_with fail
    refine HB.out.mono ?_
    rintro r w' ⟨rfl, rfl⟩
    go_wp2
    all_goals first | (exfalso; omega) | skip
    all_goals
      go_ret
      exact ⟨by simp <;> omega, rfl⟩

end Go.Proofs.Ytnloikdfbdpilaa
