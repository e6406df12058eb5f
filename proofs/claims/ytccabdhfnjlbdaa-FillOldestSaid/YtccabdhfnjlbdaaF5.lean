/- Fill: waits, ratings, distances. -/
import Derived.Test.YtccabdhfnjlbdaaF4
namespace Go.Proofs.Ytccabdhfnjlbdaa
open Go.RowKit
set_option maxRecDepth 20000

def In64 (x : Int) : Prop := -9223372036854775808 ≤ x ∧ x ≤ 9223372036854775807
/-- How long a ticket has waited. -/
def waitP (now s : Int) : Int := if now ≤ s then 0 else min (now - s) 9223372036854775807
theorem wait_bd (now s : Int) : 0 ≤ waitP now s ∧ waitP now s ≤ 9223372036854775807 := by unfold waitP; split <;> omega

set_option maxHeartbeats 2000000 in
theorem wait_any (now s : Int) (w : World) (hn : In64 now) (hs : In64 s) :
    Calls Try.prog 21 #[.int .i64 now, .int .i64 s] w fun r w' => r = .returned (.int .i64 (waitP now s)) ∧ w' = w := by
  obtain ⟨n1, n2⟩ := hn
  obtain ⟨s1, s2⟩ := hs
  by_cases h : now ≤ s
  · have e : waitP now s = 0 := by unfold waitP; rw [if_pos h]
    rw [e]
    go_enter Try.func21, Try.ntmps21
    go_wp2
    go_ret
    exact ⟨rfl, rfl⟩
  · have e : waitP now s = min (now - s) 9223372036854775807 := by unfold waitP; rw [if_neg h]
    rw [e]
    have h1 : IntKind.u64.wrap (IntKind.u64.wrap now - IntKind.u64.wrap s) = now - s := by
      rw [IntKind.wrap_u64, IntKind.wrap_u64, IntKind.wrap_u64]; omega
    go_enter Try.func21, Try.ntmps21
    go_wp2
    all_goals
      go_ret
      exact ⟨by simp <;> omega, rfl⟩

set_option maxHeartbeats 2000000 in
theorem rwait_any (now s : Int) (w : World) (hn : In64 now) (hs : In64 s) :
    Calls Try.prog 30 #[.int .i64 now, .int .i64 s] w fun r w' => r = .returned (.int .i64 (waitP now s)) ∧ w' = w := by
  obtain ⟨n1, n2⟩ := hn
  obtain ⟨s1, s2⟩ := hs
  by_cases h : now ≤ s
  · have e : waitP now s = 0 := by unfold waitP; rw [if_pos h]
    rw [e]
    go_enter Try.func30, Try.ntmps30
    go_wp2
    go_ret
    exact ⟨rfl, rfl⟩
  · have e : waitP now s = min (now - s) 9223372036854775807 := by unfold waitP; rw [if_neg h]
    rw [e]
    go_enter Try.func30, Try.ntmps30
    go_wp2
    all_goals
      go_ret
      exact ⟨by simp <;> omega, rfl⟩
/-- What counts of a ticket: how many players, its rating, since when. -/
structure Tk where
  n : Nat
  r : Int
  s : Int
deriving DecidableEq
instance : Inhabited Tk := ⟨⟨0, 0, 0⟩⟩
/-- A mode. -/
structure Mo where
  k : Int
  b : Int
  s : Int
  c : Int
  e : Int
abbrev Mo.v (m : Mo) : Value := mV m.k m.b m.s m.c m.e
abbrev Mo.cells (m : Mo) : Array Value := mCells m.k m.b m.s m.c m.e
def Mo.win (m : Mo) (x : Int) : Int := Ytccabdhfnjlbdaa.win m.k m.b m.s m.c m.e x
def Mo.wr (m : Mo) : List UInt8 := wrongM m.k m.b m.s m.c m.e
def rt (x : Int) : Int := min (max x 0) 10000
theorem rt_bd (x : Int) : 0 ≤ rt x ∧ rt x ≤ 10000 := by unfold rt; omega
/-- How far two numbers are apart. -/
def dist (a b : Int) : Int := max a b - min a b

set_option maxHeartbeats 1000000 in
theorem dist_any (a b : Int) (w : World) (ha : -1000000000 ≤ a ∧ a ≤ 1000000000) (hb : -1000000000 ≤ b ∧ b ≤ 1000000000) :
    Calls Try.prog 27 #[.int .i64 a, .int .i64 b] w fun r w' => r = .returned (.int .i64 (dist a b)) ∧ w' = w := by
  obtain ⟨d, hd⟩ : ∃ d, d = dist a b := ⟨_, rfl⟩
  rw [← hd]
  obtain ⟨m, hm⟩ : ∃ m, m = max a b := ⟨_, rfl⟩
  obtain ⟨q, hq⟩ : ∃ q, q = min a b := ⟨_, rfl⟩
  have hdm : d = m - q := by rw [hd, hm, hq]; rfl
  have hm1 : (if a < b then b else a) = m := by rw [hm]; split <;> omega
  have hq1 : (if b < a then b else a) = q := by rw [hq]; split <;> omega
  have hmb : -1000000000 ≤ m ∧ m ≤ 1000000000 := by omega
  have hqb : -1000000000 ≤ q ∧ q ≤ 1000000000 := by omega
  clear hm hq hd
  subst hdm
  go_enter Try.func27, Try.ntmps27
  go_wp2
  go_ret
  exact ⟨rfl, rfl⟩

set_option maxHeartbeats 2000000 in
theorem counts_any (x : Int) (w : World) : Calls Try.prog 25 #[.int .i64 x] w fun r w' => r = .returned (.int .i64 (rt x)) ∧ w' = w := by
  by_cases h1 : x < 0
  · rw [show rt x = 0 by unfold rt; omega]
    go_enter Try.func25, Try.ntmps25
    go_wp2
    go_ret
    exact ⟨rfl, rfl⟩
  · by_cases h2 : 10000 < x
    · rw [show rt x = 10000 by unfold rt; omega]
      go_enter Try.func25, Try.ntmps25
      go_wp2
      go_ret
      exact ⟨rfl, rfl⟩
    · rw [show rt x = x by unfold rt; omega]
      go_enter Try.func25, Try.ntmps25
      go_wp2
      go_ret
      exact ⟨rfl, rfl⟩

set_option maxHeartbeats 2000000 in
theorem rating_any (x : Int) (w : World) : Calls Try.prog 36 #[.int .i64 x] w fun r w' => r = .returned (.int .i64 (rt x)) ∧ w' = w := by
  by_cases h1 : x < 0
  · rw [show rt x = 0 by unfold rt; omega]
    go_enter Try.func36, Try.ntmps36
    go_wp2
    go_ret
    exact ⟨rfl, rfl⟩
  · by_cases h2 : 10000 < x
    · rw [show rt x = 10000 by unfold rt; omega]
      go_enter Try.func36, Try.ntmps36
      go_wp2
      go_ret
      exact ⟨rfl, rfl⟩
    · rw [show rt x = x by unfold rt; omega]
      go_enter Try.func36, Try.ntmps36
      go_wp2
      go_ret
      exact ⟨rfl, rfl⟩
/-- Are two ratings apart by no more than the lesser window? -/
def nearP (a v b u : Int) : Bool := decide (dist (rt a) (rt b) ≤ min v u)
set_option maxHeartbeats 2000000 in
theorem near_any (a v b u : Int) (w : World) : Calls Try.prog 31 #[.int .i64 a, .int .i64 v, .int .i64 b, .int .i64 u] w fun r w' => r = .returned (.bool (nearP a v b u)) ∧ w' = w := by
  unfold nearP
  obtain ⟨X, hX⟩ : ∃ X, X = rt a := ⟨_, rfl⟩
  obtain ⟨Y, hY⟩ : ∃ Y, Y = rt b := ⟨_, rfl⟩
  have hXb := rt_bd a
  have hYb := rt_bd b
  have HA := Lib.hid (rating_any a w)
  have HB := Lib.hid (rating_any b w)
  rw [← hX] at hXb HA ⊢
  rw [← hY] at hYb HB ⊢
  clear hX hY
  by_cases h : dist X Y ≤ min v u
  · rw [decide_eq_true h]
    have h1 : (X - Y < 0 → Y - X ≤ v ∧ Y - X ≤ u) ∧ (¬ X - Y < 0 → X - Y ≤ v ∧ X - Y ≤ u) := by unfold dist at h; omega
    by_cases hn : X - Y < 0
    · obtain ⟨k1, k2⟩ := h1.1 hn
      clear h h1
      go_enter Try.func31, Try.ntmps31
      go_wp2_with fail
      refine HA.out.mono ?_
      rintro r w' ⟨rfl, rfl⟩
      go_wp2_with fail
      refine HB.out.mono ?_
      rintro r w' ⟨rfl, rfl⟩
      go_wp2
      go_ret
      exact ⟨by simp <;> omega, rfl⟩
    · obtain ⟨k1, k2⟩ := h1.2 hn
      clear h h1
      go_enter Try.func31, Try.ntmps31
      go_wp2_with fail
      refine HA.out.mono ?_
      rintro r w' ⟨rfl, rfl⟩
      go_wp2_with fail
      refine HB.out.mono ?_
      rintro r w' ⟨rfl, rfl⟩
      go_wp2
      go_ret
      exact ⟨by simp <;> omega, rfl⟩
  · rw [decide_eq_false h]
    have h1 : (X - Y < 0 → ¬ (Y - X ≤ v ∧ Y - X ≤ u)) ∧ (¬ X - Y < 0 → ¬ (X - Y ≤ v ∧ X - Y ≤ u)) := by unfold dist at h; omega
    clear h
    go_enter Try.func31, Try.ntmps31
    go_wp2_with fail
    refine HA.out.mono ?_
    rintro r w' ⟨rfl, rfl⟩
    go_wp2_with fail
    refine HB.out.mono ?_
    rintro r w' ⟨rfl, rfl⟩
    go_wp2
    all_goals first | (exfalso; omega) | skip
    all_goals
      go_ret
      exact ⟨by simp <;> omega, rfl⟩

end Go.Proofs.Ytccabdhfnjlbdaa
