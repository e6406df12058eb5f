/- Elo: ratings, scores, what is expected. -/
import Derived.Test.YtlkebffainhfaaaDoorRows
import Derived.WalkKit
import Derived.Below
import Derived.Carry
import Derived.OpenShut
import Derived.WalkSmall
import Derived.Outline
import Derived.BigQuiet
import Derived.Lib.Hide
import Derived.Laws.StructEq
import Derived.OrdersHeld
import Derived.LoopTactic
import Derived.Deep.QuietTactic
import Derived.Deep.RegionLaw
import Derived.Deep.RegionHeld3
import Derived.Deep.DeepCutAuto
import Derived.IntWalk
import Derived.StillTailTactics
namespace Go.Proofs.YtlkebffainhfaaaDoor
open Go.RowKit
set_option maxRecDepth 20000

theorem lt_of_block {w : World} {G : Nat} {o : Obj} (h : w.heap[G]? = some o) : G < w.heap.size := (Array.getElem?_eq_some_iff.1 h).1
/-- The nearest rating. -/
def rt (n : Int) : Int := if n < 0 then 0 else if 10000 < n then 10000 else n
theorem rt_bd (n : Int) : 0 ≤ rt n ∧ rt n ≤ 10000 := by unfold rt; split <;> (try split) <;> omega
theorem rt_id {n : Int} (h0 : 0 ≤ n) (h1 : n ≤ 10000) : rt n = n := by unfold rt; rw [if_neg (by omega), if_neg (by omega)]
def rowZ : List Int := [500, 571, 640, 703, 760, 808, 849, 882, 909, 930, 947, 960, 969, 977, 983, 987, 990]
def rowAt (k : Nat) : Int := rowZ.getD k 0
/-- The place of a difference. -/
def plc (d : Int) : Nat := (min (d / 50) 16).toNat
def expd (a b : Int) : Int := if a < b then 1000 - rowAt (plc (b - a)) else rowAt (plc (a - b))
def Rw (w : World) : Prop := ∀ k, k < 17 → w.cell? ⟨0, k, none⟩ = some (.int .i64 (rowAt k))
theorem Rw.below {w W : World} {B : Nat} (h : Rw w) (hb : Below B w W) (hB : 0 < B) : Rw W := fun k hk => (hb.cell (p := ⟨0, k, none⟩) hB).trans (h k hk)
theorem Rw.drewN {w : World} (h : Rw w) (n : Nat) : Rw (w.drewN n) := fun k hk => h k hk
theorem plc_lt (d : Int) : plc d < 17 := by unfold plc; omega
def scr (r : Int) : Int := if r = 0 then 500 else if r = 1 then 1000 else 0
def isr (r : Int) : Bool := decide (0 ≤ r) && decide (r ≤ 2)

set_option maxHeartbeats 1000000 in
theorem within_any (n : Int) (w : World) : Calls Tryd.prog 23 #[.int .i64 n] w fun r w' => r = .returned (.int .i64 (rt n)) ∧ w' = w := by
  unfold rt
  by_cases h1 : n < 0
  · rw [if_pos h1]
    go_enter Tryd.func23, Tryd.ntmps23
    go_wp2
    go_ret
    exact ⟨rfl, rfl⟩
  · by_cases h2 : 10000 < n
    · rw [if_neg h1, if_pos h2]
      go_enter Tryd.func23, Tryd.ntmps23
      go_wp2
      go_ret
      exact ⟨rfl, rfl⟩
    · rw [if_neg h1, if_neg h2]
      go_enter Tryd.func23, Tryd.ntmps23
      go_wp2
      go_ret
      exact ⟨rfl, rfl⟩

set_option maxHeartbeats 1000000 in
theorem rating_any (n : Int) (w : World) : Calls Tryd.prog 24 #[.int .i64 n] w fun r w' => r = .returned (.int .i64 (rt n)) ∧ w' = w := by
  unfold rt
  by_cases h1 : n < 0
  · rw [if_pos h1]
    go_enter Tryd.func24, Tryd.ntmps24
    go_wp2
    go_ret
    exact ⟨rfl, rfl⟩
  · by_cases h2 : 10000 < n
    · rw [if_neg h1, if_pos h2]
      go_enter Tryd.func24, Tryd.ntmps24
      go_wp2
      go_ret
      exact ⟨rfl, rfl⟩
    · rw [if_neg h1, if_neg h2]
      go_enter Tryd.func24, Tryd.ntmps24
      go_wp2
      go_ret
      exact ⟨rfl, rfl⟩

set_option maxHeartbeats 1000000 in
theorem score_any (n : Int) (w : World) : Calls Tryd.prog 25 #[.int .i64 n] w fun r w' => r = .returned (.tuple #[.int .i64 (scr n), .bool (isr n)]) ∧ w' = w := by
  by_cases h0 : n = 0
  · subst h0
    go_enter Tryd.func25, Tryd.ntmps25
    go_wp2
    go_ret2
    exact ⟨rfl, rfl⟩
  · by_cases h1 : n = 1
    · subst h1
      go_enter Tryd.func25, Tryd.ntmps25
      go_wp2
      go_ret2
      exact ⟨rfl, rfl⟩
    · by_cases h2 : n = 2
      · subst h2
        go_enter Tryd.func25, Tryd.ntmps25
        go_wp2
        go_ret2
        exact ⟨rfl, rfl⟩
      · have e1 : scr n = 0 := by simp [scr, h0, h1]
        have e2 : isr n = false := by unfold isr; simp; omega
        have f0 : (n == 0) = false := by simpa using h0
        have f1 : (n == 1) = false := by simpa using h1
        have f2 : (n == 2) = false := by simpa using h2
        rw [e1, e2]
        clear e1 e2
        go_enter Tryd.func25, Tryd.ntmps25
        go_wp2
        go_ret2
        exact ⟨rfl, rfl⟩

set_option maxHeartbeats 1000000 in
theorem exp_ge (a b : Int) (w : World) (hr : Rw w) (h : rt b ≤ rt a) : Calls Tryd.prog 10 #[.int .i64 a, .int .i64 b] w fun r w' => r = .returned (.int .i64 (rowAt (plc (rt a - rt b)))) ∧ w' = w := by
  obtain ⟨x, hx⟩ : ∃ x, x = rt a := ⟨_, rfl⟩
  obtain ⟨y, hy⟩ : ∃ y, y = rt b := ⟨_, rfl⟩
  have HA : Hid (∀ W, Calls Tryd.prog 23 #[.int .i64 a] W fun r w' => r = .returned (.int .i64 x) ∧ w' = W) := fun W => by rw [hx]; exact within_any a W
  have HB : Hid (∀ W, Calls Tryd.prog 23 #[.int .i64 b] W fun r w' => r = .returned (.int .i64 y) ∧ w' = W) := fun W => by rw [hy]; exact within_any b W
  have hbx := rt_bd a
  have hby := rt_bd b
  rw [← hx] at hbx h ⊢
  rw [← hy] at hby h ⊢
  clear hx hy
  have h0 : decide (x < y) = false := by simp; omega
  obtain ⟨k, hk⟩ : ∃ k, k = plc (x - y) := ⟨_, rfl⟩
  have hk17 : k < 17 := by rw [hk]; exact plc_lt _
  have HR := Lib.hid hr
  have hc := hr k hk17
  rw [← hk]
  clear hr
  by_cases h2 : 16 < (x - y) / 50
  · have hk2 : k = 16 := by rw [hk]; unfold plc; omega
    clear hk
    subst hk2
    go_enter Tryd.func10, Tryd.ntmps10
    go_wp2_with fail
    refine (HA.out _).mono ?_
    rintro e w' ⟨rfl, rfl⟩
    go_wp2_with fail
    refine (HB.out _).mono ?_
    rintro e w' ⟨rfl, rfl⟩
    go_wp2
    go_ret
    exact ⟨rfl, rfl⟩
  · have hk2 : (x - y) / 50 = (k : Int) := by rw [hk]; unfold plc; omega
    clear hk
    go_enter Tryd.func10, Tryd.ntmps10
    go_wp2_with fail
    refine (HA.out _).mono ?_
    rintro e w' ⟨rfl, rfl⟩
    go_wp2_with fail
    refine (HB.out _).mono ?_
    rintro e w' ⟨rfl, rfl⟩
    go_wp2
    go_ret
    exact ⟨rfl, rfl⟩

theorem rowAt_bd (k : Nat) (h : k < 17) : 500 ≤ rowAt k ∧ rowAt k ≤ 990 := by
  have h2 : ∀ k : Fin 17, 500 ≤ rowAt k.1 ∧ rowAt k.1 ≤ 990 := by decide
  exact h2 ⟨k, h⟩
set_option maxHeartbeats 1000000 in
theorem exp_any (a b : Int) (w : World) (hr : Rw w) : Calls Tryd.prog 10 #[.int .i64 a, .int .i64 b] w fun r w' => r = .returned (.int .i64 (expd (rt a) (rt b))) ∧ w' = w := by
  by_cases h : rt b ≤ rt a
  · have e : expd (rt a) (rt b) = rowAt (plc (rt a - rt b)) := by unfold expd; rw [if_neg (by omega)]
    rw [e]
    exact exp_ge a b w hr h
  · have e : expd (rt a) (rt b) = 1000 - rowAt (plc (rt b - rt a)) := by unfold expd; rw [if_pos (by omega)]
    rw [e]
    have hbx := rt_bd a
    have hby := rt_bd b
    have hrb := rowAt_bd _ (plc_lt (rt b - rt a))
    have hia : rt (rt a) = rt a := rt_id hbx.1 hbx.2
    have hib : rt (rt b) = rt b := rt_id hby.1 hby.2
    have HE := exp_ge (rt b) (rt a) w hr (by omega)
    rw [hia, hib] at HE
    clear e hia hib
    have HA : Hid (∀ W, Calls Tryd.prog 23 #[.int .i64 a] W fun r w' => r = .returned (.int .i64 (rt a)) ∧ w' = W) := fun W => within_any a W
    have HB : Hid (∀ W, Calls Tryd.prog 23 #[.int .i64 b] W fun r w' => r = .returned (.int .i64 (rt b)) ∧ w' = W) := fun W => within_any b W
    have h0' : rt a < rt b := by omega
    clear h
    generalize rt a = x at HA HE hbx h0' hrb ⊢
    generalize rt b = y at HB HE hby h0' hrb ⊢
    generalize rowAt (plc (y - x)) = z at HE hrb ⊢
    have HE' := Lib.hid HE
    have h0 : decide (x < y) = true := by simp; omega
    clear HE
    go_enter Tryd.func10, Tryd.ntmps10
    go_wp2_with fail
    refine (HA.out _).mono ?_
    rintro e w' ⟨rfl, rfl⟩
    go_wp2_with fail
    refine (HB.out _).mono ?_
    rintro e w' ⟨rfl, rfl⟩
    go_wp2_with fail
    refine (HE'.out).mono ?_
    rintro e w' ⟨rfl, rfl⟩
    go_wp2
    go_ret
    exact ⟨rfl, rfl⟩
theorem expd_bd (a b : Int) : 10 ≤ expd a b ∧ expd a b ≤ 990 := by
  unfold expd
  split
  · have := rowAt_bd _ (plc_lt (b - a)); omega
  · have := rowAt_bd _ (plc_lt (a - b)); omega
end Go.Proofs.YtlkebffainhfaaaDoor
