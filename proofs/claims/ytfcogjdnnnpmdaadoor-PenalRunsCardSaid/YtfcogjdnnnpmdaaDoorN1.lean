/- Penal: numbers; a mark at a time. -/
import Derived.Test.YtfcogjdnnnpmdaaDoorRows
import Derived.WalkKit
import Derived.Below
import Derived.Carry
import Derived.OpenShut
import Derived.WalkSmall
import Derived.Outline
import Derived.BigQuiet
import Derived.Lib.Hide
import Derived.Laws.StructEq
import Derived.OrdersHeld
import Derived.LoopTactic
import Derived.Deep.QuietTactic
import Derived.Deep.RegionLaw
import Derived.Deep.RegionHeld3
import Derived.Deep.DeepCutAuto
import Derived.IntWalk
import Derived.StillTailTactics
namespace Go.Proofs.YtfcogjdnnnpmdaaDoor
open Go.RowKit
set_option maxRecDepth 20000

theorem lt_of_block {w : World} {G : Nat} {o : Obj} (h : w.heap[G]? = some o) : G < w.heap.size := (Array.getElem?_eq_some_iff.1 h).1
theorem ret_int {k : IntKind} {a b : Int} (h : a = b) : Ending.returned (.int k a) = .returned (.int k b) := by rw [h]
theorem uw (x : Int) : IntKind.u64.wrap x = x % 18446744073709551616 := by simp [IntKind.wrap, IntKind.bits, IntKind.signed]
/-- A level that may be. -/
def lvl (n : Int) : Int := if n < 0 then 0 else if 6 < n then 6 else n
theorem lvl_bd (n : Int) : 0 ≤ lvl n ∧ lvl n ≤ 6 := by unfold lvl; split <;> (try split) <;> omega
theorem lvl_id {n : Int} (h0 : 0 ≤ n) (h1 : n ≤ 6) : lvl n = n := by unfold lvl; rw [if_neg (by omega), if_neg (by omega)]
/-- So many ticks between two times. -/
def btw (f t : Int) : Int := if t ≤ f then 0 else t - f
/-- Some ticks later, up to the last moment. -/
def sadd (a d : Int) : Int := if 9223372036854775807 - d < a then 9223372036854775807 else a + d
abbrev inI (x : Int) : Prop := -9223372036854775808 ≤ x ∧ x ≤ 9223372036854775807
abbrev mC (l s u : Int) : Array Value := #[.int .i64 l, .int .i64 s, .int .i64 u]
abbrev mV (l s u : Int) : Value := .agg (mC l s u)
/-- A mark at a time: its level, its since, its until. -/
def dwn (s now : Int) : Int := btw s now / 10000
def atL (l s now : Int) : Int := if dwn s now < lvl l then lvl l - dwn s now else 0
def atS (l s now : Int) : Int := if dwn s now < lvl l then s + dwn s now * 10000 else 0
def atU (l s u now : Int) : Int := if dwn s now < lvl l then u else if u ≤ now then 0 else u

set_option maxHeartbeats 400000 in
theorem level_any (n : Int) (w : World) : Calls Tryd.prog 29 #[.int .i64 n] w fun r w' => r = .returned (.int .i64 (lvl n)) ∧ w' = w := by
  unfold lvl
  by_cases h1 : n < 0
  · rw [if_pos h1]
    go_enter Tryd.func29, Tryd.ntmps29
    go_wp2
    go_ret
    exact ⟨rfl, rfl⟩
  · by_cases h2 : 6 < n
    · rw [if_neg h1, if_pos h2]
      go_enter Tryd.func29, Tryd.ntmps29
      go_wp2
      go_ret
      exact ⟨rfl, rfl⟩
    · rw [if_neg h1, if_neg h2]
      go_enter Tryd.func29, Tryd.ntmps29
      go_wp2
      go_ret
      exact ⟨rfl, rfl⟩
set_option maxHeartbeats 400000 in
theorem tadd_any (a d : Int) (w : World) (ha : inI a) (h0 : 0 ≤ d) (h1 : d ≤ 1000000000) : Calls Tryd.prog 31 #[.int .i64 a, .int .i64 d] w fun r w' => r = .returned (.int .i64 (sadd a d)) ∧ w' = w := by
  obtain ⟨ha1, ha2⟩ := ha
  have hd : ¬ d < 0 := by omega
  have hm : (if d < 0 then 0 else d) = d := by rw [if_neg hd]
  unfold sadd
  by_cases h : 9223372036854775807 - d < a
  · rw [if_pos h]
    go_enter Tryd.func31, Tryd.ntmps31
    go_wp2
    go_ret
    exact ⟨rfl, rfl⟩
  · rw [if_neg h]
    go_enter Tryd.func31, Tryd.ntmps31
    go_wp2
    go_ret
    exact ⟨rfl, rfl⟩
set_option maxHeartbeats 400000 in
theorem radd_any (a d : Int) (w : World) (ha : inI a) (h0 : 1 ≤ d) (h1 : d ≤ 1000000000) : Calls Tryd.prog 30 #[.int .i64 a, .int .i64 d] w fun r w' => r = .returned (.int .i64 (sadd a d)) ∧ w' = w := by
  obtain ⟨ha1, ha2⟩ := ha
  have hd : ¬ d ≤ 0 := by omega
  unfold sadd
  by_cases h : 9223372036854775807 - d < a
  · rw [if_pos h]
    have g1 : 0 < a := by omega
    have g2 : 9223372036854775807 - a < d := by omega
    go_enter Tryd.func30, Tryd.ntmps30
    go_wp2
    go_ret
    exact ⟨rfl, rfl⟩
  · rw [if_neg h]
    by_cases g1 : 0 < a
    · have g2 : ¬ 9223372036854775807 - a < d := by omega
      go_enter Tryd.func30, Tryd.ntmps30
      go_wp2
      go_ret
      exact ⟨rfl, rfl⟩
    · go_enter Tryd.func30, Tryd.ntmps30
      go_wp2
      go_ret
      exact ⟨rfl, rfl⟩
set_option maxHeartbeats 400000 in
theorem between_any (f t : Int) (w : World) (hf : inI f) (ht : inI t) : Calls Tryd.prog 28 #[.int .i64 f, .int .i64 t] w fun r w' => r = .returned (.int .u64 (btw f t)) ∧ w' = w := by
  obtain ⟨hf1, hf2⟩ := hf
  obtain ⟨ht1, ht2⟩ := ht
  unfold btw
  by_cases h : t ≤ f
  · rw [if_pos h]
    go_enter Tryd.func28, Tryd.ntmps28
    go_wp2
    go_ret
    exact ⟨rfl, rfl⟩
  · rw [if_neg h]
    go_enter Tryd.func28, Tryd.ntmps28
    go_wp2
    go_ret
    refine ⟨ret_int ?_, rfl⟩
    show IntKind.u64.wrap (IntKind.u64.wrap t - IntKind.u64.wrap f) = t - f
    rw [uw, uw, uw]
    omega
end Go.Proofs.YtfcogjdnnnpmdaaDoor
