/- Draft: Wait; entries. -/
import Derived.Test.YtnloikdfbdpilaaDA
namespace Go.Proofs.Ytnloikdfbdpilaa
open Go.RowKit
set_option maxRecDepth 20000

def In64 (x : Int) : Prop := -9223372036854775808 ≤ x ∧ x ≤ 9223372036854775807
/-- How long a ticket has waited. -/
def waitP (now s : Int) : Int := if now ≤ s then 0 else min (now - s) 9223372036854775807
theorem wait_bd (now s : Int) : 0 ≤ waitP now s ∧ waitP now s ≤ 9223372036854775807 := by unfold waitP; split <;> omega

set_option maxHeartbeats 2000000 in
theorem wait_any (now s : Int) (w : World) (hn : In64 now) (hs : In64 s) :
    Calls Try.prog 10 #[.int .i64 now, .int .i64 s] w fun r w' => r = .returned (.int .i64 (waitP now s)) ∧ w' = w := by
  obtain ⟨n1, n2⟩ := hn
  obtain ⟨s1, s2⟩ := hs
  by_cases h : now ≤ s
  · have e : waitP now s = 0 := by unfold waitP; rw [if_pos h]
    rw [e]
    go_enter Try.func10, Try.ntmps10
    go_wp2
    go_ret
    exact ⟨rfl, rfl⟩
  · have e : waitP now s = min (now - s) 9223372036854775807 := by unfold waitP; rw [if_neg h]
    rw [e]
    have h1 : IntKind.u64.wrap (IntKind.u64.wrap now - IntKind.u64.wrap s) = now - s := by
      rw [IntKind.wrap_u64, IntKind.wrap_u64, IntKind.wrap_u64]; omega
    go_enter Try.func10, Try.ntmps10
    go_wp2
    all_goals
      go_ret
      exact ⟨by simp <;> omega, rfl⟩

set_option maxHeartbeats 2000000 in
theorem rwait_any (now s : Int) (w : World) (hn : In64 now) (hs : In64 s) :
    Calls Try.prog 11 #[.int .i64 now, .int .i64 s] w fun r w' => r = .returned (.int .i64 (waitP now s)) ∧ w' = w := by
  obtain ⟨n1, n2⟩ := hn
  obtain ⟨s1, s2⟩ := hs
  by_cases h : now ≤ s
  · have e : waitP now s = 0 := by unfold waitP; rw [if_pos h]
    rw [e]
    go_enter Try.func11, Try.ntmps11
    go_wp2
    go_ret
    exact ⟨rfl, rfl⟩
  · have e : waitP now s = min (now - s) 9223372036854775807 := by unfold waitP; rw [if_neg h]
    rw [e]
    go_enter Try.func11, Try.ntmps11
    go_wp2
    all_goals
      go_ret
      exact ⟨by simp <;> omega, rfl⟩
end Go.Proofs.Ytnloikdfbdpilaa
