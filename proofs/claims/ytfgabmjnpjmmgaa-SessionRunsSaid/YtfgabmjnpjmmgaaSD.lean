/- Session: without a table. -/
import Derived.Handy
import Derived.Test.YtfgabmjnpjmmgaaSB
namespace Go.Proofs.Ytfgabmjnpjmmgaa
open Go.RowKit
set_option maxRecDepth 20000
set_option linter.unusedVariables false
set_option linter.unusedSimpArgs false


set_option maxHeartbeats 2000000 in
theorem login_nil (x pl now : Int) (w : World) : Calls Try.prog 10 #[.pointer none, .int .u32 x, .int .u32 pl, .int .i64 now] w fun r w' => r = .returned (.tuple #[.int .u32 0, .int .i64 12]) ∧ Below w.heap.size w w' := by
  have HA := Lib.hid (at_nil x w)
  go_enter Try.func10, Try.ntmps10
  go_wp2_with fail
  refine HA.out.mono ?_
  rintro r w1 ⟨rfl, hb1⟩
  have HB := Lib.hid (hb1.alloc hb1.size (.cells (mC 0 0) 55))
  clear hb1
  go_wp2
  go_ret2
  exact ⟨rfl, HB.out⟩

set_option maxHeartbeats 2000000 in
theorem logout_nil (x : Int) (w : World) : Calls Try.prog 12 #[.pointer none, .int .u32 x] w fun r w' => r = .returned (.tuple #[.int .u32 0, .int .i64 12]) ∧ Below w.heap.size w w' := by
  have HA := Lib.hid (at_nil x w)
  go_enter Try.func12, Try.ntmps12
  go_wp2_with fail
  refine HA.out.mono ?_
  rintro r w1 ⟨rfl, hb1⟩
  have HB := Lib.hid (hb1.alloc hb1.size (.cells (mC 0 0) 55))
  clear hb1
  go_wp2
  go_ret2
  exact ⟨rfl, HB.out⟩

set_option maxHeartbeats 2000000 in
theorem close_nil (x : Int) (w : World) : Calls Try.prog 14 #[.pointer none, .int .u32 x] w fun r w' => r = .returned (.tuple #[.int .u32 0, .int .i64 12]) ∧ Below w.heap.size w w' := by
  have HA := Lib.hid (at_nil x w)
  go_enter Try.func14, Try.ntmps14
  go_wp2_with fail
  refine HA.out.mono ?_
  rintro r w1 ⟨rfl, hb1⟩
  have HB := Lib.hid (hb1.alloc hb1.size (.cells (mC 0 0) 55))
  clear hb1
  go_wp2
  go_ret2
  exact ⟨rfl, HB.out⟩

set_option maxHeartbeats 2000000 in
theorem touch_nil (x now : Int) (w : World) : Calls Try.prog 16 #[.pointer none, .int .u32 x, .int .i64 now] w fun r w' => r = .returned (.int .i64 12) ∧ Below w.heap.size w w' := by
  have HA := Lib.hid (at_nil x w)
  go_enter Try.func16, Try.ntmps16
  go_wp2_with fail
  refine HA.out.mono ?_
  rintro r w1 ⟨rfl, hb1⟩
  have HB := Lib.hid (hb1.alloc hb1.size (.cells (mC 0 0) 55))
  clear hb1
  go_wp2
  go_ret
  exact ⟨rfl, HB.out⟩
set_option maxHeartbeats 2000000 in
theorem conn_nil (pl : Int) (w : World) : Calls Try.prog 20 #[.pointer none, .int .u32 pl] w fun r w' => r = .returned (.int .u32 0) ∧ w' = w := by
  have HC := Lib.hid (conns_nil w)
  by_cases h : pl = 0
  · subst h
    go_enter Try.func20, Try.ntmps20
    go_wp2
    go_ret
    exact ⟨rfl, rfl⟩
  · have hb : (pl == 0) = false := by simp [h]
    go_enter Try.func20, Try.ntmps20
    go_wp2_with fail
    refine HC.out.mono ?_
    rintro r w' ⟨rfl, rfl⟩
    go_wp2_with fail
    refine wp_loop_rounds 1 ?_
    rw [rounds_succ]
    go_wp2
    go_ret
    exact ⟨rfl, rfl⟩
set_option maxHeartbeats 2000000 in
theorem idle_nil (now : Int) (w : World) : Calls Try.prog 24 #[.pointer none, .int .i64 now] w fun r w' => r = .returned (.slice none 0 0) ∧ w' = w := by
  have HC := Lib.hid (conns_nil w)
  go_enter Try.func24, Try.ntmps24
  go_wp2_with fail
  refine HC.out.mono ?_
  rintro r w' ⟨rfl, rfl⟩
  go_wp2_with fail
  refine wp_loop_rounds 1 ?_
  rw [rounds_succ]
  go_wp2
  go_ret
  exact ⟨rfl, rfl⟩
theorem len64_nil (w : World) : Calls Try.prog 70 #[.int .u64 0] w fun e w' => (∃ k : Int, e = .returned (.int .i64 k)) ∧ w' = w := by
  go_enter Try.func70, Try.ntmps70
  go_wp2
  go_ret
  exact ⟨⟨_, rfl⟩, rfl⟩
theorem len_nil (w : World) : Calls Try.prog 51 #[.int .u64 0] w fun e w' => (∃ k : Int, e = .returned (.int .i64 k)) ∧ w' = w := by
  have HC := Lib.hid (len64_nil w)
  go_enter Try.func51, Try.ntmps51
  go_wp2_with (go_at_call 70; refine HC.out.mono ?_; rintro e w' ⟨⟨k, rfl⟩, rfl⟩)
  go_ret
  exact ⟨⟨_, rfl⟩, rfl⟩
set_option maxHeartbeats 2000000 in
theorem ins_nil (w : World) : Calls Try.prog 60 #[.slice none 0 0, .int .i64 0, .int .i64 0] w fun r w' => r = .returned (.tuple #[]) ∧ w' = w := by
  go_enter Try.func60, Try.ntmps60
  go_wp2_with fail
  refine wp_loop_rounds 1 ?_
  rw [rounds_succ]
  go_wp2
  go_end0
  exact ⟨rfl, rfl⟩
set_option maxHeartbeats 4000000 in
theorem pdq_nil (k : Int) (w : World) : Calls Try.prog 50 #[.slice none 0 0, .int .i64 0, .int .i64 0, .int .i64 k] w fun r w' => r = .returned (.tuple #[]) ∧ w' = w := by
  have HC := Lib.hid (ins_nil w)
  go_enter Try.func50, Try.ntmps50
  go_wp2_with fail
  refine wp_loop_rounds 1 ?_
  rw [rounds_succ]
  go_wp2_with fail
  refine HC.out.mono ?_
  rintro r w' ⟨rfl, rfl⟩
  go_wp2
  exact bodyPost_ret (v := .tuple #[]) (by simp [results, Try.results50, go_sem]) rfl ⟨rfl, rfl⟩
set_option maxHeartbeats 2000000 in
theorem sort_nil (w : World) : Calls Try.prog 39 #[.slice none 0 0] w fun r w' => r = .returned (.tuple #[]) ∧ w' = w := by
  have HL := Lib.hid (len_nil w)
  have HP : Hid (∀ k, Calls Try.prog 50 #[.slice none 0 0, .int .i64 0, .int .i64 0, .int .i64 k] w fun r w' => r = .returned (.tuple #[]) ∧ w' = w) := fun k => pdq_nil k w
  go_enter Try.func39, Try.ntmps39
  go_wp2_with fail
  refine HL.out.mono ?_
  rintro r w' ⟨⟨k, rfl⟩, rfl⟩
  go_wp2_with fail
  refine (HP.out k).mono ?_
  rintro r w' ⟨rfl, rfl⟩
  go_wp2
  go_end0
  exact ⟨rfl, rfl⟩
set_option maxHeartbeats 2000000 in
theorem players_nil (w : World) : Calls Try.prog 22 #[.pointer none] w fun r w' => r = .returned (.slice none 0 0) ∧ w' = w := by
  have HC := Lib.hid (conns_nil w)
  have HS := Lib.hid (sort_nil w)
  go_enter Try.func22, Try.ntmps22
  go_wp2_with fail
  refine HC.out.mono ?_
  rintro r w' ⟨rfl, rfl⟩
  go_wp2_with fail
  refine wp_loop_rounds 1 ?_
  rw [rounds_succ]
  go_wp2_with fail
  refine HS.out.mono ?_
  rintro r w' ⟨rfl, rfl⟩
  go_wp2
  go_ret
  exact ⟨rfl, rfl⟩
end Go.Proofs.Ytfgabmjnpjmmgaa
