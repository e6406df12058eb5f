/- session: calls with a connection that is not there. -/
import Derived.Test.YtfgabmjnpjmmgaaOE
import Derived.Test.YtfgabmjnpjmmgaaSD
namespace Go.Proofs.Ytfgabmjnpjmmgaa
open Go.RowKit
set_option maxRecDepth 20000
set_option linter.unusedVariables false

set_option maxHeartbeats 2000000 in
theorem at_none (B T : Nat) (idle most : Int) (ids : List Nat) (ths : List Mk) (x : Nat) (w : World) (h : Tb w B T idle most ids ths) (hl : ids.length ≤ 1000) (hx : x ∉ ids) :
    Calls Try.prog 29 #[.pointer (some ⟨T, 0, none⟩), .int .u32 (x : Int)] w fun r w' => r = .returned (.tuple #[mV 0 0, .bool false]) ∧ Below w.heap.size w w' := by
  obtain ⟨-, R, vi, vt, -, h3, h4⟩ := h
  obtain ⟨w0, hw0⟩ : ∃ w0, w0 = w.alloc (.cells (mC 0 0) 55) := ⟨_, rfl⟩
  have hb0 : Below w.heap.size w w0 := by rw [hw0]; exact (Below.refl _ _).alloc (Nat.le_refl _) _
  have hq0 : w0.heap[w.heap.size]? = some (.cells (mC 0 0) 55 (0, 0)) := by rw [hw0]; exact heap_alloc_new w _
  have c0 := cell_of_row w0 T 0 _ _ _ ((hb0.block T (lt_of_block h3)).trans h3)
  simp at c0
  have HG := Lib.hid (get_none R most vi vt ids ths x w0 (h4.after hb0) hl hx)
  have H0 := Lib.hid hw0
  have HB0 := Lib.hid hb0
  have HQ0 := Lib.hid hq0
  clear h3 h4 hw0 hb0 hq0
  go_enter Try.func29, Try.ntmps29
  go_upto_region 1 with (fail)
  rw [← H0.out]
  go_wp2_with fail
  refine HG.out.mono ?_
  rintro r w1 ⟨rfl, hb1⟩
  have hq1 := (hb1.block _ (lt_of_block HQ0.out)).trans HQ0.out
  have z0 := cell_of_row w1 w.heap.size 0 _ _ _ hq1
  have z1 := cell_of_row w1 w.heap.size 1 _ _ _ hq1
  have zf : ∀ i, w1.frozen? ⟨w.heap.size, i, none⟩ = false := fun i => frozen_of_row w1 _ i _ _ hq1
  simp at z0 z1
  have HT := Lib.hid (three (.int .i64 0) (.int .u32 0) hq1)
  have HTB := Lib.hid (three_below (.int .i64 0) (.int .u32 0) (HB0.out.trans (hb1.mono HB0.out.size)) (Nat.le_refl w.heap.size))
  clear hb1 hq1 c0
  go_wp2
  obtain ⟨e0, e1, _⟩ := HT.out
  exact bodyPost_ret (v := .tuple #[mV 0 0, .bool false]) (by simp [results, Try.results29, go_sem, e0, e1]) rfl ⟨rfl, HTB.out⟩

set_option maxHeartbeats 2000000 in
theorem player_none (B T : Nat) (idle most : Int) (ids : List Nat) (ths : List Mk) (x : Nat) (w : World) (h : Tb w B T idle most ids ths) (hl : ids.length ≤ 1000) (hx : x ∉ ids) : Calls Try.prog 21 #[.pointer (some ⟨T, 0, none⟩), .int .u32 (x : Int)] w fun r w' => r = .returned (.int .u32 0) ∧ Below w.heap.size w w' := by
  have HA := Lib.hid (at_none B T idle most ids ths x w h hl hx)
  clear h hl hx
  go_enter Try.func21, Try.ntmps21
  go_wp2_with fail
  refine HA.out.mono ?_
  rintro r w1 ⟨rfl, hb1⟩
  have HB := Lib.hid (hb1.alloc hb1.size (.cells (mC 0 0) 55))
  clear hb1
  go_wp2
  go_ret
  exact ⟨rfl, HB.out⟩
set_option maxHeartbeats 2000000 in
theorem touch_none (B T : Nat) (idle most : Int) (ids : List Nat) (ths : List Mk) (x : Nat) (now : Int) (w : World) (h : Tb w B T idle most ids ths) (hl : ids.length ≤ 1000) (hx : x ∉ ids) : Calls Try.prog 16 #[.pointer (some ⟨T, 0, none⟩), .int .u32 (x : Int), .int .i64 now] w fun r w' => r = .returned (.int .i64 12) ∧ Below w.heap.size w w' := by
  have HA := Lib.hid (at_none B T idle most ids ths x w h hl hx)
  clear h hl hx
  go_enter Try.func16, Try.ntmps16
  go_wp2_with fail
  refine HA.out.mono ?_
  rintro r w1 ⟨rfl, hb1⟩
  have HB := Lib.hid (hb1.alloc hb1.size (.cells (mC 0 0) 55))
  clear hb1
  go_wp2
  go_ret
  exact ⟨rfl, HB.out⟩
set_option maxHeartbeats 2000000 in
theorem close_none (B T : Nat) (idle most : Int) (ids : List Nat) (ths : List Mk) (x : Nat) (w : World) (h : Tb w B T idle most ids ths) (hl : ids.length ≤ 1000) (hx : x ∉ ids) : Calls Try.prog 14 #[.pointer (some ⟨T, 0, none⟩), .int .u32 (x : Int)] w fun r w' => r = .returned (.tuple #[.int .u32 0, .int .i64 12]) ∧ Below w.heap.size w w' := by
  have HA := Lib.hid (at_none B T idle most ids ths x w h hl hx)
  clear h hl hx
  go_enter Try.func14, Try.ntmps14
  go_wp2_with fail
  refine HA.out.mono ?_
  rintro r w1 ⟨rfl, hb1⟩
  have HB := Lib.hid (hb1.alloc hb1.size (.cells (mC 0 0) 55))
  clear hb1
  go_wp2
  go_ret2
  exact ⟨rfl, HB.out⟩

set_option maxHeartbeats 2000000 in
theorem logout_none (B T : Nat) (idle most : Int) (ids : List Nat) (ths : List Mk) (x : Nat) (w : World) (h : Tb w B T idle most ids ths) (hl : ids.length ≤ 1000) (hx : x ∉ ids) : Calls Try.prog 12 #[.pointer (some ⟨T, 0, none⟩), .int .u32 (x : Int)] w fun r w' => r = .returned (.tuple #[.int .u32 0, .int .i64 12]) ∧ Below w.heap.size w w' := by
  have HA := Lib.hid (at_none B T idle most ids ths x w h hl hx)
  clear h hl hx
  go_enter Try.func12, Try.ntmps12
  go_wp2_with fail
  refine HA.out.mono ?_
  rintro r w1 ⟨rfl, hb1⟩
  have HB := Lib.hid (hb1.alloc hb1.size (.cells (mC 0 0) 55))
  clear hb1
  go_wp2
  go_ret2
  exact ⟨rfl, HB.out⟩

set_option maxHeartbeats 2000000 in
theorem login_none (B T : Nat) (idle most : Int) (ids : List Nat) (ths : List Mk) (x : Nat) (pl : Nat) (now : Int) (w : World) (h : Tb w B T idle most ids ths) (hl : ids.length ≤ 1000) (hx : x ∉ ids) : Calls Try.prog 10 #[.pointer (some ⟨T, 0, none⟩), .int .u32 (x : Int), .int .u32 (pl : Int), .int .i64 now] w fun r w' => r = .returned (.tuple #[.int .u32 0, .int .i64 12]) ∧ Below w.heap.size w w' := by
  have HA := Lib.hid (at_none B T idle most ids ths x w h hl hx)
  clear h hl hx
  go_enter Try.func10, Try.ntmps10
  go_wp2_with fail
  refine HA.out.mono ?_
  rintro r w1 ⟨rfl, hb1⟩
  have HB := Lib.hid (hb1.alloc hb1.size (.cells (mC 0 0) 55))
  clear hb1
  go_wp2
  go_ret2
  exact ⟨rfl, HB.out⟩

end Go.Proofs.Ytfgabmjnpjmmgaa
