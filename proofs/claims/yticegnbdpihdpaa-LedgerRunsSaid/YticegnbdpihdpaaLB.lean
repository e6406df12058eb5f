/- Ledger: the library's sort at uint64, up to twelve: slices.Sort. -/
import Derived.Test.YticegnbdpihdpaaLA
namespace Go.Proofs.Yticegnbdpihdpaa
open Go.RowKit
set_option maxRecDepth 20000

theorem pdq64 (g o n cap : Nat) (lim : Int) (w : World) (hN : Nums w g o n) (h12 : n ≤ 12) :
    Calls Try.prog 64 #[.slice (some ⟨g, o, none⟩) n cap, .int .i64 0, .int .i64 (n : Int), .int .i64 lim] w fun e w' => e = .returned (.tuple #[]) ∧ Nums w' g o n ∧ Below g w w' := by
  have h : Calls Try.prog 76 #[.slice (some ⟨g, o, none⟩) n cap, .int .i64 0, .int .i64 (n : Int)] w fun e w' => e = .returned (.tuple #[]) ∧ Nums w' g o n ∧ Below g w w' := ins64 0 g o n cap w hN (Nat.zero_le _) (by omega)
  have HC := Lib.hid h
  have t : decide ((n : Int) ≤ 12) = true := by rw [decide_eq_true_iff]; omega
  clear h hN
  go_enter Try.func64, Try.ntmps64
  go_wp2
  refine wp_loop_rounds 1 ?_
  rw [rounds_succ]
  go_wp2_with (go_at_call 76; refine HC.out.mono ?_; rintro e w' ⟨rfl, hw⟩)
  (try simp only [Exit.inBlock, Exit.then])
  refine bodyPost_ret (results_none rfl _ _ _) rfl ?_
  exact ⟨rfl, hw⟩
theorem sort64 (g o n cap : Nat) (w : World) (hN : Nums w g o n) (h12 : n ≤ 12) :
    Calls Try.prog 46 #[.slice (some ⟨g, o, none⟩) n cap] w fun e w' => e = .returned (.tuple #[]) ∧ Nums w' g o n ∧ Below g w w' := by
  have HP := Lib.hid fun lim => pdq64 g o n cap lim w hN h12
  have HL := Lib.hid (len65 n (by omega) w)
  clear hN
  go_enter Try.func46, Try.ntmps46
  go_wp2_with (first | (go_at_call 65; refine HL.out.mono ?_; rintro e w' ⟨⟨k, rfl⟩, rfl⟩) | (go_at_call 64; refine (HP.out _).mono ?_; rintro e w' ⟨rfl, hw⟩))
  go_end0
  exact ⟨rfl, hw⟩
theorem ins64_nil (w : World) : Calls Try.prog 76 #[.slice none 0 0, .int .i64 0, .int .i64 0] w fun e w' => e = .returned (.tuple #[]) ∧ w' = w := by
  go_enter Try.func76, Try.ntmps76
  go_wp2
  refine wp_loop_rounds 1 ?_
  rw [rounds_succ]
  go_wp2
  go_end0
  exact ⟨rfl, rfl⟩
theorem pdq64_nil (lim : Int) (w : World) : Calls Try.prog 64 #[.slice none 0 0, .int .i64 0, .int .i64 0, .int .i64 lim] w fun e w' => e = .returned (.tuple #[]) ∧ w' = w := by
  go_enter Try.func64, Try.ntmps64
  go_wp2
  refine wp_loop_rounds 1 ?_
  rw [rounds_succ]
  go_wp2_with (go_at_call 76; refine (ins64_nil _).mono ?_; rintro e w' ⟨rfl, rfl⟩)
  (try simp only [Exit.inBlock, Exit.then])
  refine bodyPost_ret (results_none rfl _ _ _) rfl ?_
  exact ⟨rfl, rfl⟩
theorem sort64_nil (w : World) : Calls Try.prog 46 #[.slice none 0 0] w fun e w' => e = .returned (.tuple #[]) ∧ w' = w := by
  have HL : Hid (Calls Try.prog 65 #[.int .u64 0] w fun e w' => (∃ k : Int, e = .returned (.int .i64 k)) ∧ w' = w) := len65 0 (by omega) w
  go_enter Try.func46, Try.ntmps46
  go_wp2_with (first | (go_at_call 65; refine HL.out.mono ?_; rintro e w' ⟨⟨k, rfl⟩, rfl⟩) | (go_at_call 64; refine (pdq64_nil _ _).mono ?_; rintro e w' ⟨rfl, rfl⟩))
  go_end0
  exact ⟨rfl, rfl⟩
end Go.Proofs.Yticegnbdpihdpaa
