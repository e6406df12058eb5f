/- Ledger: the library's sort at uint64, up to twelve. -/
import Derived.Test.YticegnbdpihdpaaL9
namespace Go.Proofs.Yticegnbdpihdpaa
open Go.RowKit
set_option maxRecDepth 20000

theorem len64 (x : Nat) (hx : x < 13) (w : World) : Calls Try.prog 86 #[.int .u64 (x : Int)] w fun e w' => (∃ k : Int, e = .returned (.int .i64 k)) ∧ w' = w := by
  have : x = 0 ∨ x = 1 ∨ x = 2 ∨ x = 3 ∨ x = 4 ∨ x = 5 ∨ x = 6 ∨ x = 7 ∨ x = 8 ∨ x = 9 ∨ x = 10 ∨ x = 11 ∨ x = 12 := by omega
  rcases this with rfl | rfl | rfl | rfl | rfl | rfl | rfl | rfl | rfl | rfl | rfl | rfl | rfl <;>
  · go_enter Try.func86, Try.ntmps86
    go_wp2
    go_ret
    exact ⟨⟨_, rfl⟩, rfl⟩
theorem len65 (x : Nat) (hx : x < 13) (w : World) : Calls Try.prog 65 #[.int .u64 (x : Int)] w fun e w' => (∃ k : Int, e = .returned (.int .i64 k)) ∧ w' = w := by
  have HC := Lib.hid (len64 x hx w)
  go_enter Try.func65, Try.ntmps65
  go_wp2_with (go_at_call 86; refine HC.out.mono ?_; rintro e w' ⟨⟨k, rfl⟩, rfl⟩)
  go_ret
  exact ⟨⟨_, rfl⟩, rfl⟩
end Go.Proofs.Yticegnbdpihdpaa
