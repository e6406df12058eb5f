/- Ledger: the library's sort at uint64, up to twelve: a row of numbers stays a row of numbers. -/
import Derived.Test.YticegnbdpihdpaaL8
import Derived.BigGuard
import Derived.BigCall
import Derived.Deep.Draws
import Derived.Deep.QuietTactic
import Derived.BigQuiet
import Derived.CellFam
namespace Go.Proofs.Yticegnbdpihdpaa
open Go.RowKit
set_option maxRecDepth 20000

/-- A row of n numbers in block g, from o on. -/
def Nums (w : World) (g o n : Nat) : Prop := ∃ cur : Array Value, w.heap[g]? = some (.cells cur 26 (0, 0)) ∧ ∀ i, i < n → ∃ x : Int, cur[o + i]? = some (.int .u64 x)
theorem Nums.same {w w' : World} {g o n : Nat} (h : Nums w g o n) (e : w'.heap = w.heap) : Nums w' g o n := by
  obtain ⟨cur, h1, h2⟩ := h
  exact ⟨cur, by rw [e]; exact h1, h2⟩
theorem Nums.set {w : World} {g o n : Nat} (h : Nums w g o n) (j : Nat) (x : Int) : Nums (w.setCell ⟨g, j, none⟩ (.int .u64 x)) g o n := by
  obtain ⟨cur, h1, h2⟩ := h
  refine ⟨cur.setIfInBounds j (.int .u64 x), by simp [World.setCell, Array.getElem?_modify, h1], fun i hi => ?_⟩
  rw [Array.getElem?_setIfInBounds]
  obtain ⟨y, hy⟩ := h2 i hi
  by_cases e : j = o + i
  · subst e
    have : o + i < cur.size := (Array.getElem?_eq_some_iff.1 hy).1
    exact ⟨x, by simp [this]⟩
  · rw [if_neg e]; exact ⟨y, hy⟩
theorem Nums.cells {w : World} {g o n : Nat} (h : Nums w g o n) : ∃ G : Nat → Int, ∀ i, i < n → w.cell? ⟨g, o + i, none⟩ = some (.int .u64 (G i)) := by
  obtain ⟨cur, h1, h2⟩ := h
  refine ⟨fun i => match cur[o + i]? with | some (.int _ x) => x | _ => 0, fun i hi => ?_⟩
  obtain ⟨x, hx⟩ := h2 i hi
  rw [cell_of_row w g (o + i) _ _ _ h1, hx]
  simp only [hx]
theorem Nums.free {w : World} {g o n : Nat} (h : Nums w g o n) (i : Nat) : w.frozen? ⟨g, i, none⟩ = false := by
  obtain ⟨cur, h1, _⟩ := h
  exact frozen_of_row w g i _ _ h1

theorem nan64 (x : Int) (w : World) : Calls Try.prog 108 #[.int .u64 x] w fun e w' => e = .returned (.bool false) ∧ w' = w := by
  go_enter Try.func108, Try.ntmps108
  go_wp2
  go_ret
  exact ⟨by simp, rfl⟩
theorem less64 (x y : Int) (w : World) : Calls Try.prog 82 #[.int .u64 x, .int .u64 y] w fun e w' => e = .returned (.bool (decide (x < y))) ∧ w' = w := by
  go_enter Try.func82, Try.ntmps82
  go_wp2_with (go_at_call 108; refine (nan64 _ _).mono ?_; rintro e w' ⟨rfl, rfl⟩)
  go_ret
  exact ⟨rfl, rfl⟩
theorem below_drewN {B : Nat} {a w : World} (h : Below B a w) (q : Nat) : Below B a (w.drewN q) := ⟨h.os, h.tape, h.output, h.size, h.block⟩
theorem ins64 (a g o n cap : Nat) (w : World) (hN : Nums w g o n) (ha : a ≤ n) (hsz : n < 4611686018427387904) :
    Calls Try.prog 76 #[.slice (some ⟨g, o, none⟩) n cap, .int .i64 (a : Int), .int .i64 (n : Int)] w fun e w' => e = .returned (.tuple #[]) ∧ Nums w' g o n ∧ Below g w w' := by
  have HN := Lib.hid hN
  clear hN
  go_enter Try.func76, Try.ntmps76
  go_wp2
  go_loopw [6] (fun vi wr => ∃ (i : Nat), vi = .int .i64 (i : Int) ∧ a < i ∧ i ≤ n + 1 ∧ Hid (Nums wr g o n ∧ Below g w wr)) (fun vi _ => n + 1 - (intOf vi).toNat)
  case atStart => exact ⟨a + 1, by go_num, by omega, by omega, HN.out, Below.refl _ _⟩
  case round =>
    obtain ⟨i, rfl, hi0, hin, HV⟩ := hrel
    go_wp2
    · have hlt : i < n := by assumption
      go_loopw [7] (fun vj wr2 => ∃ (j : Nat), vj = .int .i64 (j : Int) ∧ a ≤ j ∧ j ≤ i ∧ Hid (Nums wr2 g o n ∧ Below g w wr2)) (fun vj _ => (intOf vj).toNat)
      case atStart => exact ⟨i, rfl, by omega, Nat.le_refl _, HV⟩
      case round =>
        obtain ⟨j, rfl, haj, hji, HU⟩ := hrel
        obtain ⟨G, hG⟩ := HU.out.1.cells
        have hcw : ∀ t, t < n → wr.cell? ⟨g, o + t, none⟩ = some (.int .u64 (G t)) := hG
        have hfw : ∀ t, t < n → wr.frozen? ⟨g, o + t, none⟩ = false := fun t _ => HU.out.1.free _
        clear hG
        go_wp2
        by_cases hja : a < j
        · go_quiet (first | (go_at_call 82; refine Calls.quiet_of_same (less64 _ _ _)))
          go_wp2
          · go_region
            all_goals go_wp2
            go_roundw
            case rel => exact ⟨j - 1, by congr 1; omega, by omega, by omega, ((HU.out.1.same rfl).set _ _).set _ _, ((below_drewN HU.out.2 _).setCell (Nat.le_refl _) _).setCell (Nat.le_refl _) _⟩
            case measure => simp [intOf]; omega
          · go_roundw
            case rel => exact ⟨i + 1, by go_num, by omega, by omega, HU.out.1.same rfl, below_drewN HU.out.2 _⟩
            case measure => simp [intOf]; omega
        · go_quiet (first | (go_at_call 82; refine Calls.quiet_of_same (less64 _ _ _)))
          go_wp2
          go_roundw
          case rel => exact ⟨i + 1, by go_num, by omega, by omega, HU.out.1.same rfl, below_drewN HU.out.2 _⟩
          case measure => simp [intOf]; omega
    · go_end0
      exact ⟨rfl, HV.out⟩
end Go.Proofs.Yticegnbdpihdpaa
