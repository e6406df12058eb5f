/- Plan: within, lasts, keeper and what it keeps. -/
import Derived.Test.YtccabdhfnjlbdaaRows
import Derived.WalkKit
import Derived.Below
import Derived.Carry
import Derived.OpenShut
import Derived.WalkSmall
import Derived.Outline
import Derived.BigQuiet
import Derived.Lib.Hide
import Derived.Laws.StructEq
import Derived.OrdersHeld
import Derived.Deep.RegionLaw
import Derived.Deep.RegionHeld3
import Derived.Deep.DeepCutAuto
namespace Go.Proofs.Ytccabdhfnjlbdaa
open Go.RowKit
set_option maxRecDepth 20000

theorem lt_of_block {w : World} {G : Nat} {o : Obj} (h : w.heap[G]? = some o) : G < w.heap.size := (Array.getElem?_eq_some_iff.1 h).1
/-- What is kept behind one more thing. -/
def kp (s nm : List UInt8) (right : Bool) : List UInt8 := if right = false ∧ s = [] then nm else s
/-- Does a number lie within bounds? -/
def inB (a n b : Int) : Bool := decide (a ≤ n) && decide (n ≤ b)
abbrev sV (l : List UInt8) : Value := .string ⟨l.toArray⟩

set_option maxHeartbeats 1000000 in
theorem within_int (n a b : Int) (w : World) : Calls Try.prog 33 #[.int .i64 n, .int .i64 a, .int .i64 b] w fun r w' => r = .returned (.bool (inB a n b)) ∧ w' = w := by
  by_cases h1 : a ≤ n <;> by_cases h2 : n ≤ b <;>
  (go_enter Try.func33, Try.ntmps33
   go_wp2
   go_ret
   simp [inB, h1, h2])

set_option maxHeartbeats 1000000 in
theorem within_64 (n a b : Int) (w : World) : Calls Try.prog 38 #[.int .i64 n, .int .i64 a, .int .i64 b] w fun r w' => r = .returned (.bool (inB a n b)) ∧ w' = w := by
  by_cases h1 : a ≤ n <;> by_cases h2 : n ≤ b <;>
  (go_enter Try.func38, Try.ntmps38
   go_wp2
   go_ret
   simp [inB, h1, h2])

set_option maxHeartbeats 1000000 in
theorem lasts_any (n : Int) (w : World) : Calls Try.prog 34 #[.int .i64 n] w fun r w' => r = .returned (.bool (inB 1 n 1099511627776)) ∧ w' = w := by
  go_enter Try.func34, Try.ntmps34
  go_wp2_with fail
  refine (within_64 n 1 1099511627776 w).mono ?_
  rintro e w1 ⟨rfl, rfl⟩
  go_wp2
  go_ret
  exact ⟨rfl, rfl⟩

set_option maxHeartbeats 1000000 in
theorem keeper_any (B : Nat) (w : World) : Calls Try.prog 32 #[.pointer (some ⟨B, 0, none⟩)] w fun r w' => r = .returned (.func (.func 37) #[] #[.pointer (some ⟨w.heap.size, 0, none⟩)]) ∧ w' = w.alloc (.cells #[.pointer (some ⟨B, 0, none⟩)] 69) := by
  have hmf : ∀ (fn : Fn) (first cap : Array Value) (w : World), (Instr.makeFunc fn first cap).run Try.prog w = .ok (.func fn first cap) w := fun _ _ _ _ => rfl
  go_enter Try.func32, Try.ntmps32
  go_wp2
  go_ret
  exact ⟨rfl, rfl⟩

/-- What is kept lies in block B, the closure's variable in C. -/
def Kps (B C : Nat) (s : List UInt8) (w W : World) : Prop := Below B w W ∧ W.heap[B]? = some (.cells #[sV s] 9 (0, 0)) ∧ W.heap[C]? = some (.cells #[.pointer (some ⟨B, 0, none⟩)] 69 (0, 0))

set_option maxHeartbeats 1000000 in
theorem keep_any (nm : List UInt8) (right : Bool) (B C : Nat) (s : List UInt8) (w0 w : World) (h : Kps B C s w0 w) :
    Calls Try.prog 37 #[sV nm, .bool right, .pointer (some ⟨C, 0, none⟩)] w fun r w' => r = .returned (.tuple #[]) ∧ Kps B C (kp s nm right) w0 w' := by
  obtain ⟨hb, h1, h2⟩ := h
  have c1 := cell_of_one h1
  have c2 := cell_of_one h2
  have f1 := free_of_one h1
  have hne : C ≠ B := fun e => by subst e; rw [h1] at h2; simp at h2
  cases right
  · by_cases hs : s = []
    · subst hs
      go_enter Try.func37, Try.ntmps37
      go_wp2
      go_end0
      exact ⟨rfl, hb.setCell (Nat.le_refl _) _, one_setCell h1, (Below.heap_setCell _ _ _ _ hne).trans h2⟩
    · have he : s.isEmpty = false := by cases s with
        | nil => exact absurd rfl hs
        | cons a l => rfl
      go_enter Try.func37, Try.ntmps37
      go_wp2
      go_end0
      exact ⟨rfl, hb, by simpa [kp, hs] using h1, h2⟩
  · go_enter Try.func37, Try.ntmps37
    go_wp2
    go_end0
    exact ⟨rfl, hb, h1, h2⟩
end Go.Proofs.Ytccabdhfnjlbdaa
