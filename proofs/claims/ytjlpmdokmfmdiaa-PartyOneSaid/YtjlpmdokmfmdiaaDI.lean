/- Party: the document's invite. -/
import Derived.Test.YtjlpmdokmfmdiaaDH
namespace Go.Proofs.Ytjlpmdokmfmdiaa.P
open Go.RowKit
set_option maxRecDepth 20000
set_option linter.unusedVariables false
set_option linter.unusedSimpArgs false

theorem dright_t (x : Nat) (w : World) (h : okI x) : Calls Try.prog 112 #[.int .u32 (x : Int)] w fun r w' => r = .returned (.bool true) ∧ w' = w := by
  have h1 : (1 : Int) ≤ (x : Int) := by have := h.1; omega
  have h2 : (x : Int) ≤ 2147483647 := by have := h.2; omega
  clear h
  go_enter Try.func112, Try.ntmps112
  go_wp2
  go_ret
  exact ⟨by simp <;> omega, rfl⟩
theorem dright_f (x : Nat) (w : World) (h : ¬ okI x) : Calls Try.prog 112 #[.int .u32 (x : Int)] w fun r w' => r = .returned (.bool false) ∧ w' = w := by
  by_cases h1 : 1 ≤ x
  · have h2 : ¬ ((x : Int) ≤ 2147483647) := by have : ¬ x ≤ 2147483647 := fun hh => h ⟨h1, hh⟩; omega
    have h1' : (1 : Int) ≤ (x : Int) := by omega
    clear h h1
    go_enter Try.func112, Try.ntmps112
    go_wp2
    go_ret
    exact ⟨by simp <;> omega, rfl⟩
  · have h1' : ¬ ((1 : Int) ≤ (x : Int)) := by omega
    clear h h1
    go_enter Try.func112, Try.ntmps112
    go_wp2
    go_ret
    exact ⟨by simp <;> omega, rfl⟩
theorem cnt_le : ∀ (k : Nat) (l : List Nat), (∀ y, 1 ≤ y → y ≤ k → y ∈ l) → k ≤ l.length
  | 0, _, _ => Nat.zero_le _
  | k + 1, l, h => by
    have hm := h (k + 1) (by omega) (Nat.le_refl _)
    have ih := cnt_le k (l.erase (k + 1)) (fun y h1 h2 => (List.mem_erase_of_ne (by omega)).2 (h y h1 (by omega)))
    rw [List.length_erase_of_mem hm] at ih
    have := List.length_pos_of_mem hm
    omega
theorem below_len {l : List Nat} {k : Nat} (h : ∀ y, 1 ≤ y → y ≤ k → y ∈ l) : k ≤ l.length := cnt_le k l h
theorem new_eq {L : List Pt} {x a p : Nat} : putS L ⟨x, a, [a], [p]⟩ = insL L ⟨x, a, [a], [p]⟩ ∧ overB ⟨x, a, [a], [p]⟩ = false := by
  have ho : overB ⟨x, a, [a], [p]⟩ = false := by unfold overB; simp
  refine ⟨?_, ho⟩
  unfold putS
  rw [ho, if_neg Bool.false_ne_true]
  unfold fixP
  rw [if_pos (List.mem_singleton.2 rfl)]
theorem inv_eq {L : List Pt} {g : Pt} {p : Nat} (h : Ok1 g) : putS L ⟨g.id, g.ld, g.mem, g.inv ++ [p]⟩ = insL L { g with inv := g.inv ++ [p] } ∧ overB ⟨g.id, g.ld, g.mem, g.inv ++ [p]⟩ = false := by
  have ho : overB ⟨g.id, g.ld, g.mem, g.inv ++ [p]⟩ = false := by
    unfold overB
    rw [decide_eq_false_iff_not]
    have h1 := h.two
    have h2 := List.length_pos_of_mem h.ld
    show ¬ (g.mem.length + (g.inv ++ [p]).length < 2 ∨ g.mem.length = 0)
    rw [List.length_append]
    omega
  refine ⟨?_, ho⟩
  unfold putS
  rw [ho, if_neg Bool.false_ne_true]
  unfold fixP
  rw [if_pos h.ld]
end Go.Proofs.Ytjlpmdokmfmdiaa.P
