/- Ready: who leads; puts and drops, told by parties; a new one. -/
import Derived.Test.YtemjmnpclknfaaaGreatQ5
namespace Go.Proofs.YtemjmnpclknfaaaGreat.P
open Go.RowKit
set_option maxRecDepth 20000
set_option linter.unusedVariables false
set_option linter.unusedSimpArgs false

theorem ins_get {α : Type} (l : List α) (p : Nat) (a : α) (h : p ≤ l.length) (i : Nat) : (l.take p ++ [a] ++ l.drop p)[i]? = if i < p then l[i]? else if i = p then some a else l[i - 1]? := by
  by_cases h1 : i < p
  · rw [if_pos h1, List.append_assoc, List.getElem?_append_left (by rw [List.length_take]; omega), List.getElem?_take, if_pos h1]
  · rw [if_neg h1]
    by_cases h2 : i = p
    · subst h2
      rw [if_pos rfl, List.getElem?_append_left (by simp; omega), List.getElem?_append_right (by rw [List.length_take]; omega), List.length_take, Nat.min_eq_left h]
      simp
    · rw [if_neg h2, List.getElem?_append_right (by simp; omega), List.getElem?_drop]
      congr 1
      simp
      omega
theorem Stp.from {R : Nat} {vi vi' : Value} {w W w' : World} (hR : R ≤ w.heap.size) (hB : Below w.heap.size w W) (h : Stp R vi vi' W w') : Stp R vi vi' w w' := (Stp.of_below hR hB).trans h
end Go.Proofs.YtemjmnpclknfaaaGreat.P
