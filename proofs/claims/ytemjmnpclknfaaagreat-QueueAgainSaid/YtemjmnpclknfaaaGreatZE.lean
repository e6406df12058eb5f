/- Sort: plain facts on the sorted row. -/
import Derived.Test.YtemjmnpclknfaaaGreatZC
namespace Go.Proofs.YtemjmnpclknfaaaGreat.Z
set_option linter.unusedVariables false

theorem sortedN_perm (l : List Nat) : (sortedN l).Perm l := List.mergeSort_perm l _
theorem sortedN_mem (l : List Nat) (x : Nat) : x ∈ sortedN l ↔ x ∈ l := (sortedN_perm l).mem_iff
theorem sortedN_le (l : List Nat) : (sortedN l).Pairwise (fun x y => x ≤ y) := by
  have h := List.pairwise_mergeSort (le := fun x y => !ltN y x) (fun a b c h1 h2 => by simp [ltN] at *; omega) (fun a b => by simp [ltN]; omega) l
  exact h.imp (fun h => by simp [ltN] at h; exact h)
theorem sortedN_lt (l : List Nat) (hn : l.Nodup) : (sortedN l).Pairwise (fun x y => x < y) := by
  have h2 : (sortedN l).Nodup := (sortedN_perm l).nodup_iff.2 hn
  exact ((sortedN_le l).and h2).imp (fun ⟨h1, h3⟩ => by omega)
theorem sortedN_next (l : List Nat) (hn : l.Nodup) (k x y : Nat) (hx : (sortedN l)[k]? = some x) (hy : (sortedN l)[k + 1]? = some y) : x < y := by
  obtain ⟨h1, rfl⟩ := List.getElem?_eq_some_iff.1 hx
  obtain ⟨h2, rfl⟩ := List.getElem?_eq_some_iff.1 hy
  exact List.pairwise_iff_getElem.1 (sortedN_lt l hn) k (k + 1) h1 h2 (by omega)
end Go.Proofs.YtemjmnpclknfaaaGreat.Z
