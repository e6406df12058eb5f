/- However bytes are cut into parts: ShaParts returns true for every input. -/
import Derived.Test.YtaefgieodehceaaDoorSD
namespace Go.Proofs.YtaefgieodehceaaDoor.Sha
set_option maxRecDepth 4000
open Go.RowKit

theorem flat_few {ps : List (List UInt8)} (h : ∀ p ∈ ps, p.length ≤ 200) : ps.flatten.length ≤ 200 * ps.length := by
  induction ps with
  | nil => simp
  | cons p ps ih =>
    have h1 := h p (by simp)
    have h2 := ih (fun q hq => h q (by simp [hq]))
    rw [List.flatten_cons, List.length_append, List.length_cons]
    omega
theorem few_flat {ps : List (List UInt8)} (h : fewB ps = true) : ps.flatten.length ≤ 4000 := by
  unfold fewB at h
  rw [decide_eq_true_iff] at h
  have := flat_few h.1
  have := h.2
  omega
theorem ps_one {w : World} {H : Nat} {v : Value} {p : List UInt8} (h : Px w H v p) (hH : H < w.heap.size) (t : TypeId) : Ps (w.alloc (.cells #[v] t)) H (.slice (some ⟨w.heap.size, 0, none⟩) 1 1) [p] :=
  ⟨_, 1, rfl, by simp, fun _ => ⟨w.heap.size, 0, rfl, by omega, by simp, fun j hj => by
    obtain rfl : j = 0 := by simpa using hj
    exact ⟨v, by rw [cell_of_row _ _ _ _ _ _ (heap_alloc_new w _)]; rfl, h.grown (grownBy_alloc' w _ H)⟩⟩⟩
theorem flat_one (p : List UInt8) : [p].flatten = p := by simp
theorem own_above {w : World} {H : Nat} {v : Value} {n : Nat} {xs : List Value} (h : w.ownsRow (H + 1) 5 1 v n xs) : v.ownBlock = none ∨ v.ownBlock ≠ some H := by
  cases hv : v.ownBlock with
  | none => exact .inl rfl
  | some k => exact .inr (fun e => by have := (h.lt k hv).1; injection e with e; omega)
theorem ish_kept {w w' : World} {H : Nat} {l : List UInt8} {v : Value} {n : Nat} {xs : List Value} (h : IsH w H l) (ho : w.ownsRow (H + 1) 5 1 v n xs) (hg : w.grownBy w' v.ownBlock) : IsH w' H l :=
  IsHM.kept h (hg.block H (IsHM.lt h) (fun e => by have := (ho.lt H e.symm).1; omega))
theorem below_own {H : Nat} {a w w' : World} {v : Value} {n : Nat} {xs : List Value} (hb : Below a.heap.size a w) (ho : w.ownsRow (H + 1) 5 1 v n xs) (hg : w.grownBy w' v.ownBlock) (hH : a.heap.size ≤ H) : Below a.heap.size a w' :=
  hb.trans ⟨hg.os, hg.tape, hg.output, hg.size, fun k hk => hg.block k (Nat.lt_of_lt_of_le hk hb.size) (fun e => by have := (ho.lt k e.symm).1; omega)⟩

theorem own_form {w : World} {base : Nat} {v : Value} {l : List UInt8} (h : w.ownsRow base 5 1 v l.length (bv l)) : ∃ A n c, v = .slice A n c := by
  obtain ⟨A, c, e, _⟩ := own_pb h
  exact ⟨A, _, c, e⟩

end Go.Proofs.YtaefgieodehceaaDoor.Sha
