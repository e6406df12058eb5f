/- Rack: what came in. -/
import Derived.Test.YtbilkelbelimjaaK7
import Derived.ProofKit
import Derived.OpenShut
import Derived.Lib.SmallJoins
import Derived.Deep.Slices
namespace Go.Proofs.Ytbilkelbelimjaa
open Go.RowKit Go.ChangeShapes
set_option maxRecDepth 20000

theorem own : ownKnob Try.prog.godebug = Option.none := by kernel_rfl
theorem laidOut : laidOutB Try.prog = true := by kernel_rfl
theorem open_us {H : Type} {enc : TypeId × Value → H} {W : World} {r : Reach} {b0 : Nat} {v : Value} {d : DataW H} {q : List MemPlace} (hv : Value.okWide Try.prog W r b0 46 v) (h : DataW.Trod enc Try.prog W 0 (fun _ => true) true 46 v d q) :
    ∃ (u : Option Addr × Nat) (l : List Nat), v = .slice u.1 l.length u.2 ∧ S32 W (.slice u.1 l.length u.2) l ∧ l.length ≤ 9223372036854775807 ∧ ∀ x ∈ l, x < 4294967296 := by
  obtain ⟨A, n, c, rfl⟩ := WideShapes.okWide_slice Try.underlying46 hv
  obtain ⟨fuel, hf⟩ := h
  have c1 : Try.prog.cellsOf 28 = 1 := by kernel_rfl
  rcases Deep.open_slice1 Try.underlying46 c1 hf with ⟨hcs, _⟩ | ⟨a, len, cap, m, k, V, D, Pl, hcs, _, hl, hm, hmm, _, hx⟩
  · simp [Value.cells] at hcs
    obtain ⟨rfl, rfl, rfl⟩ := hcs
    exact ⟨(none, 0), [], rfl, ⟨none, 0, rfl, fun h => by simp at h⟩, by simp, fun x h => by simp at h⟩
  · simp [Value.cells] at hcs
    obtain ⟨rfl, rfl, rfl⟩ := hcs
    have each : ∀ i, i < n → ∃ x : Nat, x < 4294967296 ∧ W.cell? (a.add i) = some (.int .u32 (x : Int)) := fun i hi => by
      obtain ⟨h1, h2⟩ := hx i (by rw [hmm]; simp; omega)
      obtain ⟨x, e, _, wf⟩ := DataW.trod_int Try.underlying28 h2
      simp only [List.cons.injEq, and_true] at e
      have b := bounds_u32 wf
      refine ⟨x.toNat, by omega, ?_⟩
      rw [h1, e, show ((x.toNat : Nat) : Int) = x by omega]
    obtain ⟨f, hf⟩ := Deep.choose_lt each
    refine ⟨(some a, c), (List.range n).map f, by simp, ⟨_, _, rfl, fun h0 => ?_⟩, by unfold maxLen at hm; simp; omega, fun x hx => ?_⟩
    · simp at h0
      have hc0 := (hf 0 h0).2
      obtain ⟨b, off, spot⟩ := a
      have hspot : spot = none := by simpa [Addr.add] using World.cell?_spot hc0
      subst hspot
      refine ⟨b, off, rfl, World.block_lt_of_cell? W ⟨b, off + 0, none⟩ (by rw [← Go.WideShapes.add_plain]; exact hc0), fun i x hi => ?_⟩
      rw [List.getElem?_map] at hi
      obtain ⟨i', hi', rfl⟩ := Option.map_eq_some_iff.1 hi
      obtain ⟨hin, rfl⟩ := List.getElem?_eq_some_iff.1 hi'
      simp at hin
      simp only [List.getElem_range]
      have := (hf i hin).2
      rw [Go.WideShapes.add_plain] at this
      exact this
    · obtain ⟨i, hi, rfl⟩ := List.mem_map.1 hx
      exact (hf i (List.mem_range.1 hi)).1
end Go.Proofs.Ytbilkelbelimjaa
