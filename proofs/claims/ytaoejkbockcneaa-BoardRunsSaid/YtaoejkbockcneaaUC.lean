/- Board: acts that came in; BoardKnows, with the sort. -/
import Derived.Test.YtaoejkbockcneaaUA
import Derived.Test.YtaoejkbockcneaaUB
import Derived.Test.YtaoejkbockcneaaU6
import Derived.Deep.Strs
namespace Go.Proofs.Ytaoejkbockcneaa.Bd
open Go.RowKit Go.ChangeShapes Go.Joins
set_option maxRecDepth 20000
set_option linter.unusedVariables false

theorem laidOut : laidOutB Try.prog = true := by kernel_rfl
theorem open_acts3 {H : Type} {enc : TypeId × Value → H} {W : World} {r : Reach} {b0 : Nat} {v : Value} {d : DataW H} {q : List MemPlace} (hv : Value.okWide Try.prog W r b0 57 v) (h : DataW.Trod enc Try.prog W 0 (fun _ => true) true 57 v d q) :
    ∃ (u : Option Addr × Nat) (l : List Ac3), v = .slice u.1 l.length u.2 ∧ As3 W W.heap.size u.1 l ∧ l.length ≤ 9223372036854775807 ∧ ∀ e ∈ l, e.2.1 < 4294967296 := by
  obtain ⟨A, n, c, rfl⟩ := WideShapes.okWide_slice Try.underlying57 hv
  obtain ⟨fuel, hf⟩ := h
  have c4 : Try.prog.cellsOf 62 = 3 := by kernel_rfl
  have k4 : Try.prog.cellsOf 4 = 1 := by kernel_rfl
  have k3 : Try.prog.cellsOf 3 = 1 := by kernel_rfl
  have k26 : Try.prog.cellsOf 26 = 1 := by kernel_rfl
  rcases Deep.open_slice Try.underlying57 hf with ⟨hcs, _⟩ | ⟨a, len, cap, m, k, D, Pl, hcs, _, hl, hm, hmm, _, hx⟩
  · simp [Value.cells] at hcs
    obtain ⟨rfl, rfl, rfl⟩ := hcs
    exact ⟨(none, 0), [], rfl, fun h => by simp at h, by simp, fun e he => by cases he⟩
  · simp [Value.cells] at hcs
    obtain ⟨rfl, rfl, rfl⟩ := hcs
    rw [c4] at hx
    have each : ∀ i, i < n → ∃ e : Ac3, e.2.1 < 4294967296 ∧ W.cell? (a.add (i * 3)) = some (.bool e.1) ∧ W.cell? (a.add (i * 3 + 1)) = some (.int .u32 (e.2.1 : Int)) ∧ W.cell? (a.add (i * 3 + 2)) = some (.int .i64 e.2.2) := fun i hi => by
      obtain ⟨cs', h1, h2⟩ := hx i (by rw [hmm]; simp; omega)
      obtain ⟨_, hlen, hcell⟩ := World.cells?_some h1
      match cs', hlen with
      | [c0, c1, c2], _ =>
        obtain ⟨y0, y1, y2, m', _, _, g0, g1, g2⟩ := Deep.trod_struct3 Try.underlying62 h2
        have g0 : DataW.trod enc Try.prog W 0 (fun _ => true) true m' 4 [c0] = some y0 := by simpa [k4] using g0
        have g1 : DataW.trod enc Try.prog W 0 (fun _ => true) true m' 26 [c1] = some y1 := by simpa [k26] using g1
        have g2 : DataW.trod enc Try.prog W 0 (fun _ => true) true m' 3 [c2] = some y2 := by simpa [k3] using g2
        obtain ⟨x0, e0, _⟩ := DataW.trod_bool Try.underlying4 g0
        obtain ⟨x1, e1, _, w1⟩ := DataW.trod_int Try.underlying26 g1
        obtain ⟨x2, e2, _, w2⟩ := DataW.trod_int Try.underlying3 g2
        simp only [List.cons.injEq, and_true] at e0 e1 e2
        subst e0 e1 e2
        have b2 := bounds_u32 w1
        have q0 := hcell 0 (by omega)
        have q1 := hcell 1 (by omega)
        have q2 := hcell 2 (by omega)
        rw [Deep.add_add] at q0 q1 q2
        refine ⟨(x0, x1.toNat, x2), by simp only; omega, ?_, ?_, ?_⟩
        · simpa using q0
        · simpa [show (x1.toNat : Int) = x1 by omega] using q1
        · simpa using q2
    obtain ⟨f, hf⟩ := Deep.choose_lt each
    refine ⟨(some a, c), (List.range n).map f, by simp, fun h0 => ?_, by unfold maxLen at hm; simp; omega, fun e he => ?_⟩
    · simp at h0
      have hc0 := (hf 0 h0).2.1
      obtain ⟨b, off, spot⟩ := a
      have hspot : spot = none := by simpa [Addr.add] using World.cell?_spot hc0
      subst hspot
      refine ⟨b, off, rfl, World.block_lt_of_cell? W ⟨b, off + 0 * 3, none⟩ (by rw [← Go.WideShapes.add_plain]; exact hc0), fun i e he => ?_⟩
      rw [List.getElem?_map] at he
      obtain ⟨i', hi', rfl⟩ := Option.map_eq_some_iff.1 he
      obtain ⟨hin, rfl⟩ := List.getElem?_eq_some_iff.1 hi'
      simp at hin
      simp only [List.getElem_range]
      have hq := (hf i hin).2
      rw [Go.WideShapes.add_plain, Go.WideShapes.add_plain, Go.WideShapes.add_plain] at hq
      exact ⟨hq.1, by rw [Nat.add_assoc]; exact hq.2.1, by rw [Nat.add_assoc]; exact hq.2.2⟩
    · obtain ⟨i, hi, rfl⟩ := List.mem_map.1 he
      exact (hf i (List.mem_range.1 hi)).1
theorem knows_any (u : Option Addr × Nat) (acts : List Ac3) (q : Nat) (w : World) (hs : As3 w w.heap.size u.1 acts) (hl : acts.length ≤ 9223372036854775807) (hwf : ∀ e ∈ acts, e.2.1 < 4294967296) (hq : q < 4294967296) :
    Calls Try.prog 10 #[.slice u.1 acts.length u.2, .int .u32 (q : Int)] w fun r w' => r = .returned (.bool true) ∧ Below w.heap.size w w' := knows_walk (Lib.hid sortOk) u acts q w hs hl hwf hq
end Go.Proofs.Ytaoejkbockcneaa.Bd
