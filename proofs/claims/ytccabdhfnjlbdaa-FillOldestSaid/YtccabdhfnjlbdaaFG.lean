/- Fill: an ask that came in. -/
import Derived.Test.YtccabdhfnjlbdaaFF
import Derived.ProofKit
import Derived.OpenShut
import Derived.Lib.SmallJoins
import Derived.Deep.Slices
namespace Go.Proofs.Ytccabdhfnjlbdaa
open Go.RowKit Go.ChangeShapes
open Go.Joins
set_option maxRecDepth 20000
set_option linter.unusedVariables false

theorem own : ownKnob Try.prog.godebug = Option.none := by kernel_rfl
theorem laidOut : laidOutB Try.prog = true := by kernel_rfl
theorem array8 {α : Type} {cs : Array α} (h : cs.size = 8) : ∃ c0 c1 c2 c3 c4 c5 c6 c7, cs = #[c0, c1, c2, c3, c4, c5, c6, c7] := by
  obtain ⟨l⟩ := cs
  match l, h with
  | [c0, c1, c2, c3, c4, c5, c6, c7], _ => exact ⟨c0, c1, c2, c3, c4, c5, c6, c7, rfl⟩
theorem us_core {H : Type} {enc : TypeId × Value → H} {W : World} {fuel : Nat} {v : Value} {x : DataW H × List MemPlace} (hf : DataW.trod enc Try.prog W 0 (fun _ => true) true fuel 42 [v] = some x) :
    ∃ P n c, v = .slice P n c ∧ Us W W.heap.size P n := by
  have c1 : Try.prog.cellsOf 41 = 1 := by kernel_rfl
  rcases Deep.open_slice1 Try.underlying42 c1 hf with ⟨hcs, _⟩ | ⟨a, len, cap, m, k, V, D, Pl, hcs, _, hl, hm, hmm, _, hx⟩
  · simp at hcs
    exact ⟨none, 0, 0, hcs, fun h => by simp at h⟩
  · simp at hcs
    refine ⟨some a, len, cap, hcs, fun h0 => ?_⟩
    have each : ∀ i, i < len → ∃ x : Int, W.cell? (a.add i) = some (.int .u32 x) := fun i hi => by
      obtain ⟨h1, h2⟩ := hx i (by rw [hmm]; simp; omega)
      obtain ⟨x, e, _, wf⟩ := DataW.trod_int Try.underlying41 h2
      simp only [List.cons.injEq, and_true] at e
      exact ⟨x, by rw [h1, e]⟩
    obtain ⟨z0, hc0⟩ := each 0 h0
    obtain ⟨b, off, spot⟩ := a
    have hspot : spot = none := by simpa [Addr.add] using World.cell?_spot hc0
    subst hspot
    refine ⟨b, off, rfl, World.block_lt_of_cell? W ⟨b, off + 0, none⟩ (by rw [← Go.WideShapes.add_plain]; exact hc0), fun j hj => ?_⟩
    obtain ⟨z, hz⟩ := each j hj
    rw [Go.WideShapes.add_plain] at hz
    exact ⟨z, hz⟩
theorem tk_core {H : Type} {enc : TypeId × Value → H} {W : World} {fuel : Nat} {c0 c1 c2 c3 c4 : Value} {x : DataW H × List MemPlace} (hf : DataW.trod enc Try.prog W 0 (fun _ => true) true fuel 46 [c0, c1, c2, c3, c4] = some x) :
    ∃ (x y : Int) (P : Option Addr) (c : Nat) (t : Tk), c0 = .int .u32 x ∧ c1 = .int .i64 y ∧ c2 = .slice P t.n c ∧ c3 = .int .i64 t.r ∧ c4 = .int .i64 t.s ∧ Us W W.heap.size P t.n ∧ In64 t.r ∧ In64 t.s := by
  obtain ⟨xs, m, _, _, _, hlen, hx⟩ := DataW.trod_struct Try.underlying46 hf
  have k2 : Try.prog.cellsOf 2 = 1 := by kernel_rfl
  have k3 : Try.prog.cellsOf 3 = 1 := by kernel_rfl
  have k41 : Try.prog.cellsOf 41 = 1 := by kernel_rfl
  have k42 : Try.prog.cellsOf 42 = 1 := by kernel_rfl
  match xs, hlen with
  | [y0, y1, y2, y3, y4], _ =>
    have h0 : DataW.trod enc Try.prog W 0 (fun _ => true) true m 41 [c0] = some y0 := by simpa [k41] using hx 0 _ rfl
    have h1 : DataW.trod enc Try.prog W 0 (fun _ => true) true m 3 [c1] = some y1 := by simpa [k41, k3] using hx 1 _ rfl
    have h2 : DataW.trod enc Try.prog W 0 (fun _ => true) true m 42 [c2] = some y2 := by simpa [k41, k3, k42] using hx 2 _ rfl
    have h3 : DataW.trod enc Try.prog W 0 (fun _ => true) true m 3 [c3] = some y3 := by simpa [k41, k3, k42] using hx 3 _ rfl
    have h4 : DataW.trod enc Try.prog W 0 (fun _ => true) true m 2 [c4] = some y4 := by simpa [k41, k3, k42, k2] using hx 4 _ rfl
    obtain ⟨x0, e0, _, _⟩ := DataW.trod_int Try.underlying41 h0
    obtain ⟨x1, e1, _, _⟩ := DataW.trod_int Try.underlying3 h1
    obtain ⟨P, n, c, e2, hu⟩ := us_core h2
    obtain ⟨x3, e3, _, w3⟩ := DataW.trod_int Try.underlying3 h3
    obtain ⟨x4, e4, _, w4⟩ := DataW.trod_int Try.underlying2 h4
    simp only [List.cons.injEq, and_true] at e0 e1 e3 e4
    exact ⟨x0, x1, P, c, ⟨n, x3, x4⟩, e0, e1, e2, e3, e4, hu, bounds_i64 w3, bounds_i64 w4⟩
theorem tix_core {H : Type} {enc : TypeId × Value → H} {W : World} {fuel : Nat} {v : Value} {x : DataW H × List MemPlace} (hf : DataW.trod enc Try.prog W 0 (fun _ => true) true fuel 24 [v] = some x) :
    ∃ (A : Option Addr) (c : Nat) (l : List Tk), v = .slice A l.length c ∧ Tr W W.heap.size A l ∧ l.length ≤ 9223372036854775807 ∧ ∀ t ∈ l, In64 t.r ∧ In64 t.s := by
  have c5 : Try.prog.cellsOf 46 = 5 := by kernel_rfl
  rcases Deep.open_slice Try.underlying24 hf with ⟨hcs, _⟩ | ⟨a, n, cap, m, k, D, Pl, hcs, _, hl, hm, hmm, _, hx⟩
  · simp at hcs
    subst hcs
    exact ⟨none, 0, [], rfl, fun h => by simp at h, by simp, fun t h => by simp at h⟩
  · simp at hcs
    subst hcs
    rw [c5] at hx
    have each : ∀ i, i < n → ∃ t : Tk, ∃ (x y : Int) (P : Option Addr) (c : Nat), (W.cell? (a.add (i * 5)) = some (.int .u32 x) ∧ W.cell? (a.add (i * 5 + 1)) = some (.int .i64 y) ∧ W.cell? (a.add (i * 5 + 2)) = some (.slice P t.n c) ∧ W.cell? (a.add (i * 5 + 3)) = some (.int .i64 t.r) ∧ W.cell? (a.add (i * 5 + 4)) = some (.int .i64 t.s)) ∧ Us W W.heap.size P t.n ∧ In64 t.r ∧ In64 t.s := fun i hi => by
      obtain ⟨cs', h1, h2⟩ := hx i (by rw [hmm]; simp; omega)
      obtain ⟨_, hlen, hcell⟩ := World.cells?_some h1
      match cs', hlen with
      | [c0, c1, c2, c3, c4], _ =>
        obtain ⟨x, y, P, c, t, rfl, rfl, rfl, rfl, rfl, hu, hr, hs⟩ := tk_core h2
        have q0 := hcell 0 (by omega)
        have q1 := hcell 1 (by omega)
        have q2 := hcell 2 (by omega)
        have q3 := hcell 3 (by omega)
        have q4 := hcell 4 (by omega)
        rw [Deep.add_add] at q0 q1 q2 q3 q4
        exact ⟨t, x, y, P, c, ⟨by simpa using q0, by simpa using q1, by simpa using q2, by simpa using q3, by simpa using q4⟩, hu, hr, hs⟩
    obtain ⟨f, hf⟩ := Deep.choose_lt each
    refine ⟨some a, cap, (List.range n).map f, by simp, fun h0 => ?_, by unfold maxLen at hm; simp; omega, fun t ht => ?_⟩
    · simp at h0
      obtain ⟨x0, y0, P0, cp0, ⟨hc0, -⟩, -⟩ := hf 0 h0
      obtain ⟨b, off, spot⟩ := a
      have hspot : spot = none := by simpa [Addr.add] using World.cell?_spot hc0
      subst hspot
      refine ⟨b, off, rfl, World.block_lt_of_cell? W ⟨b, off + 0 * 5, none⟩ (by rw [← Go.WideShapes.add_plain]; exact hc0), fun i t hi => ?_⟩
      rw [List.getElem?_map] at hi
      obtain ⟨i', hi', rfl⟩ := Option.map_eq_some_iff.1 hi
      obtain ⟨hin, rfl⟩ := List.getElem?_eq_some_iff.1 hi'
      simp at hin
      simp only [List.getElem_range]
      obtain ⟨x, y, P, c, ⟨e0, e1, e2, e3, e4⟩, hu, -⟩ := hf i hin
      rw [Go.WideShapes.add_plain] at e0 e1 e2 e3 e4
      exact ⟨x, y, P, c, ⟨e0, by rw [Nat.add_assoc]; exact e1, by rw [Nat.add_assoc]; exact e2, by rw [Nat.add_assoc]; exact e3, by rw [Nat.add_assoc]; exact e4⟩, hu⟩
    · obtain ⟨i, hi, rfl⟩ := List.mem_map.1 ht
      obtain ⟨x, y, P, c, -, hu, hr, hs⟩ := hf i (by simpa using hi)
      exact ⟨hr, hs⟩
theorem rw_core {H : Type} {enc : TypeId × Value → H} {W : World} {fuel : Nat} {c0 c1 c2 c3 : Value} {x : DataW H × List MemPlace} (hf : DataW.trod enc Try.prog W 0 (fun _ => true) true fuel 57 [c0, c1, c2, c3] = some x) :
    ∃ (P : Option Addr) (c : Nat) (t : Rw), c0 = .int .i64 t.t ∧ c1 = .slice P t.n c ∧ c2 = .int .i64 t.r ∧ c3 = .int .i64 t.v ∧ Us W W.heap.size P t.n := by
  obtain ⟨xs, m, _, _, _, hlen, hx⟩ := DataW.trod_struct Try.underlying57 hf
  have k3 : Try.prog.cellsOf 3 = 1 := by kernel_rfl
  have k42 : Try.prog.cellsOf 42 = 1 := by kernel_rfl
  match xs, hlen with
  | [y0, y1, y2, y3], _ =>
    have h0 : DataW.trod enc Try.prog W 0 (fun _ => true) true m 3 [c0] = some y0 := by simpa [k3] using hx 0 _ rfl
    have h1 : DataW.trod enc Try.prog W 0 (fun _ => true) true m 42 [c1] = some y1 := by simpa [k3, k42] using hx 1 _ rfl
    have h2 : DataW.trod enc Try.prog W 0 (fun _ => true) true m 3 [c2] = some y2 := by simpa [k3, k42] using hx 2 _ rfl
    have h3 : DataW.trod enc Try.prog W 0 (fun _ => true) true m 3 [c3] = some y3 := by simpa [k3, k42] using hx 3 _ rfl
    obtain ⟨x0, e0, _, _⟩ := DataW.trod_int Try.underlying3 h0
    obtain ⟨P, n, c, e1, hu⟩ := us_core h1
    obtain ⟨x2, e2, _, _⟩ := DataW.trod_int Try.underlying3 h2
    obtain ⟨x3, e3, _, _⟩ := DataW.trod_int Try.underlying3 h3
    simp only [List.cons.injEq, and_true] at e0 e2 e3
    exact ⟨P, c, ⟨x0, n, x2, x3⟩, e0, e1, e2, e3, hu⟩
theorem rows_core {H : Type} {enc : TypeId × Value → H} {W : World} {fuel : Nat} {v : Value} {x : DataW H × List MemPlace} (hf : DataW.trod enc Try.prog W 0 (fun _ => true) true fuel 25 [v] = some x) :
    ∃ (A : Option Addr) (c : Nat) (l : List Rw), v = .slice A l.length c ∧ Rr W W.heap.size A l ∧ l.length ≤ 9223372036854775807 := by
  have c4 : Try.prog.cellsOf 57 = 4 := by kernel_rfl
  rcases Deep.open_slice Try.underlying25 hf with ⟨hcs, _⟩ | ⟨a, n, cap, m, k, D, Pl, hcs, _, hl, hm, hmm, _, hx⟩
  · simp at hcs
    subst hcs
    exact ⟨none, 0, [], rfl, fun h => by simp at h, by simp⟩
  · simp at hcs
    subst hcs
    rw [c4] at hx
    have each : ∀ i, i < n → ∃ t : Rw, ∃ (P : Option Addr) (c : Nat), (W.cell? (a.add (i * 4)) = some (.int .i64 t.t) ∧ W.cell? (a.add (i * 4 + 1)) = some (.slice P t.n c) ∧ W.cell? (a.add (i * 4 + 2)) = some (.int .i64 t.r) ∧ W.cell? (a.add (i * 4 + 3)) = some (.int .i64 t.v)) ∧ Us W W.heap.size P t.n := fun i hi => by
      obtain ⟨cs', h1, h2⟩ := hx i (by rw [hmm]; simp; omega)
      obtain ⟨_, hlen, hcell⟩ := World.cells?_some h1
      match cs', hlen with
      | [c0, c1, c2, c3], _ =>
        obtain ⟨P, c, t, rfl, rfl, rfl, rfl, hu⟩ := rw_core h2
        have q0 := hcell 0 (by omega)
        have q1 := hcell 1 (by omega)
        have q2 := hcell 2 (by omega)
        have q3 := hcell 3 (by omega)
        rw [Deep.add_add] at q0 q1 q2 q3
        exact ⟨t, P, c, ⟨by simpa using q0, by simpa using q1, by simpa using q2, by simpa using q3⟩, hu⟩
    obtain ⟨f, hf⟩ := Deep.choose_lt each
    refine ⟨some a, cap, (List.range n).map f, by simp, fun h0 => ?_, by unfold maxLen at hm; simp; omega⟩
    simp at h0
    obtain ⟨P0, cp0, ⟨hc0, -⟩, -⟩ := hf 0 h0
    obtain ⟨b, off, spot⟩ := a
    have hspot : spot = none := by simpa [Addr.add] using World.cell?_spot hc0
    subst hspot
    refine ⟨b, off, rfl, World.block_lt_of_cell? W ⟨b, off + 0 * 4, none⟩ (by rw [← Go.WideShapes.add_plain]; exact hc0), fun i t hi => ?_⟩
    rw [List.getElem?_map] at hi
    obtain ⟨i', hi', rfl⟩ := Option.map_eq_some_iff.1 hi
    obtain ⟨hin, rfl⟩ := List.getElem?_eq_some_iff.1 hi'
    simp at hin
    simp only [List.getElem_range]
    obtain ⟨P, c, ⟨e0, e1, e2, e3⟩, hu⟩ := hf i hin
    rw [Go.WideShapes.add_plain] at e0 e1 e2 e3
    exact ⟨P, c, ⟨e0, by rw [Nat.add_assoc]; exact e1, by rw [Nat.add_assoc]; exact e2, by rw [Nat.add_assoc]; exact e3⟩, hu⟩
theorem md_core {H : Type} {enc : TypeId × Value → H} {W : World} {fuel : Nat} {c0 c1 c2 c3 c4 : Value} {x : DataW H × List MemPlace} (hf : DataW.trod enc Try.prog W 0 (fun _ => true) true fuel 23 [c0, c1, c2, c3, c4] = some x) :
    ∃ m : Mo, [c0, c1, c2, c3, c4] = m.cells.toList := by
  obtain ⟨xs, m, _, _, _, hlen, hx⟩ := DataW.trod_struct Try.underlying23 hf
  have k2 : Try.prog.cellsOf 2 = 1 := by kernel_rfl
  have k3 : Try.prog.cellsOf 3 = 1 := by kernel_rfl
  match xs, hlen with
  | [y0, y1, y2, y3, y4], _ =>
    have h0 : DataW.trod enc Try.prog W 0 (fun _ => true) true m 3 [c0] = some y0 := by simpa [k3] using hx 0 _ rfl
    have h1 : DataW.trod enc Try.prog W 0 (fun _ => true) true m 3 [c1] = some y1 := by simpa [k3] using hx 1 _ rfl
    have h2 : DataW.trod enc Try.prog W 0 (fun _ => true) true m 3 [c2] = some y2 := by simpa [k3] using hx 2 _ rfl
    have h3 : DataW.trod enc Try.prog W 0 (fun _ => true) true m 3 [c3] = some y3 := by simpa [k3] using hx 3 _ rfl
    have h4 : DataW.trod enc Try.prog W 0 (fun _ => true) true m 2 [c4] = some y4 := by simpa [k2] using hx 4 _ rfl
    obtain ⟨x0, e0, _, _⟩ := DataW.trod_int Try.underlying3 h0
    obtain ⟨x1, e1, _, _⟩ := DataW.trod_int Try.underlying3 h1
    obtain ⟨x2, e2, _, _⟩ := DataW.trod_int Try.underlying3 h2
    obtain ⟨x3, e3, _, _⟩ := DataW.trod_int Try.underlying3 h3
    obtain ⟨x4, e4, _, _⟩ := DataW.trod_int Try.underlying2 h4
    simp only [List.cons.injEq, and_true] at e0 e1 e2 e3 e4
    subst e0 e1 e2 e3 e4
    exact ⟨⟨x0, x1, x2, x3, x4⟩, rfl⟩
theorem open_ask {H : Type} {enc : TypeId × Value → H} {W : World} {r : Reach} {b0 : Nat} {v : Value} {d : DataW H} {q : List MemPlace} (hv : Value.okWide Try.prog W r b0 27 v) (h : DataW.Trod enc Try.prog W 0 (fun _ => true) true 27 v d q) :
    ∃ (m : Mo) (now : Int) (L A : Option Addr) (cl c : Nat) (l : List Tk) (rows : List Rw), v = .agg (aC m now (.slice L l.length cl) (.slice A rows.length c)) ∧ In64 now ∧ Tr W W.heap.size L l ∧ Rr W W.heap.size A rows ∧ l.length ≤ 9223372036854775807 ∧ rows.length ≤ 9223372036854775807 ∧ ∀ t ∈ l, In64 t.r ∧ In64 t.s := by
  obtain ⟨cs, rfl, hsz⟩ := WideShapes.okWide_struct Try.underlying27 hv
  obtain ⟨c0, c1, c2, c3, c4, c5, c6, c7, rfl⟩ := array8 (hsz.trans (show Try.prog.cellsOf 27 = 8 by kernel_rfl))
  obtain ⟨fuel, hf⟩ := h
  obtain ⟨xs, m, _, _, _, hlen, hx⟩ := DataW.trod_struct Try.underlying27 hf
  have k23 : Try.prog.cellsOf 23 = 5 := by kernel_rfl
  have k2 : Try.prog.cellsOf 2 = 1 := by kernel_rfl
  have k24 : Try.prog.cellsOf 24 = 1 := by kernel_rfl
  have k25 : Try.prog.cellsOf 25 = 1 := by kernel_rfl
  match xs, hlen with
  | [y0, y1, y2, y3], _ =>
    have h0 : DataW.trod enc Try.prog W 0 (fun _ => true) true m 23 [c0, c1, c2, c3, c4] = some y0 := by simpa [Value.cells, k23] using hx 0 _ rfl
    have h1 : DataW.trod enc Try.prog W 0 (fun _ => true) true m 2 [c5] = some y1 := by simpa [Value.cells, k23, k2] using hx 1 _ rfl
    have h2 : DataW.trod enc Try.prog W 0 (fun _ => true) true m 24 [c6] = some y2 := by simpa [Value.cells, k23, k2, k24] using hx 2 _ rfl
    have h3 : DataW.trod enc Try.prog W 0 (fun _ => true) true m 25 [c7] = some y3 := by simpa [Value.cells, k23, k2, k24, k25] using hx 3 _ rfl
    obtain ⟨mo, hm⟩ := md_core h0
    obtain ⟨now, e1, _, wn⟩ := DataW.trod_int Try.underlying2 h1
    obtain ⟨L, cl, l, rfl, hL, hll, hls⟩ := tix_core h2
    obtain ⟨A, c, rows, rfl, hA, hal⟩ := rows_core h3
    simp only [List.cons.injEq, and_true] at hm e1
    obtain ⟨rfl, rfl, rfl, rfl, rfl⟩ := hm
    subst e1
    exact ⟨mo, now, L, A, cl, c, l, rows, rfl, bounds_i64 wn, hL, hA, hll, hal, hls⟩
end Go.Proofs.Ytccabdhfnjlbdaa
