/- Ready: acts that came in. -/
import Derived.Test.YtemjmnpclknfaaaQC
namespace Go.Proofs.Ytemjmnpclknfaaa.P
open Go.RowKit Go.Maps Go.ChangeShapes
open Go.Joins
set_option maxRecDepth 20000
set_option linter.unusedVariables false
set_option linter.unusedSimpArgs false

theorem nums_of {H : Type} {enc : TypeId × Value → H} {W : World} {m : Nat} {c0 : Value} {y0 : DataW H × List MemPlace} (h : DataW.trod enc Try.prog W 0 (fun _ => true) true m 27 [c0] = some y0) :
    ∃ (A : Option Addr) (c : Nat) (l : List Nat), c0 = .slice A l.length c ∧ Rn W A l ∧ l.length ≤ 9223372036854775807 ∧ l.length ≤ c ∧ ∀ e ∈ l, e < 4294967296 := by
  have k26 : Try.prog.cellsOf 26 = 1 := by kernel_rfl
  rcases Deep.open_slice Try.underlying27 h with ⟨hcs, _⟩ | ⟨a, n, c, m, k, D, Pl, hcs, _, hl, hm, hmm, _, hx⟩
  · simp at hcs
    subst hcs
    exact ⟨none, 0, [], rfl, fun h => by simp at h, by simp, by simp, fun e he => by cases he⟩
  · simp at hcs
    subst hcs
    rw [k26] at hx
    have each : ∀ i, i < n → ∃ e : Nat, e < 4294967296 ∧ W.cell? (a.add (i * 1)) = some (.int .u32 (e : Int)) := fun i hi => by
      obtain ⟨cs', h1, h2⟩ := hx i (by rw [hmm]; simp; omega)
      obtain ⟨_, hlen, hcell⟩ := World.cells?_some h1
      match cs', hlen with
      | [c0], _ =>
        obtain ⟨x0, e0, _, w0⟩ := DataW.trod_int Try.underlying26 h2
        simp only [List.cons.injEq, and_true] at e0
        subst e0
        have b0 := bounds_u32 w0
        have q0 := hcell 0 (by omega)
        rw [Deep.add_add] at q0
        exact ⟨x0.toNat, by omega, by simpa [show (x0.toNat : Int) = x0 by omega] using q0⟩
    obtain ⟨f, hf⟩ := Deep.choose_lt each
    refine ⟨some a, c, (List.range n).map f, by simp, fun h0 => ?_, by unfold maxLen at hm; simp; omega, by simpa using hl, fun e he => ?_⟩
    · simp at h0
      have hc0 := (hf 0 h0).2
      obtain ⟨b, off, spot⟩ := a
      have hspot : spot = none := by simpa [Addr.add] using World.cell?_spot hc0
      subst hspot
      refine ⟨b, off, rfl, World.block_lt_of_cell? W ⟨b, off + 0 * 1, none⟩ (by rw [← Go.WideShapes.add_plain]; exact hc0), fun i e he => ?_⟩
      rw [List.getElem?_map] at he
      obtain ⟨i', hi', rfl⟩ := Option.map_eq_some_iff.1 he
      obtain ⟨hin, rfl⟩ := List.getElem?_eq_some_iff.1 hi'
      simp at hin
      simp only [List.getElem_range]
      obtain ⟨_, r0⟩ := hf i hin
      rw [Go.WideShapes.add_plain, Nat.mul_one] at r0
      exact r0
    · obtain ⟨i, hi, rfl⟩ := List.mem_map.1 he
      exact (hf i (List.mem_range.1 hi)).1
structure Ac where
  d : Int
  id : Nat
  p : Nat
  a : Option Addr
  c : Nat
  ps : List Nat
  t : Int
instance : Inhabited Ac := ⟨⟨0, 0, 0, none, 0, [], 0⟩⟩
abbrev aC (e : Ac) : Array Value := #[.int .u8 e.d, .int .u32 (e.id : Int), .int .u32 (e.p : Int), .slice e.a e.ps.length e.c, .int .i64 e.t]
def Ra (w : World) (e : Ac) : Prop := 0 ≤ e.d ∧ e.id < 4294967296 ∧ e.p < 4294967296 ∧ Rn w e.a e.ps ∧ e.ps.length ≤ 9223372036854775807 ∧ e.ps.length ≤ e.c ∧ (∀ x ∈ e.ps, x < 4294967296) ∧ (-9223372036854775808 ≤ e.t ∧ e.t < 9223372036854775808)
theorem act_of {H : Type} {enc : TypeId × Value → H} {W : World} {m : Nat} {c0 c1 c2 c3 c4 : Value} {y : DataW H × List MemPlace} (h : DataW.trod enc Try.prog W 0 (fun _ => true) true m 29 [c0, c1, c2, c3, c4] = some y) :
    ∃ e : Ac, #[c0, c1, c2, c3, c4] = aC e ∧ Ra W e := by
  have k5 : Try.prog.cellsOf 5 = 1 := by kernel_rfl
  have k26 : Try.prog.cellsOf 26 = 1 := by kernel_rfl
  have k27 : Try.prog.cellsOf 27 = 1 := by kernel_rfl
  have k2 : Try.prog.cellsOf 2 = 1 := by kernel_rfl
  obtain ⟨xs, m', _, _, _, hlen', hx'⟩ := DataW.trod_struct Try.underlying29 h
  match xs, hlen' with
  | [y0, y1, y2, y3, y4], _ =>
    have g0 : DataW.trod enc Try.prog W 0 (fun _ => true) true m' 5 [c0] = some y0 := by simpa [Value.cells, k5] using hx' 0 _ rfl
    have g1 : DataW.trod enc Try.prog W 0 (fun _ => true) true m' 26 [c1] = some y1 := by simpa [Value.cells, k5, k26] using hx' 1 _ rfl
    have g2 : DataW.trod enc Try.prog W 0 (fun _ => true) true m' 26 [c2] = some y2 := by simpa [Value.cells, k5, k26] using hx' 2 _ rfl
    have g3 : DataW.trod enc Try.prog W 0 (fun _ => true) true m' 27 [c3] = some y3 := by simpa [Value.cells, k5, k26, k27] using hx' 3 _ rfl
    have g4 : DataW.trod enc Try.prog W 0 (fun _ => true) true m' 2 [c4] = some y4 := by simpa [Value.cells, k5, k26, k27, k2] using hx' 4 _ rfl
    obtain ⟨x0, e0, _, w0⟩ := DataW.trod_int Try.underlying5 g0
    obtain ⟨x1, e1, _, w1⟩ := DataW.trod_int Try.underlying26 g1
    obtain ⟨x2, e2, _, w2⟩ := DataW.trod_int Try.underlying26 g2
    obtain ⟨x4, e4, _, w4⟩ := DataW.trod_int Try.underlying2 g4
    simp only [List.cons.injEq, and_true] at e0 e1 e2 e4
    subst e0 e1 e2 e4
    obtain ⟨A, c, l, rfl, hr, hl, hlc, hlt⟩ := nums_of g3
    have b0 := bounds_u8 w0
    have b1 := bounds_u32 w1
    have b2 := bounds_u32 w2
    have b4 := bounds_i64 w4
    refine ⟨⟨x0, x1.toNat, x2.toNat, A, c, l, x4⟩, ?_, b0.1, by show x1.toNat < _; omega, by show x2.toNat < _; omega, hr, hl, hlc, hlt, by show _ ≤ x4; omega, by show x4 < _; omega⟩
    simp only [aC, show ((x1.toNat : Nat) : Int) = x1 by omega, show ((x2.toNat : Nat) : Int) = x2 by omega]
theorem open_act {H : Type} {enc : TypeId × Value → H} {W : World} {r : Reach} {b0 : Nat} {v : Value} {d : DataW H} {q : List MemPlace} (hv : Value.okWide Try.prog W r b0 29 v) (h : DataW.Trod enc Try.prog W 0 (fun _ => true) true 29 v d q) :
    ∃ e : Ac, v = .agg (aC e) ∧ Ra W e := by
  obtain ⟨cs, rfl, hsz⟩ := WideShapes.okWide_struct Try.underlying29 hv
  obtain ⟨fuel, hf⟩ := h
  have h5 : cs.size = 5 := hsz.trans (show Try.prog.cellsOf 29 = 5 by kernel_rfl)
  obtain ⟨l, rfl⟩ : ∃ l, cs = List.toArray l := ⟨cs.toList, by simp⟩
  match l, h5 with
  | [c0, c1, c2, c3, c4], _ =>
    obtain ⟨e, h1, h2⟩ := act_of (c0 := c0) (c1 := c1) (c2 := c2) (c3 := c3) (c4 := c4) hf
    exact ⟨e, by rw [← h1], h2⟩
/-- The acts l are read from A on. -/
def As (w : World) (B : Nat) (A : Option Addr) (l : List Ac) : Prop :=
  0 < l.length → ∃ b o, A = some ⟨b, o, none⟩ ∧ b < B ∧ ∀ i e, l[i]? = some e → w.cell? ⟨b, o + i * 5, none⟩ = some (.int .u8 e.d) ∧ w.cell? ⟨b, o + i * 5 + 1, none⟩ = some (.int .u32 (e.id : Int)) ∧ w.cell? ⟨b, o + i * 5 + 2, none⟩ = some (.int .u32 (e.p : Int)) ∧ w.cell? ⟨b, o + i * 5 + 3, none⟩ = some (.slice e.a e.ps.length e.c) ∧ w.cell? ⟨b, o + i * 5 + 4, none⟩ = some (.int .i64 e.t)
theorem open_acts {H : Type} {enc : TypeId × Value → H} {W : World} {r : Reach} {b0 : Nat} {v : Value} {d : DataW H} {q : List MemPlace} (hv : Value.okWide Try.prog W r b0 22 v) (h : DataW.Trod enc Try.prog W 0 (fun _ => true) true 22 v d q) :
    ∃ (p : Option Addr × Nat) (l : List Ac), v = .slice p.1 l.length p.2 ∧ As W W.heap.size p.1 l ∧ l.length ≤ 9223372036854775807 ∧ ∀ e ∈ l, Ra W e := by
  obtain ⟨A, n, c, rfl⟩ := WideShapes.okWide_slice Try.underlying22 hv
  obtain ⟨fuel, hf⟩ := h
  have c4 : Try.prog.cellsOf 29 = 5 := by kernel_rfl
  rcases Deep.open_slice Try.underlying22 hf with ⟨hcs, _⟩ | ⟨a, len, cap, m, k, D, Pl, hcs, _, hl, hm, hmm, _, hx⟩
  · simp [Value.cells] at hcs
    obtain ⟨rfl, rfl, rfl⟩ := hcs
    exact ⟨(none, 0), [], rfl, fun h => by simp at h, by simp, fun e he => by simp at he⟩
  · simp [Value.cells] at hcs
    obtain ⟨rfl, rfl, rfl⟩ := hcs
    rw [c4] at hx
    have each : ∀ i, i < n → ∃ e : Ac, Ra W e ∧ W.cell? (a.add (i * 5)) = some (.int .u8 e.d) ∧ W.cell? (a.add (i * 5 + 1)) = some (.int .u32 (e.id : Int)) ∧ W.cell? (a.add (i * 5 + 2)) = some (.int .u32 (e.p : Int)) ∧ W.cell? (a.add (i * 5 + 3)) = some (.slice e.a e.ps.length e.c) ∧ W.cell? (a.add (i * 5 + 4)) = some (.int .i64 e.t) := fun i hi => by
      obtain ⟨cs', h1, h2⟩ := hx i (by rw [hmm]; simp; omega)
      obtain ⟨_, hlen, hcell⟩ := World.cells?_some h1
      match cs', hlen with
      | [x0, x1, x2, x3, x4], _ =>
        obtain ⟨e, he, hr⟩ := act_of h2
        simp only [aC, Array.mk.injEq, List.cons.injEq, and_true] at he
        obtain ⟨rfl, rfl, rfl, rfl, rfl⟩ := he
        have q0 := hcell 0 (by omega)
        have q1 := hcell 1 (by omega)
        have q2 := hcell 2 (by omega)
        have q3 := hcell 3 (by omega)
        have q4 := hcell 4 (by omega)
        rw [Deep.add_add] at q0 q1 q2 q3 q4
        exact ⟨e, hr, by simpa using q0, by simpa using q1, by simpa using q2, by simpa using q3, by simpa using q4⟩
    obtain ⟨f, hf⟩ := Deep.choose_lt each
    refine ⟨(some a, c), (List.range n).map f, by simp, fun h0 => ?_, by unfold maxLen at hm; simp; omega, fun e he => by
      obtain ⟨i, hi, rfl⟩ := List.mem_map.1 he
      exact (hf i (List.mem_range.1 hi)).1⟩
    simp at h0
    have hc0 := (hf 0 h0).2.1
    obtain ⟨b, off, spot⟩ := a
    have hspot : spot = none := by simpa [Addr.add] using World.cell?_spot hc0
    subst hspot
    refine ⟨b, off, rfl, World.block_lt_of_cell? W ⟨b, off + 0 * 5, none⟩ (by rw [← Go.WideShapes.add_plain]; exact hc0), fun i e he => ?_⟩
    rw [List.getElem?_map] at he
    obtain ⟨i', hi', rfl⟩ := Option.map_eq_some_iff.1 he
    obtain ⟨hin, rfl⟩ := List.getElem?_eq_some_iff.1 hi'
    simp at hin
    simp only [List.getElem_range]
    have hq := (hf i hin).2
    rw [Go.WideShapes.add_plain, Go.WideShapes.add_plain, Go.WideShapes.add_plain, Go.WideShapes.add_plain, Go.WideShapes.add_plain] at hq
    exact ⟨hq.1, by rw [Nat.add_assoc]; exact hq.2.1, by rw [Nat.add_assoc]; exact hq.2.2.1, by rw [Nat.add_assoc]; exact hq.2.2.2.1, by rw [Nat.add_assoc]; exact hq.2.2.2.2⟩
end Go.Proofs.Ytemjmnpclknfaaa.P
