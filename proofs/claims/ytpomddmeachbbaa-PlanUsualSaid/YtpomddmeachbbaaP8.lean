/- Plan: what came in: modes, rows of modes, configs, two numbers. -/
import Derived.Test.YtpomddmeachbbaaP5
import Derived.ProofKit
import Derived.OpenShut
import Derived.Lib.SmallJoins
import Derived.Deep.Slices
namespace Go.Proofs.Ytpomddmeachbbaa
open Go.RowKit Go.ChangeShapes
open Go.Joins
set_option maxRecDepth 20000

instance : Inhabited Md := ⟨⟨0, 0, 0, 0, 0⟩⟩
theorem own : ownKnob Try.prog.godebug = Option.none := by kernel_rfl
theorem laidOut : laidOutB Try.prog = true := by kernel_rfl
theorem array5 {α : Type} {cs : Array α} (h : cs.size = 5) : ∃ c0 c1 c2 c3 c4, cs = #[c0, c1, c2, c3, c4] := by
  obtain ⟨l⟩ := cs
  match l, h with
  | [c0, c1, c2, c3, c4], _ => exact ⟨c0, c1, c2, c3, c4, rfl⟩
theorem array14 {α : Type} {cs : Array α} (h : cs.size = 14) : ∃ c0 c1 c2 c3 c4 c5 c6 c7 c8 c9 c10 c11 c12 c13, cs = #[c0, c1, c2, c3, c4, c5, c6, c7, c8, c9, c10, c11, c12, c13] := by
  obtain ⟨l⟩ := cs
  match l, h with
  | [c0, c1, c2, c3, c4, c5, c6, c7, c8, c9, c10, c11, c12, c13], _ => exact ⟨c0, c1, c2, c3, c4, c5, c6, c7, c8, c9, c10, c11, c12, c13, rfl⟩
theorem md_core {H : Type} {enc : TypeId × Value → H} {W : World} {fuel : Nat} {c0 c1 c2 c3 c4 : Value} {x : DataW H × List MemPlace} (hf : DataW.trod enc Try.prog W 0 (fun _ => true) true fuel 26 [c0, c1, c2, c3, c4] = some x) :
    ∃ m : Md, [c0, c1, c2, c3, c4] = mc m := by
  obtain ⟨xs, m, _, _, _, hlen, hx⟩ := DataW.trod_struct Try.underlying26 hf
  have k2 : Try.prog.cellsOf 2 = 1 := by kernel_rfl
  have k3 : Try.prog.cellsOf 3 = 1 := by kernel_rfl
  match xs, hlen with
  | [y0, y1, y2, y3, y4], _ =>
    have h0 : DataW.trod enc Try.prog W 0 (fun _ => true) true m 3 [c0] = some y0 := by simpa [k3] using hx 0 _ rfl
    have h1 : DataW.trod enc Try.prog W 0 (fun _ => true) true m 3 [c1] = some y1 := by simpa [k3] using hx 1 _ rfl
    have h2 : DataW.trod enc Try.prog W 0 (fun _ => true) true m 3 [c2] = some y2 := by simpa [k3] using hx 2 _ rfl
    have h3 : DataW.trod enc Try.prog W 0 (fun _ => true) true m 3 [c3] = some y3 := by simpa [k3] using hx 3 _ rfl
    have h4 : DataW.trod enc Try.prog W 0 (fun _ => true) true m 2 [c4] = some y4 := by simpa [k2] using hx 4 _ rfl
    obtain ⟨x0, e0, _, _⟩ := DataW.trod_int Try.underlying3 h0
    obtain ⟨x1, e1, _, _⟩ := DataW.trod_int Try.underlying3 h1
    obtain ⟨x2, e2, _, _⟩ := DataW.trod_int Try.underlying3 h2
    obtain ⟨x3, e3, _, _⟩ := DataW.trod_int Try.underlying3 h3
    obtain ⟨x4, e4, _, _⟩ := DataW.trod_int Try.underlying2 h4
    simp only [List.cons.injEq, and_true] at e0 e1 e2 e3 e4
    subst e0 e1 e2 e3 e4
    exact ⟨⟨x0, x1, x2, x3, x4⟩, rfl⟩
theorem open_md {H : Type} {enc : TypeId × Value → H} {W : World} {r : Reach} {b0 : Nat} {v : Value} {d : DataW H} {q : List MemPlace} (hv : Value.okWide Try.prog W r b0 26 v) (h : DataW.Trod enc Try.prog W 0 (fun _ => true) true 26 v d q) :
    ∃ k b s c e : Int, v = mV k b s c e := by
  obtain ⟨cs, rfl, hsz⟩ := WideShapes.okWide_struct Try.underlying26 hv
  obtain ⟨c0, c1, c2, c3, c4, rfl⟩ := array5 (hsz.trans (show Try.prog.cellsOf 26 = 5 by kernel_rfl))
  obtain ⟨fuel, hf⟩ := h
  obtain ⟨m, hm⟩ := md_core (c0 := c0) (c1 := c1) (c2 := c2) (c3 := c3) (c4 := c4) (by simpa [Value.cells] using hf)
  simp only [mc, List.cons.injEq, and_true] at hm
  obtain ⟨rfl, rfl, rfl, rfl, rfl⟩ := hm
  exact ⟨_, _, _, _, _, rfl⟩
theorem mds_core {H : Type} {enc : TypeId × Value → H} {W : World} {fuel : Nat} {v : Value} {x : DataW H × List MemPlace} (hf : DataW.trod enc Try.prog W 0 (fun _ => true) true fuel 22 [v] = some x) :
    ∃ (A : Option Addr) (c : Nat) (l : List Md), v = .slice A l.length c ∧ Ms W W.heap.size A l ∧ l.length ≤ 9223372036854775807 := by
  have c5 : Try.prog.cellsOf 26 = 5 := by kernel_rfl
  rcases Deep.open_slice Try.underlying22 hf with ⟨hcs, _⟩ | ⟨a, n, cap, m, k, D, Pl, hcs, _, hl, hm, hmm, _, hx⟩
  · simp at hcs
    subst hcs
    exact ⟨none, 0, [], rfl, fun h => by simp at h, by simp⟩
  · simp at hcs
    subst hcs
    rw [c5] at hx
    have each : ∀ i, i < n → ∃ e : Md, W.cell? (a.add (i * 5)) = some (.int .i64 e.k) ∧ W.cell? (a.add (i * 5 + 1)) = some (.int .i64 e.b) ∧ W.cell? (a.add (i * 5 + 2)) = some (.int .i64 e.s) ∧ W.cell? (a.add (i * 5 + 3)) = some (.int .i64 e.c) ∧ W.cell? (a.add (i * 5 + 4)) = some (.int .i64 e.e) := fun i hi => by
      obtain ⟨cs', h1, h2⟩ := hx i (by rw [hmm]; simp; omega)
      obtain ⟨_, hlen, hcell⟩ := World.cells?_some h1
      match cs', hlen with
      | [c0, c1, c2, c3, c4], _ =>
        obtain ⟨m, hm⟩ := md_core h2
        simp only [mc, List.cons.injEq, and_true] at hm
        obtain ⟨rfl, rfl, rfl, rfl, rfl⟩ := hm
        have q0 := hcell 0 (by omega)
        have q1 := hcell 1 (by omega)
        have q2 := hcell 2 (by omega)
        have q3 := hcell 3 (by omega)
        have q4 := hcell 4 (by omega)
        rw [Deep.add_add] at q0 q1 q2 q3 q4
        exact ⟨m, by simpa using q0, by simpa using q1, by simpa using q2, by simpa using q3, by simpa using q4⟩
    obtain ⟨f, hf⟩ := Deep.choose_lt each
    refine ⟨some a, cap, (List.range n).map f, by simp, fun h0 => ?_, by unfold maxLen at hm; simp; omega⟩
    simp at h0
    have hc0 := (hf 0 h0).1
    obtain ⟨b, off, spot⟩ := a
    have hspot : spot = none := by simpa [Addr.add] using World.cell?_spot hc0
    subst hspot
    refine ⟨b, off, rfl, World.block_lt_of_cell? W ⟨b, off + 0 * 5, none⟩ (by rw [← Go.WideShapes.add_plain]; exact hc0), fun i e he => ?_⟩
    rw [List.getElem?_map] at he
    obtain ⟨i', hi', rfl⟩ := Option.map_eq_some_iff.1 he
    obtain ⟨hin, rfl⟩ := List.getElem?_eq_some_iff.1 hi'
    simp at hin
    simp only [List.getElem_range]
    obtain ⟨r0, r1, r2, r3, r4⟩ := hf i hin
    rw [Go.WideShapes.add_plain] at r0 r1 r2 r3 r4
    exact ⟨r0, r1, r2, r3, r4⟩
theorem open_mds {H : Type} {enc : TypeId × Value → H} {W : World} {r : Reach} {b0 : Nat} {v : Value} {d : DataW H} {q : List MemPlace} (hv : Value.okWide Try.prog W r b0 22 v) (h : DataW.Trod enc Try.prog W 0 (fun _ => true) true 22 v d q) :
    ∃ (A : Option Addr) (c : Nat) (l : List Md), v = .slice A l.length c ∧ Ms W W.heap.size A l ∧ l.length ≤ 9223372036854775807 := by
  obtain ⟨A, n, c, rfl⟩ := WideShapes.okWide_slice Try.underlying22 hv
  obtain ⟨fuel, hf⟩ := h
  exact mds_core (by simpa [Value.cells] using hf)
theorem open_cfg {H : Type} {enc : TypeId × Value → H} {W : World} {r : Reach} {b0 : Nat} {v : Value} {d : DataW H} {q : List MemPlace} (hv : Value.okWide Try.prog W r b0 24 v) (h : DataW.Trod enc Try.prog W 0 (fun _ => true) true 24 v d q) :
    ∃ (C : Cfg) (A : Option Addr) (c : Nat) (l : List Md), v = .agg (C.cells (.slice A l.length c)) ∧ Ms W W.heap.size A l ∧ l.length ≤ 9223372036854775807 ∧ C.key.length ≤ 9223372036854775807 := by
  obtain ⟨cs, rfl, hsz⟩ := WideShapes.okWide_struct Try.underlying24 hv
  obtain ⟨c0, c1, c2, c3, c4, c5, c6, c7, c8, c9, c10, c11, c12, c13, rfl⟩ := array14 (hsz.trans (show Try.prog.cellsOf 24 = 14 by kernel_rfl))
  obtain ⟨fuel, hf⟩ := h
  obtain ⟨xs, m, _, _, _, hlen, hx⟩ := DataW.trod_struct Try.underlying24 hf
  have k2 : Try.prog.cellsOf 2 = 1 := by kernel_rfl
  have k3 : Try.prog.cellsOf 3 = 1 := by kernel_rfl
  have k9 : Try.prog.cellsOf 9 = 1 := by kernel_rfl
  have k22 : Try.prog.cellsOf 22 = 1 := by kernel_rfl
  match xs, hlen with
  | [y0, y1, y2, y3, y4, y5, y6, y7, y8, y9, y10, y11, y12, y13], _ =>
    have h0 : DataW.trod enc Try.prog W 0 (fun _ => true) true m 9 [c0] = some y0 := by simpa [Value.cells, k9] using hx 0 _ rfl
    have h1 : DataW.trod enc Try.prog W 0 (fun _ => true) true m 3 [c1] = some y1 := by simpa [Value.cells, k3] using hx 1 _ rfl
    have h2 : DataW.trod enc Try.prog W 0 (fun _ => true) true m 3 [c2] = some y2 := by simpa [Value.cells, k3] using hx 2 _ rfl
    have h3 : DataW.trod enc Try.prog W 0 (fun _ => true) true m 3 [c3] = some y3 := by simpa [Value.cells, k3] using hx 3 _ rfl
    have h4 : DataW.trod enc Try.prog W 0 (fun _ => true) true m 3 [c4] = some y4 := by simpa [Value.cells, k3] using hx 4 _ rfl
    have h5 : DataW.trod enc Try.prog W 0 (fun _ => true) true m 2 [c5] = some y5 := by simpa [Value.cells, k2] using hx 5 _ rfl
    have h6 : DataW.trod enc Try.prog W 0 (fun _ => true) true m 2 [c6] = some y6 := by simpa [Value.cells, k2] using hx 6 _ rfl
    have h7 : DataW.trod enc Try.prog W 0 (fun _ => true) true m 2 [c7] = some y7 := by simpa [Value.cells, k2] using hx 7 _ rfl
    have h8 : DataW.trod enc Try.prog W 0 (fun _ => true) true m 2 [c8] = some y8 := by simpa [Value.cells, k2] using hx 8 _ rfl
    have h9 : DataW.trod enc Try.prog W 0 (fun _ => true) true m 2 [c9] = some y9 := by simpa [Value.cells, k2] using hx 9 _ rfl
    have h10 : DataW.trod enc Try.prog W 0 (fun _ => true) true m 2 [c10] = some y10 := by simpa [Value.cells, k2] using hx 10 _ rfl
    have h11 : DataW.trod enc Try.prog W 0 (fun _ => true) true m 3 [c11] = some y11 := by simpa [Value.cells, k3] using hx 11 _ rfl
    have h12 : DataW.trod enc Try.prog W 0 (fun _ => true) true m 3 [c12] = some y12 := by simpa [Value.cells, k3] using hx 12 _ rfl
    have h13 : DataW.trod enc Try.prog W 0 (fun _ => true) true m 22 [c13] = some y13 := by simpa [Value.cells, k22] using hx 13 _ rfl
    obtain ⟨key, e0, _, hk⟩ := DataW.trod_string Try.underlying9 h0
    obtain ⟨x1, e1, _, _⟩ := DataW.trod_int Try.underlying3 h1
    obtain ⟨x2, e2, _, _⟩ := DataW.trod_int Try.underlying3 h2
    obtain ⟨x3, e3, _, _⟩ := DataW.trod_int Try.underlying3 h3
    obtain ⟨x4, e4, _, _⟩ := DataW.trod_int Try.underlying3 h4
    obtain ⟨x5, e5, _, _⟩ := DataW.trod_int Try.underlying2 h5
    obtain ⟨x6, e6, _, _⟩ := DataW.trod_int Try.underlying2 h6
    obtain ⟨x7, e7, _, _⟩ := DataW.trod_int Try.underlying2 h7
    obtain ⟨x8, e8, _, _⟩ := DataW.trod_int Try.underlying2 h8
    obtain ⟨x9, e9, _, _⟩ := DataW.trod_int Try.underlying2 h9
    obtain ⟨x10, e10, _, _⟩ := DataW.trod_int Try.underlying2 h10
    obtain ⟨x11, e11, _, _⟩ := DataW.trod_int Try.underlying3 h11
    obtain ⟨x12, e12, _, _⟩ := DataW.trod_int Try.underlying3 h12
    obtain ⟨A, c, l, rfl, hM, hl⟩ := mds_core h13
    simp only [List.cons.injEq, and_true] at e0 e1 e2 e3 e4 e5 e6 e7 e8 e9 e10 e11 e12
    subst e0 e1 e2 e3 e4 e5 e6 e7 e8 e9 e10 e11 e12
    refine ⟨⟨key.data.toList, x1, x2, x3, x4, x5, x6, x7, x8, x9, x10, x11, x12⟩, A, c, l, ?_, hM, hl, ?_⟩
    · obtain ⟨⟨kl⟩⟩ := key
      rfl
    · unfold maxLen at hk
      obtain ⟨⟨kl⟩⟩ := key
      exact hk
theorem open_two {H : Type} {enc : TypeId × Value → H} {W : World} {r : Reach} {b0 : Nat} {v : Value} {d : DataW H} {q : List MemPlace} (hv : Value.okWide Try.prog W r b0 50 v) (h : DataW.Trod enc Try.prog W 0 (fun _ => true) true 50 v d q) :
    ∃ x y : Int, v = .agg #[.int .i64 x, .int .i64 y] ∧ (-9223372036854775808 ≤ x ∧ x ≤ 9223372036854775807) ∧ (-9223372036854775808 ≤ y ∧ y ≤ 9223372036854775807) := by
  have h2 : ∃ cs, v = .agg cs ∧ cs.size = Try.prog.cellsOf 50 := by
    unfold Value.okWide at hv
    rw [Try.underlying50] at hv
    obtain ⟨cs, h1, h2, _⟩ := hv
    exact ⟨cs, h1, h2⟩
  obtain ⟨cs, rfl, hsz⟩ := h2
  obtain ⟨e0, e1, rfl⟩ := array2 (hsz.trans (show Try.prog.cellsOf 50 = 2 by kernel_rfl))
  obtain ⟨fuel, hf⟩ := h
  obtain ⟨xs, m, _, _, _, hxl, hx⟩ := DataW.trod_array Try.underlying50 hf
  have k2 : Try.prog.cellsOf 2 = 1 := by kernel_rfl
  have h0 := hx 0 (by omega)
  have h1 := hx 1 (by omega)
  rw [k2] at h0 h1
  obtain ⟨y0, hy0⟩ : ∃ y, xs[0]? = some y := ⟨xs[0], List.getElem?_eq_getElem (by omega)⟩
  obtain ⟨y1, hy1⟩ : ∃ y, xs[1]? = some y := ⟨xs[1], List.getElem?_eq_getElem (by omega)⟩
  have g0 : DataW.trod enc Try.prog W 0 (fun _ => true) true m 2 [e0] = some y0 := by rw [← hy0]; simpa [Value.cells] using h0
  have g1 : DataW.trod enc Try.prog W 0 (fun _ => true) true m 2 [e1] = some y1 := by rw [← hy1]; simpa [Value.cells] using h1
  obtain ⟨x0, q0, _, w0⟩ := DataW.trod_int Try.underlying2 g0
  obtain ⟨x1, q1, _, w1⟩ := DataW.trod_int Try.underlying2 g1
  simp only [List.cons.injEq, and_true] at q0 q1
  subst q0 q1
  exact ⟨x0, x1, rfl, bounds_i64 w0, bounds_i64 w1⟩
end Go.Proofs.Ytpomddmeachbbaa
