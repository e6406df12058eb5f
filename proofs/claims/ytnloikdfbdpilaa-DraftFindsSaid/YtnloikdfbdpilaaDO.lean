/- Draft: a time with marks, two times, that came in. -/
import Derived.Test.YtnloikdfbdpilaaDN
namespace Go.Proofs.Ytnloikdfbdpilaa
open Go.RowKit Go.ChangeShapes
open Go.Joins
set_option maxRecDepth 20000
set_option linter.unusedVariables false

theorem array2 {α : Type} {cs : Array α} (h : cs.size = 2) : ∃ c0 c1, cs = #[c0, c1] := by
  obtain ⟨l⟩ := cs
  match l, h with
  | [c0, c1], _ => exact ⟨c0, c1, rfl⟩
theorem open_at {H : Type} {enc : TypeId × Value → H} {W : World} {r : Reach} {b0 : Nat} {v : Value} {d : DataW H} {q : List MemPlace} (hv : Value.okWide Try.prog W r b0 55 v) (h : DataW.Trod enc Try.prog W 0 (fun _ => true) true 55 v d q) :
    ∃ (x : Int) (y : Nat), v = .agg #[.int .i64 x, .int .u16 (y : Int)] ∧ In64 x ∧ y < 65536 := by
  obtain ⟨cs, rfl, hsz⟩ := WideShapes.okWide_struct Try.underlying55 hv
  obtain ⟨c0, c1, rfl⟩ := array2 (hsz.trans (show Try.prog.cellsOf 55 = 2 by kernel_rfl))
  obtain ⟨fuel, hf⟩ := h
  obtain ⟨xs, m, _, _, _, hlen, hx⟩ := DataW.trod_struct Try.underlying55 hf
  have k2 : Try.prog.cellsOf 2 = 1 := by kernel_rfl
  have k53 : Try.prog.cellsOf 53 = 1 := by kernel_rfl
  match xs, hlen with
  | [y0, y1], _ =>
    have h0 : DataW.trod enc Try.prog W 0 (fun _ => true) true m 2 [c0] = some y0 := by simpa [k2, Value.cells] using hx 0 _ rfl
    have h1 : DataW.trod enc Try.prog W 0 (fun _ => true) true m 53 [c1] = some y1 := by simpa [k2, k53, Value.cells] using hx 1 _ rfl
    obtain ⟨x0, e0, _, w0⟩ := DataW.trod_int Try.underlying2 h0
    obtain ⟨x1, e1, _, w1⟩ := DataW.trod_int Try.underlying53 h1
    simp only [List.cons.injEq, and_true] at e0 e1
    subst e0 e1
    have hb := bounds_u16 w1
    obtain ⟨y, rfl⟩ := Int.eq_ofNat_of_zero_le hb.1
    exact ⟨x0, y, rfl, bounds_i64 w0, by omega⟩
theorem open_two {H : Type} {enc : TypeId × Value → H} {W : World} {r : Reach} {b0 : Nat} {v : Value} {d : DataW H} {q : List MemPlace} (hv : Value.okWide Try.prog W r b0 58 v) (h : DataW.Trod enc Try.prog W 0 (fun _ => true) true 58 v d q) :
    ∃ x y : Int, v = .agg #[.int .i64 x, .int .i64 y] ∧ In64 x ∧ In64 y := by
  have h2 : ∃ cs, v = .agg cs ∧ cs.size = Try.prog.cellsOf 58 := by
    unfold Value.okWide at hv
    rw [Try.underlying58] at hv
    obtain ⟨cs, h1, h2, _⟩ := hv
    exact ⟨cs, h1, h2⟩
  obtain ⟨cs, rfl, hsz⟩ := h2
  obtain ⟨e0, e1, rfl⟩ := array2 (hsz.trans (show Try.prog.cellsOf 58 = 2 by kernel_rfl))
  obtain ⟨fuel, hf⟩ := h
  obtain ⟨xs, m, _, _, _, hxl, hx⟩ := DataW.trod_array Try.underlying58 hf
  have k2 : Try.prog.cellsOf 2 = 1 := by kernel_rfl
  have h0 := hx 0 (by omega)
  have h1 := hx 1 (by omega)
  rw [k2] at h0 h1
  obtain ⟨y0, hy0⟩ : ∃ y, xs[0]? = some y := ⟨xs[0], List.getElem?_eq_getElem (by omega)⟩
  obtain ⟨y1, hy1⟩ : ∃ y, xs[1]? = some y := ⟨xs[1], List.getElem?_eq_getElem (by omega)⟩
  have g0 : DataW.trod enc Try.prog W 0 (fun _ => true) true m 2 [e0] = some y0 := by rw [← hy0]; simpa [Value.cells] using h0
  have g1 : DataW.trod enc Try.prog W 0 (fun _ => true) true m 2 [e1] = some y1 := by rw [← hy1]; simpa [Value.cells] using h1
  obtain ⟨x0, q0, _, w0⟩ := DataW.trod_int Try.underlying2 g0
  obtain ⟨x1, q1, _, w1⟩ := DataW.trod_int Try.underlying2 g1
  simp only [List.cons.injEq, and_true] at q0 q1
  subst q0 q1
  exact ⟨x0, x1, rfl, bounds_i64 w0, bounds_i64 w1⟩
end Go.Proofs.Ytnloikdfbdpilaa
