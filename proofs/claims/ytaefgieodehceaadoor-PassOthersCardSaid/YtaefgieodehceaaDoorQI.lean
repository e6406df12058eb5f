/- Pass: by another key, or with a byte turned: PassOthers' walk. -/
import Derived.Test.YtaefgieodehceaaDoorQG
namespace Go.Proofs.YtaefgieodehceaaDoor
open Go.RowKit Go.ChangeShapes Go.WideShapes Go.Deep
open Go.Joins (array2)
set_option maxRecDepth 20000

/-- Two slices of bytes that came in, and two bytes. -/
theorem pb_form {W : World} {v : Value} {l : List UInt8} (h : Sha.Pb W v l) : ∃ A c, v = .slice A l.length c ∧ Bs W W.heap.size (.slice A l.length c) l := by
  obtain ⟨A, c, rfl, hc, hr⟩ := h
  exact ⟨A, c, rfl, bs_pb ⟨A, c, rfl, hc, hr⟩⟩
theorem open_arrpb {H : Type} {enc : TypeId × Value → H} {W : World} {r : Reach} {b0 : Nat} {v : Value} {d : DataW H} {q : List MemPlace} (hv : Value.okWide Tryd.prog W r b0 55 v) (h : DataW.Trod enc Tryd.prog W 0 (fun _ => true) true 55 v d q) :
    ∃ A0 c0 K0 A1 c1 K1, v = .agg #[.slice A0 K0.length c0, .slice A1 K1.length c1] ∧ Bs W W.heap.size (.slice A0 K0.length c0) K0 ∧ Bs W W.heap.size (.slice A1 K1.length c1) K1 ∧ K0.length ≤ 9223372036854775807 ∧ K1.length ≤ 9223372036854775807 := by
  have h2 : ∃ cs, v = .agg cs ∧ cs.size = Tryd.prog.cellsOf 55 := by
    unfold Value.okWide at hv
    rw [Tryd.underlying55] at hv
    obtain ⟨cs, h1, h2, _⟩ := hv
    exact ⟨cs, h1, h2⟩
  obtain ⟨cs, rfl, hsz⟩ := h2
  obtain ⟨e0, e1, rfl⟩ := array2 (hsz.trans (show Tryd.prog.cellsOf 55 = 2 by kernel_rfl))
  obtain ⟨fuel, hf⟩ := h
  obtain ⟨xs, m, _, _, _, hxl, hx⟩ := DataW.trod_array Tryd.underlying55 hf
  have k22 : Tryd.prog.cellsOf 22 = 1 := by kernel_rfl
  have h0 := hx 0 (by omega)
  have h1 := hx 1 (by omega)
  rw [k22] at h0 h1
  obtain ⟨y0, hy0⟩ : ∃ y, xs[0]? = some y := ⟨xs[0], List.getElem?_eq_getElem (by omega)⟩
  obtain ⟨y1, hy1⟩ : ∃ y, xs[1]? = some y := ⟨xs[1], List.getElem?_eq_getElem (by omega)⟩
  have g0 : DataW.trod enc Tryd.prog W 0 (fun _ => true) true m 22 [e0] = some y0 := by rw [← hy0]; simpa [Value.cells] using h0
  have g1 : DataW.trod enc Tryd.prog W 0 (fun _ => true) true m 22 [e1] = some y1 := by rw [← hy1]; simpa [Value.cells] using h1
  obtain ⟨K0, hp0, hl0⟩ := Sha.open_pb g0
  obtain ⟨K1, hp1, hl1⟩ := Sha.open_pb g1
  obtain ⟨A0, c0, rfl, hb0⟩ := pb_form hp0
  obtain ⟨A1, c1, rfl, hb1⟩ := pb_form hp1
  exact ⟨A0, c0, K0, A1, c1, K1, rfl, hb0, hb1, hl0, hl1⟩
theorem open_arru8 {H : Type} {enc : TypeId × Value → H} {W : World} {r : Reach} {b0 : Nat} {v : Value} {d : DataW H} {q : List MemPlace} (hv : Value.okWide Tryd.prog W r b0 56 v) (h : DataW.Trod enc Tryd.prog W 0 (fun _ => true) true 56 v d q) :
    ∃ x y : UInt8, v = .agg #[.int .u8 (x.toNat : Int), .int .u8 (y.toNat : Int)] := by
  obtain ⟨l, rfl, hl, hc⟩ := Sha.open_arr Tryd.underlying56 Tryd.underlying5 (by kernel_rfl) (by kernel_rfl) hv h
  obtain ⟨bs, rfl⟩ := Sha.bytes_of hc
  rw [show (Sha.bv bs).length = bs.length by simp [Sha.bv]] at hl
  match bs, hl with
  | [x, y], _ => exact ⟨x, y, rfl⟩

theorem eqItems_some (d : Nat) (xs ys : Array Value) : ∀ is : List Nat, (∀ i ∈ is, ∃ x y : Int, xs[i]? = some (.int .u8 x) ∧ ys[i]? = some (.int .u8 y)) → ∃ r, ∀ w, (Op.eqItems (d + 1) 5 1 xs ys is).run Tryd.prog w = .ok r w
  | [], _ => ⟨true, fun w => by simp [Op.eqItems]⟩
  | i :: is, h => by
    obtain ⟨x, y, hx, hy⟩ := h i (by simp)
    obtain ⟨r, hr⟩ := eqItems_some d xs ys is (fun j hj => h j (by simp [hj]))
    cases hq : Tryd.prog.info? 5 with
    | none => exact absurd Sha.Tryd.size5 (by simp [hq])
    | some ti =>
      have h1 : ti.size = 1 := by have := Sha.Tryd.size5; rw [hq] at this; simpa using this
      by_cases hxy : x = y
      · refine ⟨r, fun w => ?_⟩
        have hp : (part 5 xs (i * 1)).run Tryd.prog w = .ok (.int .u8 x) w := by simp [part, Sem.run_bind, typeInfo, sizeOf, hq, h1, hx]
        have hp2 : (part 5 ys (i * 1)).run Tryd.prog w = .ok (.int .u8 y) w := by simp [part, Sem.run_bind, typeInfo, sizeOf, hq, h1, hy]
        simp only [Op.eqItems, Sem.run_bind, hp, hp2, Result.andThen_ok, run_equalIn_int w d 5 .u8 .u8 x y Tryd.underlying5]
        simp [hxy, hr]
      · refine ⟨false, fun w => ?_⟩
        have hp : (part 5 xs (i * 1)).run Tryd.prog w = .ok (.int .u8 x) w := by simp [part, Sem.run_bind, typeInfo, sizeOf, hq, h1, hx]
        have hp2 : (part 5 ys (i * 1)).run Tryd.prog w = .ok (.int .u8 y) w := by simp [part, Sem.run_bind, typeInfo, sizeOf, hq, h1, hy]
        simp only [Op.eqItems, Sem.run_bind, hp, hp2, Result.andThen_ok, run_equalIn_int w d 5 .u8 .u8 x y Tryd.underlying5]
        simp [hxy]
theorem eq_tags (l m : List UInt8) (hl : l.length = 32) (hm : m.length = 32) : ∃ r, (∀ w, (Op.equalIn 10000 57 (.agg (bv l).toArray) (.agg (bv m).toArray)).run Tryd.prog w = .ok r w) ∧ (l = m → r = true) := by
  by_cases e : l = m
  · subst e
    exact ⟨true, fun w => Sha.eq_bytes l hl w, fun _ => rfl⟩
  · cases hq : Tryd.prog.info? 5 with
    | none => exact absurd Sha.Tryd.size5 (by simp [hq])
    | some i =>
      obtain ⟨r, hr⟩ := eqItems_some 9998 (bv l).toArray (bv m).toArray (List.range 32) (fun i hi => by
        simp at hi
        exact ⟨_, _, by simp [bv, show i < l.length by omega]; rfl, by simp [bv, show i < m.length by omega]; rfl⟩)
      refine ⟨r, fun w => ?_, fun h => absurd h e⟩
      rw [run_equalIn_array w 9999 _ _ Tryd.underlying57 hq, show Tryd.prog.cellsOf 5 = 1 by kernel_rfl]
      exact hr w

theorem turned_head (l : List UInt8) (y : UInt8) (h0 : l[0]? = some 116) (hy : y ≠ 0) (ko : Option (List UInt8)) : (openT ko (l.set 0 (116 ^^^ y))) = (7, 0, 0, 0) := by
  unfold openT
  rw [if_neg]
  intro h
  have h1 := h.2
  rcases l with _ | ⟨z, l⟩
  · simp at h0
  · simp at h1
    apply hy
    have := congrArg (fun t => 116 ^^^ t) h1
    simpa [← UInt8.xor_assoc] using this
end Go.Proofs.YtaefgieodehceaaDoor
