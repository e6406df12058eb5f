/- Session: SessionNil's walk. -/
import Derived.Test.YtfgabmjnpjmmgaaSD
import Derived.ProofKit
import Derived.OpenShut
import Derived.Lib.SmallJoins
import Derived.Deep.Slices
import Derived.Test.YtfgabmjnpjmmgaaSE
namespace Go.Proofs.Ytfgabmjnpjmmgaa
open Go.RowKit Go.ChangeShapes
open Go.Joins
set_option maxRecDepth 20000
set_option linter.unusedVariables false
set_option linter.unusedSimpArgs false

theorem own : ownKnob Try.prog.godebug = Option.none := by kernel_rfl
theorem laidOut : laidOutB Try.prog = true := by kernel_rfl
theorem open_act {H : Type} {enc : TypeId × Value → H} {W : World} {r : Reach} {b0 : Nat} {v : Value} {d : DataW H} {q : List MemPlace} (hv : Value.okWide Try.prog W r b0 30 v) (h : DataW.Trod enc Try.prog W 0 (fun _ => true) true 30 v d q) :
    ∃ e x pl now : Int, v = .agg #[.int .u8 e, .int .u32 x, .int .u32 pl, .int .i64 now] := by
  obtain ⟨cs, rfl, hsz⟩ := WideShapes.okWide_struct Try.underlying30 hv
  obtain ⟨c0, c1, c2, c3, rfl⟩ := array4 (hsz.trans (show Try.prog.cellsOf 30 = 4 by kernel_rfl))
  obtain ⟨fuel, hf⟩ := h
  obtain ⟨xs, m, _, _, _, hlen, hx⟩ := DataW.trod_struct Try.underlying30 hf
  have k5 : Try.prog.cellsOf 5 = 1 := by kernel_rfl
  have k28 : Try.prog.cellsOf 28 = 1 := by kernel_rfl
  have k2 : Try.prog.cellsOf 2 = 1 := by kernel_rfl
  match xs, hlen with
  | [y0, y1, y2, y3], _ =>
    have h0 : DataW.trod enc Try.prog W 0 (fun _ => true) true m 5 [c0] = some y0 := by simpa [Value.cells, k5] using hx 0 _ rfl
    have h1 : DataW.trod enc Try.prog W 0 (fun _ => true) true m 28 [c1] = some y1 := by simpa [Value.cells, k5, k28] using hx 1 _ rfl
    have h2 : DataW.trod enc Try.prog W 0 (fun _ => true) true m 28 [c2] = some y2 := by simpa [Value.cells, k5, k28] using hx 2 _ rfl
    have h3 : DataW.trod enc Try.prog W 0 (fun _ => true) true m 2 [c3] = some y3 := by simpa [Value.cells, k5, k28, k2] using hx 3 _ rfl
    obtain ⟨x0, e0, _, _⟩ := DataW.trod_int Try.underlying5 h0
    obtain ⟨x1, e1, _, _⟩ := DataW.trod_int Try.underlying28 h1
    obtain ⟨x2, e2, _, _⟩ := DataW.trod_int Try.underlying28 h2
    obtain ⟨x3, e3, _, _⟩ := DataW.trod_int Try.underlying2 h3
    simp only [List.cons.injEq, and_true] at e0 e1 e2 e3
    subst e0 e1 e2 e3
    exact ⟨x0, x1, x2, x3, rfl⟩
set_option maxHeartbeats 8000000 in
theorem nil_walk (d x pl now : Int) (w : World) : Calls Try.prog 6 #[.agg #[.int .u8 d, .int .u32 x, .int .u32 pl, .int .i64 now]] w fun r w' => r = .returned (.bool true) ∧ Below w.heap.size w w' := by
  obtain ⟨w0, hw0⟩ : ∃ w0, w0 = w.alloc (.cells #[.int .u8 d, .int .u32 x, .int .u32 pl, .int .i64 now] 30) := ⟨_, rfl⟩
  have hb0 : Below w.heap.size w w0 := by rw [hw0]; exact (Below.refl _ _).alloc (Nat.le_refl _) _
  have hq0 : w0.heap[w.heap.size]? = some (.cells #[.int .u8 d, .int .u32 x, .int .u32 pl, .int .i64 now] 30 (0, 0)) := by rw [hw0]; exact heap_alloc_new w _
  have HCE : Hid (∀ W, Below w0.heap.size w0 W → W.cell? ⟨w.heap.size, 1, none⟩ = some (.int .u32 x) ∧ W.cell? ⟨w.heap.size, 2, none⟩ = some (.int .u32 pl) ∧ W.cell? ⟨w.heap.size, 3, none⟩ = some (.int .i64 now)) := fun W hW => by
    have e := (hW.block _ (lt_of_block hq0)).trans hq0
    exact ⟨cell_of_row W _ 1 _ _ _ e, cell_of_row W _ 2 _ _ _ e, cell_of_row W _ 3 _ _ _ e⟩
  have HB0 := Lib.hid hb0
  have H0 := Lib.hid hw0
  have HBS : Hid (Below w0.heap.size w0 w0) := Below.refl _ _
  clear hw0 hb0 hq0
  go_enter Try.func6, Try.ntmps6
  go_upto_region 1 with (fail)
  rw [← H0.out]
  obtain ⟨q1, q2, q3⟩ := HCE.out w0 HBS.out
  go_wp2_with fail
  refine (login_nil x pl now w0).mono ?_
  rintro r v1 ⟨rfl, hb⟩
  have HV1 := Lib.hid (HBS.out.trans (hb.mono HBS.out.size))
  clear hb q1 q2 q3
  obtain ⟨q1, q2, q3⟩ := HCE.out v1 HV1.out
  go_wp2_with fail
  refine (logout_nil x v1).mono ?_
  rintro r v2 ⟨rfl, hb⟩
  have HV2 := Lib.hid (HV1.out.trans (hb.mono HV1.out.size))
  clear hb q1 q2 q3
  obtain ⟨q1, q2, q3⟩ := HCE.out v2 HV2.out
  go_wp2_with fail
  refine (close_nil x v2).mono ?_
  rintro r v3 ⟨rfl, hb⟩
  have HV3 := Lib.hid (HV2.out.trans (hb.mono HV2.out.size))
  clear hb q1 q2 q3
  obtain ⟨q1, q2, q3⟩ := HCE.out v3 HV3.out
  go_wp2_with fail
  refine (((open_nil x now v3).mono fun r w' h => (⟨h.1, by rw [h.2]; exact Below.refl _ _⟩ : _ ∧ Below v3.heap.size v3 w'))).mono ?_
  rintro r v4 ⟨rfl, hb⟩
  have HV4 := Lib.hid (HV3.out.trans (hb.mono HV3.out.size))
  clear hb q1 q2 q3
  obtain ⟨q1, q2, q3⟩ := HCE.out v4 HV4.out
  go_wp2_with fail
  refine (touch_nil x now v4).mono ?_
  rintro r v5 ⟨rfl, hb⟩
  have HV5 := Lib.hid (HV4.out.trans (hb.mono HV4.out.size))
  clear hb q1 q2 q3
  obtain ⟨q1, q2, q3⟩ := HCE.out v5 HV5.out
  go_wp2_with fail
  refine (player_nil x v5).mono ?_
  rintro r v6 ⟨rfl, hb⟩
  have HV6 := Lib.hid (HV5.out.trans (hb.mono HV5.out.size))
  clear hb q1 q2 q3
  obtain ⟨q1, q2, q3⟩ := HCE.out v6 HV6.out
  go_wp2_with fail
  refine (((conn_nil pl v6).mono fun r w' h => (⟨h.1, by rw [h.2]; exact Below.refl _ _⟩ : _ ∧ Below v6.heap.size v6 w'))).mono ?_
  rintro r v7 ⟨rfl, hb⟩
  have HV7 := Lib.hid (HV6.out.trans (hb.mono HV6.out.size))
  clear hb q1 q2 q3
  obtain ⟨q1, q2, q3⟩ := HCE.out v7 HV7.out
  go_wp2_with fail
  refine (((idle_nil now v7).mono fun r w' h => (⟨h.1, by rw [h.2]; exact Below.refl _ _⟩ : _ ∧ Below v7.heap.size v7 w'))).mono ?_
  rintro r v8 ⟨rfl, hb⟩
  have HV8 := Lib.hid (HV7.out.trans (hb.mono HV7.out.size))
  clear hb q1 q2 q3
  obtain ⟨q1, q2, q3⟩ := HCE.out v8 HV8.out
  go_wp2_with fail
  refine (((conns_nil v8).mono fun r w' h => (⟨h.1, by rw [h.2]; exact Below.refl _ _⟩ : _ ∧ Below v8.heap.size v8 w'))).mono ?_
  rintro r v9 ⟨rfl, hb⟩
  have HV9 := Lib.hid (HV8.out.trans (hb.mono HV8.out.size))
  clear hb q1 q2 q3
  obtain ⟨q1, q2, q3⟩ := HCE.out v9 HV9.out
  go_wp2_with fail
  refine (((players_nil v9).mono fun r w' h => (⟨h.1, by rw [h.2]; exact Below.refl _ _⟩ : _ ∧ Below v9.heap.size v9 w'))).mono ?_
  rintro r v10 ⟨rfl, hb⟩
  have HV10 := Lib.hid (HV9.out.trans (hb.mono HV9.out.size))
  clear hb q1 q2 q3
  obtain ⟨q1, q2, q3⟩ := HCE.out v10 HV10.out
  go_wp2_with fail
  refine (sawake v10).mono ?_
  rintro r v11 ⟨rfl, hb⟩
  have HV11 := Lib.hid (HV10.out.trans (hb.mono HV10.out.size))
  clear hb q1 q2 q3
  go_wp2
  go_ret
  exact ⟨rfl, HB0.out.trans (HV11.out.mono HB0.out.size)⟩
end Go.Proofs.Ytfgabmjnpjmmgaa
