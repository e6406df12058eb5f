/- Ledger: entries and attempts that came in; LedgerNil's walk. -/
import Derived.Test.YticegnbdpihdpaaL3
import Derived.ProofKit
import Derived.OpenShut
import Derived.Lib.SmallJoins
namespace Go.Proofs.Yticegnbdpihdpaa
open Go.RowKit Go.ChangeShapes
open Go.Joins
set_option maxRecDepth 20000

theorem own : ownKnob Try.prog.godebug = Option.none := by kernel_rfl
theorem laidOut : laidOutB Try.prog = true := by kernel_rfl
def BdE (n o a : Nat) (x : Int) : Prop := n < 18446744073709551616 ∧ o < 4294967296 ∧ a < 4294967296 ∧ -9223372036854775808 ≤ x ∧ x ≤ 9223372036854775807
theorem open_entry {H : Type} {enc : TypeId × Value → H} {W : World} {r : Reach} {b0 : Nat} {v : Value} {d : DataW H} {q : List MemPlace} (hv : Value.okWide Try.prog W r b0 33 v) (h : DataW.Trod enc Try.prog W 0 (fun _ => true) true 33 v d q) :
    ∃ (n o a : Nat) (x : Int), v = eV n o a x ∧ BdE n o a x := by
  obtain ⟨cs, rfl, hsz⟩ := WideShapes.okWide_struct Try.underlying33 hv
  obtain ⟨c0, c1, c2, c3, rfl⟩ := array4 (hsz.trans (show Try.prog.cellsOf 33 = 4 by kernel_rfl))
  obtain ⟨fuel, hf⟩ := h
  obtain ⟨y0, y1, y2, y3, m, _, _, h0, h1, h2, h3⟩ := trod_struct4 Try.underlying33 hf
  have k2 : Try.prog.cellsOf 2 = 1 := by kernel_rfl
  have k26 : Try.prog.cellsOf 26 = 1 := by kernel_rfl
  have k27 : Try.prog.cellsOf 27 = 1 := by kernel_rfl
  have g0 : DataW.trod enc Try.prog W 0 (fun _ => true) true m 26 [c0] = some y0 := by simpa [Value.cells, k26] using h0
  have g1 : DataW.trod enc Try.prog W 0 (fun _ => true) true m 27 [c1] = some y1 := by simpa [Value.cells, k27] using h1
  have g2 : DataW.trod enc Try.prog W 0 (fun _ => true) true m 27 [c2] = some y2 := by simpa [Value.cells, k27] using h2
  have g3 : DataW.trod enc Try.prog W 0 (fun _ => true) true m 2 [c3] = some y3 := by simpa [Value.cells, k2] using h3
  obtain ⟨x0, e0, _, w0⟩ := DataW.trod_int Try.underlying26 g0
  obtain ⟨x1, e1, _, w1⟩ := DataW.trod_int Try.underlying27 g1
  obtain ⟨x2, e2, _, w2⟩ := DataW.trod_int Try.underlying27 g2
  obtain ⟨x3, e3, _, w3⟩ := DataW.trod_int Try.underlying2 g3
  simp only [List.cons.injEq, and_true] at e0 e1 e2 e3
  subst e0 e1 e2 e3
  have b0 := bounds_u64 w0
  have b1 := bounds_u32 w1
  have b2 := bounds_u32 w2
  have b3 := bounds_i64 w3
  obtain ⟨n, rfl⟩ : ∃ p : Nat, x0 = (p : Int) := ⟨x0.toNat, by omega⟩
  obtain ⟨o, rfl⟩ : ∃ p : Nat, x1 = (p : Int) := ⟨x1.toNat, by omega⟩
  obtain ⟨a, rfl⟩ : ∃ p : Nat, x2 = (p : Int) := ⟨x2.toNat, by omega⟩
  exact ⟨n, o, a, x3, rfl, by omega, by omega, by omega, by omega, by omega⟩
theorem open_try {H : Type} {enc : TypeId × Value → H} {W : World} {r : Reach} {b0 : Nat} {v : Value} {d : DataW H} {q : List MemPlace} (hv : Value.okWide Try.prog W r b0 55 v) (h : DataW.Trod enc Try.prog W 0 (fun _ => true) true 55 v d q) :
    ∃ (n o a : Nat) (x : Int), v = eV n o a x ∧ BdE n o a x := by
  obtain ⟨cs, rfl, hsz⟩ := WideShapes.okWide_struct Try.underlying55 hv
  obtain ⟨c0, c1, c2, c3, rfl⟩ := array4 (hsz.trans (show Try.prog.cellsOf 55 = 4 by kernel_rfl))
  obtain ⟨fuel, hf⟩ := h
  obtain ⟨y0, y1, y2, y3, m, _, _, h0, h1, h2, h3⟩ := trod_struct4 Try.underlying55 hf
  have k2 : Try.prog.cellsOf 2 = 1 := by kernel_rfl
  have k26 : Try.prog.cellsOf 26 = 1 := by kernel_rfl
  have k27 : Try.prog.cellsOf 27 = 1 := by kernel_rfl
  have g0 : DataW.trod enc Try.prog W 0 (fun _ => true) true m 26 [c0] = some y0 := by simpa [Value.cells, k26] using h0
  have g1 : DataW.trod enc Try.prog W 0 (fun _ => true) true m 27 [c1] = some y1 := by simpa [Value.cells, k27] using h1
  have g2 : DataW.trod enc Try.prog W 0 (fun _ => true) true m 27 [c2] = some y2 := by simpa [Value.cells, k27] using h2
  have g3 : DataW.trod enc Try.prog W 0 (fun _ => true) true m 2 [c3] = some y3 := by simpa [Value.cells, k2] using h3
  obtain ⟨x0, e0, _, w0⟩ := DataW.trod_int Try.underlying26 g0
  obtain ⟨x1, e1, _, w1⟩ := DataW.trod_int Try.underlying27 g1
  obtain ⟨x2, e2, _, w2⟩ := DataW.trod_int Try.underlying27 g2
  obtain ⟨x3, e3, _, w3⟩ := DataW.trod_int Try.underlying2 g3
  simp only [List.cons.injEq, and_true] at e0 e1 e2 e3
  subst e0 e1 e2 e3
  have b0 := bounds_u64 w0
  have b1 := bounds_u32 w1
  have b2 := bounds_u32 w2
  have b3 := bounds_i64 w3
  obtain ⟨n, rfl⟩ : ∃ p : Nat, x0 = (p : Int) := ⟨x0.toNat, by omega⟩
  obtain ⟨o, rfl⟩ : ∃ p : Nat, x1 = (p : Int) := ⟨x1.toNat, by omega⟩
  obtain ⟨a, rfl⟩ : ∃ p : Nat, x2 = (p : Int) := ⟨x2.toNat, by omega⟩
  exact ⟨n, o, a, x3, rfl, by omega, by omega, by omega, by omega, by omega⟩

set_option maxHeartbeats 4000000 in
theorem lnil_walk (n o a : Nat) (x : Int) (tn tu ta : Nat) (tw : Int) (w : World) (_h1 : BdE n o a x) (_h2 : BdE tn tu ta tw) :
    Calls Try.prog 6 #[eV n o a x, eV tn tu ta tw] w fun r w' => r = .returned (.bool true) ∧ Below w.heap.size w w' := by
  obtain ⟨w0, hw0⟩ : ∃ w0, w0 = (w.alloc (.cells #[.int .u64 (n : Int), .int .u32 (o : Int), .int .u32 (a : Int), .int .i64 x] 33)).alloc (.cells #[.int .u64 (tn : Int), .int .u32 (tu : Int), .int .u32 (ta : Int), .int .i64 tw] 55) := ⟨_, rfl⟩
  have hb0 : Below w.heap.size w w0 := by rw [hw0]; exact ((Below.refl _ _).alloc (Nat.le_refl _) _).alloc (by simp) _
  have hp1 : w0.heap[w.heap.size]? = some (.cells #[.int .u64 (n : Int), .int .u32 (o : Int), .int .u32 (a : Int), .int .i64 x] 33 (0, 0)) := by
    rw [hw0]; exact (Below.heap_alloc _ _ _ (by simp)).trans (heap_alloc_new w _)
  have hp2 : w0.heap[w.heap.size + 1]? = some (.cells #[.int .u64 (tn : Int), .int .u32 (tu : Int), .int .u32 (ta : Int), .int .i64 tw] 55 (0, 0)) := by
    have := heap_alloc_new (w.alloc (.cells #[.int .u64 (n : Int), .int .u32 (o : Int), .int .u32 (a : Int), .int .i64 x] 33)) (.cells #[.int .u64 (tn : Int), .int .u32 (tu : Int), .int .u32 (ta : Int), .int .i64 tw] 55)
    rw [hw0]
    rwa [World.size_alloc] at this
  have HCE : Hid (∀ W, Below w0.heap.size w0 W → (W.cell? ⟨w.heap.size, 0, none⟩ = some (.int .u64 (n : Int)) ∧ W.cell? ⟨w.heap.size, 1, none⟩ = some (.int .u32 (o : Int)) ∧ W.cell? ⟨w.heap.size, 2, none⟩ = some (.int .u32 (a : Int)) ∧ W.cell? ⟨w.heap.size, 3, none⟩ = some (.int .i64 x)) ∧
      W.cell? ⟨w.heap.size + 1, 0, none⟩ = some (.int .u64 (tn : Int)) ∧ W.cell? ⟨w.heap.size + 1, 1, none⟩ = some (.int .u32 (tu : Int)) ∧ W.cell? ⟨w.heap.size + 1, 2, none⟩ = some (.int .u32 (ta : Int)) ∧ W.cell? ⟨w.heap.size + 1, 3, none⟩ = some (.int .i64 tw)) := fun W hW => by
    have e1 := (hW.block _ (lt_of_block hp1)).trans hp1
    have e2 := (hW.block _ (lt_of_block hp2)).trans hp2
    exact ⟨⟨cell_of_row W _ 0 _ _ _ e1, cell_of_row W _ 1 _ _ _ e1, cell_of_row W _ 2 _ _ _ e1, cell_of_row W _ 3 _ _ _ e1⟩, cell_of_row W _ 0 _ _ _ e2, cell_of_row W _ 1 _ _ _ e2, cell_of_row W _ 2 _ _ _ e2, cell_of_row W _ 3 _ _ _ e2⟩
  have H0 := Lib.hid hw0
  have HB0 := Lib.hid hb0
  obtain ⟨⟨p0, p1, p2, p3⟩, q0, q1, q2, q3⟩ := HCE.out w0 (Below.refl _ _)
  clear hw0 hb0 hp1 hp2
  go_enter Try.func6, Try.ntmps6
  go_upto_region 1 with (fail)
  rw [← H0.out]
  go_wp2_with fail
  refine (get_nil n w0).mono ?_
  rintro e w1 ⟨rfl, hb1⟩
  obtain ⟨w2, hw2⟩ : ∃ w2, w2 = w1.alloc (.cells #[.int .u64 0, .int .u32 0, .int .u32 0, .int .i64 0] 33) := ⟨_, rfl⟩
  have HB2 : Hid (Below w0.heap.size w0 w2) := by rw [hw2]; exact hb1.alloc hb1.size _
  have HQ2 : Hid (w2.heap[w1.heap.size]? = some (.cells #[.int .u64 0, .int .u32 0, .int .u32 0, .int .i64 0] 33 (0, 0))) := by rw [hw2]; exact heap_alloc_new w1 _
  have H2 := Lib.hid hw2
  clear hw2 hb1 p0 p1 p2 p3 q0 q1 q2 q3
  obtain ⟨⟨p0, p1, p2, p3⟩, q0, q1, q2, q3⟩ := HCE.out w2 HB2.out
  go_upto_region 3 with (fail)
  rw [← H2.out]
  go_wp2_with fail
  refine (issue_nil n o a x tw w2).mono ?_
  rintro e w3 ⟨rfl, hb3⟩
  have HB3 := Lib.hid (HB2.out.trans (hb3.mono HB2.out.size))
  have HQ3 := Lib.hid ((hb3.block w1.heap.size (lt_of_block HQ2.out)).trans HQ2.out)
  clear hb3 p0 p1 p2 p3 q0 q1 q2 q3
  obtain ⟨_, q0, q1, q2, q3⟩ := HCE.out w3 HB3.out
  go_wp2_with fail
  refine (spend_missing (.pointer none) tn tu ta tw w3 (get_nil tn w3)).mono ?_
  rintro e w4 ⟨rfl, hb4⟩
  have HB4 := Lib.hid (HB3.out.trans (hb4.mono HB3.out.size))
  have HQ4 := Lib.hid ((hb4.block w1.heap.size (lt_of_block HQ3.out)).trans HQ3.out)
  clear hb4 q0 q1 q2 q3
  obtain ⟨_, q0, q1, q2, q3⟩ := HCE.out w4 HB4.out
  obtain ⟨w5, hw5⟩ : ∃ w5, w5 = w4.alloc (.cells #[.int .u64 (tn : Int)] 26) := ⟨_, rfl⟩
  have hb5 : Below w4.heap.size w4 w5 := by rw [hw5]; exact (Below.refl _ _).alloc (Nat.le_refl _) _
  have hq5 : w5.heap[w4.heap.size]? = some (.cells #[.int .u64 (tn : Int)] 26 (0, 0)) := by rw [hw5]; exact heap_alloc_new w4 _
  have hrv := revoke_nil w4.heap.size 0 tn w5 (lt_of_block hq5) (cell_of_row w5 w4.heap.size 0 _ _ _ hq5)
  rw [hw5] at hrv
  have HRV := Lib.hid hrv
  have HB5 := Lib.hid (HB4.out.trans (hb5.mono HB4.out.size))
  have HQ5 := Lib.hid ((hb5.block w1.heap.size (lt_of_block HQ4.out)).trans HQ4.out)
  have H5 := Lib.hid hw5
  clear hrv hb5 hq5 hw5
  go_wp2_with fail
  refine HRV.out.mono ?_
  rintro e w6 ⟨rfl, hb6⟩
  rw [← H5.out] at hb6
  have HB6 := Lib.hid (HB5.out.trans (hb6.mono HB5.out.size))
  have HQ6 := Lib.hid ((hb6.block w1.heap.size (lt_of_block HQ5.out)).trans HQ5.out)
  clear hb6 q0 q1 q2 q3
  obtain ⟨_, q0, q1, q2, q3⟩ := HCE.out w6 HB6.out
  have r0 := cell_of_row w6 w1.heap.size 0 _ _ _ HQ6.out
  have r1 := cell_of_row w6 w1.heap.size 1 _ _ _ HQ6.out
  have r2 := cell_of_row w6 w1.heap.size 2 _ _ _ HQ6.out
  have r3 := cell_of_row w6 w1.heap.size 3 _ _ _ HQ6.out
  simp at r0 r1 r2 r3
  go_wp2_with fail
  refine (sweep_nil tw w6).mono ?_
  rintro e w7 ⟨rfl, rfl⟩
  go_wp2_with fail
  refine (nonces_nil w6).mono ?_
  rintro e w7 ⟨rfl, rfl⟩
  go_wp2_with fail
  refine (len_nil w6).mono ?_
  rintro e w7 ⟨rfl, rfl⟩
  go_wp2_with fail
  refine (lawake w6).mono ?_
  rintro e w7 ⟨rfl, hb7⟩
  go_wp2
  go_ret
  exact ⟨rfl, (HB0.out.trans (HB6.out.mono HB0.out.size)).trans (hb7.mono (HB0.out.trans (HB6.out.mono HB0.out.size)).size)⟩
end Go.Proofs.Yticegnbdpihdpaa
