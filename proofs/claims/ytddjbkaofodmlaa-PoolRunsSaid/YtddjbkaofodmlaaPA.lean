/- Pool: what a law's text wants; arguments that came in; PoolNil's walk. -/
import Derived.Test.YtddjbkaofodmlaaP8
import Derived.ProofKit
import Derived.OpenShut
import Derived.Lib.SmallJoins
import Derived.Deep.Slices
import Derived.Deep.Matrix
namespace Go.Proofs.Ytddjbkaofodmlaa
open Go.RowKit Go.ChangeShapes
open Go.Joins
set_option maxRecDepth 20000
set_option linter.unusedVariables false
set_option linter.unusedSimpArgs false

theorem own : ownKnob Try.prog.godebug = Option.none := by kernel_rfl
theorem laidOut : laidOutB Try.prog = true := by kernel_rfl
abbrev Ac := Int × Nat × Nat × Int
abbrev aC (e : Ac) : Array Value := #[.int .u8 e.1, .int .u32 (e.2.1 : Int), .int .u32 (e.2.2.1 : Int), .int .i64 e.2.2.2]
def Ra (e : Ac) : Prop := 0 ≤ e.1 ∧ e.2.1 ≤ 4294967295 ∧ e.2.2.1 ≤ 4294967295 ∧ inI e.2.2.2
theorem open_act {H : Type} {enc : TypeId × Value → H} {W : World} {r : Reach} {b0 : Nat} {v : Value} {d : DataW H} {q : List MemPlace} (hv : Value.okWide Try.prog W r b0 31 v) (h : DataW.Trod enc Try.prog W 0 (fun _ => true) true 31 v d q) :
    ∃ e : Ac, v = .agg (aC e) ∧ Ra e := by
  obtain ⟨cs, rfl, hsz⟩ := WideShapes.okWide_struct Try.underlying31 hv
  obtain ⟨c0, c1, c2, c3, rfl⟩ := array4 (hsz.trans (show Try.prog.cellsOf 31 = 4 by kernel_rfl))
  obtain ⟨fuel, hf⟩ := h
  obtain ⟨xs, m, _, _, _, hlen, hx⟩ := DataW.trod_struct Try.underlying31 hf
  have k5 : Try.prog.cellsOf 5 = 1 := by kernel_rfl
  have k28 : Try.prog.cellsOf 29 = 1 := by kernel_rfl
  have k2 : Try.prog.cellsOf 2 = 1 := by kernel_rfl
  match xs, hlen with
  | [y0, y1, y2, y3], _ =>
    have h0 : DataW.trod enc Try.prog W 0 (fun _ => true) true m 5 [c0] = some y0 := by simpa [Value.cells, k5] using hx 0 _ rfl
    have h1 : DataW.trod enc Try.prog W 0 (fun _ => true) true m 29 [c1] = some y1 := by simpa [Value.cells, k5, k28] using hx 1 _ rfl
    have h2 : DataW.trod enc Try.prog W 0 (fun _ => true) true m 29 [c2] = some y2 := by simpa [Value.cells, k5, k28] using hx 2 _ rfl
    have h3 : DataW.trod enc Try.prog W 0 (fun _ => true) true m 2 [c3] = some y3 := by simpa [Value.cells, k5, k28, k2] using hx 3 _ rfl
    obtain ⟨x0, e0, _, w0⟩ := DataW.trod_int Try.underlying5 h0
    obtain ⟨x1, e1, _, w1⟩ := DataW.trod_int Try.underlying29 h1
    obtain ⟨x2, e2, _, w2⟩ := DataW.trod_int Try.underlying29 h2
    obtain ⟨x3, e3, _, w3⟩ := DataW.trod_int Try.underlying2 h3
    simp only [List.cons.injEq, and_true] at e0 e1 e2 e3
    subst e0 e1 e2 e3
    have b0 := bounds_u8 w0
    have b1 := bounds_u32 w1
    have b2 := bounds_u32 w2
    have b3 := bounds_i64 w3
    refine ⟨(x0, x1.toNat, x2.toNat, x3), ?_, by exact b0.1, by show x1.toNat ≤ _; omega, by show x2.toNat ≤ _; omega, b3⟩
    simp only [aC, show ((x1.toNat : Nat) : Int) = x1 by omega, show ((x2.toNat : Nat) : Int) = x2 by omega]
/-- The acts l are read from A on. -/
def As (w : World) (B : Nat) (A : Option Addr) (l : List Ac) : Prop :=
  0 < l.length → ∃ b o, A = some ⟨b, o, none⟩ ∧ b < B ∧ ∀ i e, l[i]? = some e → w.cell? ⟨b, o + i * 4, none⟩ = some (.int .u8 e.1) ∧ w.cell? ⟨b, o + i * 4 + 1, none⟩ = some (.int .u32 (e.2.1 : Int)) ∧ w.cell? ⟨b, o + i * 4 + 2, none⟩ = some (.int .u32 (e.2.2.1 : Int)) ∧ w.cell? ⟨b, o + i * 4 + 3, none⟩ = some (.int .i64 e.2.2.2)
theorem As.below {w W : World} {B : Nat} {A : Option Addr} {l : List Ac} (h : As w B A l) (hb : Below B w W) : As W B A l := fun hl => by
  obtain ⟨b, o, h1, h2, h3⟩ := h hl
  exact ⟨b, o, h1, h2, fun i e he => ⟨(hb.cell (p := ⟨b, _, none⟩) h2).trans (h3 i e he).1, (hb.cell (p := ⟨b, _, none⟩) h2).trans (h3 i e he).2.1, (hb.cell (p := ⟨b, _, none⟩) h2).trans (h3 i e he).2.2.1, (hb.cell (p := ⟨b, _, none⟩) h2).trans (h3 i e he).2.2.2⟩⟩
theorem open_acts {H : Type} {enc : TypeId × Value → H} {W : World} {r : Reach} {b0 : Nat} {v : Value} {d : DataW H} {q : List MemPlace} (hv : Value.okWide Try.prog W r b0 22 v) (h : DataW.Trod enc Try.prog W 0 (fun _ => true) true 22 v d q) :
    ∃ (u : Option Addr × Nat) (l : List Ac), v = .slice u.1 l.length u.2 ∧ As W W.heap.size u.1 l ∧ l.length ≤ 9223372036854775807 ∧ ∀ e ∈ l, Ra e := by
  obtain ⟨A, n, c, rfl⟩ := WideShapes.okWide_slice Try.underlying22 hv
  obtain ⟨fuel, hf⟩ := h
  have c4 : Try.prog.cellsOf 31 = 4 := by kernel_rfl
  have k5 : Try.prog.cellsOf 5 = 1 := by kernel_rfl
  have k28 : Try.prog.cellsOf 29 = 1 := by kernel_rfl
  have k2 : Try.prog.cellsOf 2 = 1 := by kernel_rfl
  rcases Deep.open_slice Try.underlying22 hf with ⟨hcs, _⟩ | ⟨a, len, cap, m, k, D, Pl, hcs, _, hl, hm, hmm, _, hx⟩
  · simp [Value.cells] at hcs
    obtain ⟨rfl, rfl, rfl⟩ := hcs
    exact ⟨(none, 0), [], rfl, fun h => by simp at h, by simp, fun e he => by simp at he⟩
  · simp [Value.cells] at hcs
    obtain ⟨rfl, rfl, rfl⟩ := hcs
    rw [c4] at hx
    have each : ∀ i, i < n → ∃ e : Ac, Ra e ∧ W.cell? (a.add (i * 4)) = some (.int .u8 e.1) ∧ W.cell? (a.add (i * 4 + 1)) = some (.int .u32 (e.2.1 : Int)) ∧ W.cell? (a.add (i * 4 + 2)) = some (.int .u32 (e.2.2.1 : Int)) ∧ W.cell? (a.add (i * 4 + 3)) = some (.int .i64 e.2.2.2) := fun i hi => by
      obtain ⟨cs', h1, h2⟩ := hx i (by rw [hmm]; simp; omega)
      obtain ⟨_, hlen, hcell⟩ := World.cells?_some h1
      match cs', hlen with
      | [c0, c1, c2, c3], _ =>
        obtain ⟨xs, m', _, _, _, hlen', hx'⟩ := DataW.trod_struct Try.underlying31 h2
        match xs, hlen' with
        | [y0, y1, y2, y3], _ =>
        have g0 : DataW.trod enc Try.prog W 0 (fun _ => true) true m' 5 [c0] = some y0 := by simpa [Value.cells, k5] using hx' 0 _ rfl
        have g1 : DataW.trod enc Try.prog W 0 (fun _ => true) true m' 29 [c1] = some y1 := by simpa [Value.cells, k5, k28] using hx' 1 _ rfl
        have g2 : DataW.trod enc Try.prog W 0 (fun _ => true) true m' 29 [c2] = some y2 := by simpa [Value.cells, k5, k28] using hx' 2 _ rfl
        have g3 : DataW.trod enc Try.prog W 0 (fun _ => true) true m' 2 [c3] = some y3 := by simpa [Value.cells, k5, k28, k2] using hx' 3 _ rfl
        obtain ⟨x0, e0, _, w0⟩ := DataW.trod_int Try.underlying5 g0
        obtain ⟨x1, e1, _, w1⟩ := DataW.trod_int Try.underlying29 g1
        obtain ⟨x2, e2, _, w2⟩ := DataW.trod_int Try.underlying29 g2
        obtain ⟨x3, e3, _, w3⟩ := DataW.trod_int Try.underlying2 g3
        simp only [List.cons.injEq, and_true] at e0 e1 e2 e3
        subst e0 e1 e2 e3
        have b0 := bounds_u8 w0
        have b1 := bounds_u32 w1
        have b2 := bounds_u32 w2
        have b3 := bounds_i64 w3
        have q0 := hcell 0 (by omega)
        have q1 := hcell 1 (by omega)
        have q2 := hcell 2 (by omega)
        have q3 := hcell 3 (by omega)
        rw [Deep.add_add] at q0 q1 q2 q3
        refine ⟨(x0, x1.toNat, x2.toNat, x3), ⟨b0.1, by show x1.toNat ≤ _; omega, by show x2.toNat ≤ _; omega, b3⟩, ?_, ?_, ?_, ?_⟩
        · simpa using q0
        · simpa [show (x1.toNat : Int) = x1 by omega] using q1
        · simpa [show (x2.toNat : Int) = x2 by omega] using q2
        · simpa using q3
    obtain ⟨f, hf⟩ := Deep.choose_lt each
    refine ⟨(some a, c), (List.range n).map f, by simp, fun h0 => ?_, by unfold maxLen at hm; simp; omega, fun e he => by
      obtain ⟨i, hi, rfl⟩ := List.mem_map.1 he
      exact (hf i (List.mem_range.1 hi)).1⟩
    simp at h0
    have hc0 := (hf 0 h0).2.1
    obtain ⟨b, off, spot⟩ := a
    have hspot : spot = none := by simpa [Addr.add] using World.cell?_spot hc0
    subst hspot
    refine ⟨b, off, rfl, World.block_lt_of_cell? W ⟨b, off + 0 * 4, none⟩ (by rw [← Go.WideShapes.add_plain]; exact hc0), fun i e he => ?_⟩
    rw [List.getElem?_map] at he
    obtain ⟨i', hi', rfl⟩ := Option.map_eq_some_iff.1 he
    obtain ⟨hin, rfl⟩ := List.getElem?_eq_some_iff.1 hi'
    simp at hin
    simp only [List.getElem_range]
    have hq := (hf i hin).2
    rw [Go.WideShapes.add_plain, Go.WideShapes.add_plain, Go.WideShapes.add_plain, Go.WideShapes.add_plain] at hq
    exact ⟨hq.1, by rw [Nat.add_assoc]; exact hq.2.1, by rw [Nat.add_assoc]; exact hq.2.2.1, by rw [Nat.add_assoc]; exact hq.2.2.2⟩
set_option maxHeartbeats 8000000 in
theorem nil_walk (e : Ac) (w : World) (hr : Ra e) : Calls Try.prog 6 #[.agg (aC e)] w fun r w' => r = .returned (.bool true) ∧ Below w.heap.size w w' := by
  obtain ⟨d, x, y, now⟩ := e
  obtain ⟨hd, -, -, -⟩ := hr
  simp only [aC] at hd ⊢
  obtain ⟨w0, hw0⟩ : ∃ w0, w0 = w.alloc (.cells #[.int .u8 d, .int .u32 (x : Int), .int .u32 (y : Int), .int .i64 now] 31) := ⟨_, rfl⟩
  have hb0 : Below w.heap.size w w0 := by rw [hw0]; exact (Below.refl _ _).alloc (Nat.le_refl _) _
  have hq0 : w0.heap[w.heap.size]? = some (.cells #[.int .u8 d, .int .u32 (x : Int), .int .u32 (y : Int), .int .i64 now] 31 (0, 0)) := by rw [hw0]; exact heap_alloc_new w _
  have HCE : Hid (∀ W, Below w0.heap.size w0 W → W.cell? ⟨w.heap.size, 0, none⟩ = some (.int .u8 d) ∧ W.cell? ⟨w.heap.size, 1, none⟩ = some (.int .u32 (x : Int)) ∧ W.cell? ⟨w.heap.size, 2, none⟩ = some (.int .u32 (y : Int)) ∧ W.cell? ⟨w.heap.size, 3, none⟩ = some (.int .i64 now)) := fun W hW => by
    have e := (hW.block _ (lt_of_block hq0)).trans hq0
    exact ⟨cell_of_row W _ 0 _ _ _ e, cell_of_row W _ 1 _ _ _ e, cell_of_row W _ 2 _ _ _ e, cell_of_row W _ 3 _ _ _ e⟩
  have HB0 := Lib.hid hb0
  have H0 := Lib.hid hw0
  have HBS : Hid (Below w0.heap.size w0 w0) := Below.refl _ _
  have HD := Lib.hid (do_miss d hd (.pointer none) x y now w0 (.inl rfl))
  have HI : Hid (∀ W, Calls Try.prog 13 #[.pointer none, .int .u32 (x : Int)] W fun r w' => r = .returned (.tuple #[iV 0 0 0, .bool false]) ∧ Below W.heap.size W w') := fun W => inst_miss _ x W (.inl rfl)
  clear hw0 hb0 hq0 hd
  go_enter Try.func6, Try.ntmps6
  go_upto_region 1 with (fail)
  rw [← H0.out]
  obtain ⟨q0, q1, q2, q3⟩ := HCE.out w0 HBS.out
  go_wp2_with fail
  refine HD.out.mono ?_
  rintro r v1 ⟨rfl, hb⟩
  have HV1 := Lib.hid hb
  clear hb q0 q1 q2 q3
  obtain ⟨q0, q1, q2, q3⟩ := HCE.out v1 HV1.out
  go_wp2_with fail
  refine (HI.out v1).mono ?_
  rintro r v2 ⟨rfl, hb⟩
  obtain ⟨v3, hv3⟩ : ∃ v3, v3 = v2.alloc (.cells (iC 0 0 0) 42) := ⟨_, rfl⟩
  have hb3 : Below v2.heap.size v2 v3 := by rw [hv3]; exact (Below.refl _ _).alloc (Nat.le_refl _) _
  have hq3 : v3.heap[v2.heap.size]? = some (.cells (iC 0 0 0) 42 (0, 0)) := by rw [hv3]; exact heap_alloc_new v2 _
  have z0 := cell_of_row v3 v2.heap.size 0 _ _ _ hq3
  have z1 := cell_of_row v3 v2.heap.size 1 _ _ _ hq3
  have z2 := cell_of_row v3 v2.heap.size 2 _ _ _ hq3
  simp at z0 z1 z2
  have HV2 := Lib.hid (HV1.out.trans (hb.mono HV1.out.size))
  have HV3 := Lib.hid (HV2.out.trans (hb3.mono HV2.out.size))
  have H3 := Lib.hid hv3
  clear hb hb3 hq3 hv3 q0 q1 q2 q3
  obtain ⟨q0, q1, q2, q3⟩ := HCE.out v3 HV3.out
  go_upto_region 4 with (fail)
  rw [← H3.out]
  go_wp2_with fail
  refine (least_nil v3).mono ?_
  rintro r v4 ⟨rfl, rfl⟩
  go_wp2_with fail
  refine (late_nil now v4).mono ?_
  rintro r v5 ⟨rfl, rfl⟩
  go_wp2_with fail
  refine (many_nil v5).mono ?_
  rintro r v6 ⟨rfl, rfl⟩
  go_wp2_with fail
  refine (pawake v6).mono ?_
  rintro r v7 ⟨rfl, hb⟩
  have HV7 := Lib.hid (HV3.out.trans (hb.mono HV3.out.size))
  clear hb q0 q1 q2 q3
  go_wp2
  go_ret
  exact ⟨rfl, HB0.out.trans (HV7.out.mono HB0.out.size)⟩
end Go.Proofs.Ytddjbkaofodmlaa
