/- Friend: awake; acts that came in; has. -/
import Derived.Test.YtohcibmlkngaeaaE6
import Derived.ProofKit
import Derived.OpenShut
import Derived.Lib.SmallJoins
import Derived.Deep.Slices
import Derived.Deep.Matrix
namespace Go.Proofs.Ytohcibmlkngaeaa
open Go.RowKit Go.Maps Go.ChangeShapes
open Go.Joins
set_option maxRecDepth 20000
set_option linter.unusedVariables false
set_option linter.unusedSimpArgs false

theorem own : ownKnob Try.prog.godebug = Option.none := by kernel_rfl
theorem aw1 : askL [] 1 2 = ([(1, 1, 2)], false, 0) := by decide
theorem aw2 : askL [(1, 1, 2)] 2 1 = ([(2, 2, 1)], true, 0) := by decide
theorem aw3 : bloL [(2, 2, 1)] 1 2 = ([(3, 1, 2)], true, 0) := by decide
theorem aw4 : askL [(3, 1, 2)] 2 1 = ([(3, 1, 2)], false, 17) := by decide
theorem ai1 : Inv [(1, 1, 2)] := by have := Inv.nil.ask 1 2; rw [aw1] at this; exact this
theorem ai2 : Inv [(2, 2, 1)] := by have := ai1.ask 2 1; rw [aw2] at this; exact this
theorem ai3 : Inv [(3, 1, 2)] := by have := ai2.block 1 2; rw [aw3] at this; exact this
set_option maxHeartbeats 4000000 in
theorem awake_any (w : World) : Calls Try.prog 12 #[] w fun r w' => r = .returned (.bool true) ∧ Below w.heap.size w w' := by
  have k1 : u32ok 1 := by unfold u32ok; omega
  have k2 : u32ok 2 := by unfold u32ok; omega
  have HN := Lib.hid (new_any w)
  have C1 : Hid (∀ W, Gr W (w.heap.size + 1) w.heap.size 0 [] → Calls Try.prog 18 #[gp (w.heap.size + 1), u 1, u 2] W fun r w' => r = .returned (.tuple #[.bool false, .int .i64 0]) ∧ Gr w' (w.heap.size + 1) w.heap.size 1 [(1, 1, 2)] ∧ ChM w.heap.size W w') := fun W h => by
    have := ask_any _ _ 0 1 2 [] W h Inv.nil (by omega) k1 k2
    rw [aw1] at this
    exact this
  have C2 : Hid (∀ W, Gr W (w.heap.size + 1) w.heap.size 1 [(1, 1, 2)] → Calls Try.prog 18 #[gp (w.heap.size + 1), u 2, u 1] W fun r w' => r = .returned (.tuple #[.bool true, .int .i64 0]) ∧ Gr w' (w.heap.size + 1) w.heap.size 2 [(2, 2, 1)] ∧ ChM w.heap.size W w') := fun W h => by
    have := ask_any _ _ 1 2 1 _ W h ai1 (by omega) k2 k1
    rw [aw2] at this
    exact this
  have C3 : Hid (∀ W, Gr W (w.heap.size + 1) w.heap.size 2 [(2, 2, 1)] → Calls Try.prog 19 #[gp (w.heap.size + 1), u 1, u 2] W fun r w' => r = .returned (.tuple #[.bool true, .int .i64 0]) ∧ Gr w' (w.heap.size + 1) w.heap.size 3 [(3, 1, 2)] ∧ ChM w.heap.size W w') := fun W h => by
    have := block_any _ _ 2 1 2 _ W h ai2 (by omega) k1 k2
    rw [aw3] at this
    exact this
  have C4 : Hid (∀ W, Gr W (w.heap.size + 1) w.heap.size 3 [(3, 1, 2)] → Calls Try.prog 18 #[gp (w.heap.size + 1), u 2, u 1] W fun r w' => r = .returned (.tuple #[.bool false, .int .i64 17]) ∧ Gr w' (w.heap.size + 1) w.heap.size 4 [(3, 1, 2)] ∧ ChM w.heap.size W w') := fun W h => by
    have := ask_any _ _ 3 2 1 _ W h ai3 (by omega) k2 k1
    rw [aw4] at this
    exact this
  have C5 : Hid (∀ W, Gr W (w.heap.size + 1) w.heap.size 4 [(3, 1, 2)] → Calls Try.prog 10 #[gp (w.heap.size + 1), u 1, u 2] W fun r w' => r = .returned (.bool false) ∧ w' = W) := fun W h => by
    obtain ⟨D, h1, h2, _⟩ := h
    have := are_any _ _ _ 1 2 D _ W h1 h2 k1 k2
    have e : decide (tie [(3, 1, 2)] 1 2 = 2 ∨ tie [(3, 1, 2)] 2 1 = 2) = false := by decide
    rw [e] at this
    exact this
  clear k1 k2
  go_enter Try.func12, Try.ntmps12
  go_wp2_with fail
  refine HN.out.mono ?_
  rintro r w1 ⟨rfl, g1, b1⟩
  obtain ⟨L, hL⟩ : ∃ L, L = w.heap.size + 1 := ⟨_, rfl⟩
  rw [← hL] at C1 C2 C3 C4 C5 g1 ⊢
  have HB1 := Lib.hid b1
  have HG1 := Lib.hid g1
  clear b1 g1 hL
  go_wp2_with fail
  refine (C1.out w1 HG1.out).mono ?_
  rintro r w2 ⟨rfl, g2, k2⟩
  go_wp2_with fail
  refine (C2.out w2 g2).mono ?_
  rintro r w3 ⟨rfl, g3, k3⟩
  go_wp2_with fail
  refine (C3.out w3 g3).mono ?_
  rintro r w4 ⟨rfl, g4, k4⟩
  go_wp2_with fail
  refine (C4.out w4 g4).mono ?_
  rintro r w5 ⟨rfl, g5, k5⟩
  have HB5 : Hid (Below w.heap.size w w5) := HB1.out.trans ((((k2.trans k3).trans k4).trans k5).1 w.heap.size (Nat.le_refl _) HB1.out.size)
  go_wp2_with fail
  refine (C5.out w5 g5).mono ?_
  rintro r w6 ⟨rfl, rfl⟩
  go_wp2
  go_ret
  exact ⟨rfl, HB5.out⟩

/-! ## acts that came in -/
abbrev Ac := Int × Nat × Nat
abbrev aC (e : Ac) : Array Value := #[.int .u8 e.1, u e.2.1, u e.2.2]
def Ra (e : Ac) : Prop := 0 ≤ e.1 ∧ u32ok e.2.1 ∧ u32ok e.2.2
theorem open_act {H : Type} {enc : TypeId × Value → H} {W : World} {r : Reach} {b0 : Nat} {v : Value} {d : DataW H} {q : List MemPlace} (hv : Value.okWide Try.prog W r b0 28 v) (h : DataW.Trod enc Try.prog W 0 (fun _ => true) true 28 v d q) :
    ∃ e : Ac, v = .agg (aC e) ∧ Ra e := by
  obtain ⟨cs, rfl, hsz⟩ := WideShapes.okWide_struct Try.underlying28 hv
  obtain ⟨c0, c1, c2, rfl⟩ := array3 (hsz.trans (show Try.prog.cellsOf 28 = 3 by kernel_rfl))
  obtain ⟨fuel, hf⟩ := h
  obtain ⟨xs, m, _, _, _, hlen, hx⟩ := DataW.trod_struct Try.underlying28 hf
  have k5 : Try.prog.cellsOf 5 = 1 := by kernel_rfl
  have k28 : Try.prog.cellsOf 26 = 1 := by kernel_rfl
  match xs, hlen with
  | [y0, y1, y2], _ =>
    have h0 : DataW.trod enc Try.prog W 0 (fun _ => true) true m 5 [c0] = some y0 := by simpa [Value.cells, k5] using hx 0 _ rfl
    have h1 : DataW.trod enc Try.prog W 0 (fun _ => true) true m 26 [c1] = some y1 := by simpa [Value.cells, k5, k28] using hx 1 _ rfl
    have h2 : DataW.trod enc Try.prog W 0 (fun _ => true) true m 26 [c2] = some y2 := by simpa [Value.cells, k5, k28] using hx 2 _ rfl
    obtain ⟨x0, e0, _, w0⟩ := DataW.trod_int Try.underlying5 h0
    obtain ⟨x1, e1, _, w1⟩ := DataW.trod_int Try.underlying26 h1
    obtain ⟨x2, e2, _, w2⟩ := DataW.trod_int Try.underlying26 h2
    simp only [List.cons.injEq, and_true] at e0 e1 e2
    subst e0 e1 e2
    have b0 := bounds_u8 w0
    have b1 := bounds_u32 w1
    have b2 := bounds_u32 w2
    refine ⟨(x0, x1.toNat, x2.toNat), ?_, by exact b0.1, by show x1.toNat < _; omega, by show x2.toNat < _; omega⟩
    simp only [aC, u, show ((x1.toNat : Nat) : Int) = x1 by omega, show ((x2.toNat : Nat) : Int) = x2 by omega]
/-- The acts l are read from A on. -/
def As (w : World) (B : Nat) (A : Option Addr) (l : List Ac) : Prop :=
  0 < l.length → ∃ b o, A = some ⟨b, o, none⟩ ∧ b < B ∧ ∀ i e, l[i]? = some e → w.cell? ⟨b, o + i * 3, none⟩ = some (.int .u8 e.1) ∧ w.cell? ⟨b, o + i * 3 + 1, none⟩ = some (u e.2.1) ∧ w.cell? ⟨b, o + i * 3 + 2, none⟩ = some (u e.2.2)
theorem open_acts {H : Type} {enc : TypeId × Value → H} {W : World} {r : Reach} {b0 : Nat} {v : Value} {d : DataW H} {q : List MemPlace} (hv : Value.okWide Try.prog W r b0 22 v) (h : DataW.Trod enc Try.prog W 0 (fun _ => true) true 22 v d q) :
    ∃ (p : Option Addr × Nat) (l : List Ac), v = .slice p.1 l.length p.2 ∧ As W W.heap.size p.1 l ∧ l.length ≤ 9223372036854775807 ∧ ∀ e ∈ l, Ra e := by
  obtain ⟨A, n, c, rfl⟩ := WideShapes.okWide_slice Try.underlying22 hv
  obtain ⟨fuel, hf⟩ := h
  have c4 : Try.prog.cellsOf 28 = 3 := by kernel_rfl
  have k5 : Try.prog.cellsOf 5 = 1 := by kernel_rfl
  have k28 : Try.prog.cellsOf 26 = 1 := by kernel_rfl
  rcases Deep.open_slice Try.underlying22 hf with ⟨hcs, _⟩ | ⟨a, len, cap, m, k, D, Pl, hcs, _, hl, hm, hmm, _, hx⟩
  · simp [Value.cells] at hcs
    obtain ⟨rfl, rfl, rfl⟩ := hcs
    exact ⟨(none, 0), [], rfl, fun h => by simp at h, by simp, fun e he => by simp at he⟩
  · simp [Value.cells] at hcs
    obtain ⟨rfl, rfl, rfl⟩ := hcs
    rw [c4] at hx
    have each : ∀ i, i < n → ∃ e : Ac, Ra e ∧ W.cell? (a.add (i * 3)) = some (.int .u8 e.1) ∧ W.cell? (a.add (i * 3 + 1)) = some (u e.2.1) ∧ W.cell? (a.add (i * 3 + 2)) = some (u e.2.2) := fun i hi => by
      obtain ⟨cs', h1, h2⟩ := hx i (by rw [hmm]; simp; omega)
      obtain ⟨_, hlen, hcell⟩ := World.cells?_some h1
      match cs', hlen with
      | [c0, c1, c2], _ =>
        obtain ⟨xs, m', _, _, _, hlen', hx'⟩ := DataW.trod_struct Try.underlying28 h2
        match xs, hlen' with
        | [y0, y1, y2], _ =>
        have g0 : DataW.trod enc Try.prog W 0 (fun _ => true) true m' 5 [c0] = some y0 := by simpa [Value.cells, k5] using hx' 0 _ rfl
        have g1 : DataW.trod enc Try.prog W 0 (fun _ => true) true m' 26 [c1] = some y1 := by simpa [Value.cells, k5, k28] using hx' 1 _ rfl
        have g2 : DataW.trod enc Try.prog W 0 (fun _ => true) true m' 26 [c2] = some y2 := by simpa [Value.cells, k5, k28] using hx' 2 _ rfl
        obtain ⟨x0, e0, _, w0⟩ := DataW.trod_int Try.underlying5 g0
        obtain ⟨x1, e1, _, w1⟩ := DataW.trod_int Try.underlying26 g1
        obtain ⟨x2, e2, _, w2⟩ := DataW.trod_int Try.underlying26 g2
        simp only [List.cons.injEq, and_true] at e0 e1 e2
        subst e0 e1 e2
        have b0 := bounds_u8 w0
        have b1 := bounds_u32 w1
        have b2 := bounds_u32 w2
        have q0 := hcell 0 (by omega)
        have q1 := hcell 1 (by omega)
        have q2 := hcell 2 (by omega)
        rw [Deep.add_add] at q0 q1 q2
        refine ⟨(x0, x1.toNat, x2.toNat), ⟨b0.1, by show x1.toNat < _; omega, by show x2.toNat < _; omega⟩, ?_, ?_, ?_⟩
        · simpa using q0
        · simpa [u, show ((x1.toNat : Nat) : Int) = x1 by omega] using q1
        · simpa [u, show ((x2.toNat : Nat) : Int) = x2 by omega] using q2
    obtain ⟨f, hf⟩ := Deep.choose_lt each
    refine ⟨(some a, c), (List.range n).map f, by simp, fun h0 => ?_, by unfold maxLen at hm; simp; omega, fun e he => by
      obtain ⟨i, hi, rfl⟩ := List.mem_map.1 he
      exact (hf i (List.mem_range.1 hi)).1⟩
    simp at h0
    have hc0 := (hf 0 h0).2.1
    obtain ⟨b, off, spot⟩ := a
    have hspot : spot = none := by simpa [Addr.add] using World.cell?_spot hc0
    subst hspot
    refine ⟨b, off, rfl, World.block_lt_of_cell? W ⟨b, off + 0 * 3, none⟩ (by rw [← Go.WideShapes.add_plain]; exact hc0), fun i e he => ?_⟩
    rw [List.getElem?_map] at he
    obtain ⟨i', hi', rfl⟩ := Option.map_eq_some_iff.1 he
    obtain ⟨hin, rfl⟩ := List.getElem?_eq_some_iff.1 hi'
    simp at hin
    simp only [List.getElem_range]
    have hq := (hf i hin).2
    rw [Go.WideShapes.add_plain, Go.WideShapes.add_plain, Go.WideShapes.add_plain] at hq
    exact ⟨hq.1, by rw [Nat.add_assoc]; exact hq.2.1, by rw [Nat.add_assoc]; exact hq.2.2⟩

set_option maxHeartbeats 2000000 in
theorem lhas_any (v : Value) (l : List Nat) (x : Nat) (w : World) (h : S32 w v l) (hl : l.length ≤ 1000) :
    Calls Try.prog 14 #[v, u x] w fun r w' => r = .returned (.bool (decide (x ∈ l))) ∧ w' = w := by
  obtain ⟨A, c, rfl, h1⟩ := h
  obtain ⟨res, hres⟩ : ∃ res, res = decide (x ∈ l) := ⟨_, rfl⟩
  rw [← hres]
  obtain ⟨n, hn⟩ : ∃ n, n = l.length := ⟨_, rfl⟩
  rw [← hn] at h1 hl ⊢
  have H1 := Lib.hid h1
  have HN := Lib.hid hn
  have HRES := Lib.hid hres
  clear h1 hn hres
  go_enter Try.func14, Try.ntmps14
  go_wp2_with fail
  go_loopw [5] (fun y wr => ∃ k : Nat, k ≤ n ∧ y = .int .i64 (k : Int) ∧ Hid (∀ (j : Nat) e, j < k → l[j]? = some e → e ≠ x) ∧ wr = w) (fun y _ => n - (intOf y).toNat)
  case atStart => exact ⟨0, by omega, rfl, fun j e hj => absurd hj (Nat.not_lt_zero j), by first | rfl | trivial⟩
  case round =>
    obtain ⟨k, hk, rfl, HK, rfl⟩ := hrel
    by_cases hlt : k < n
    · obtain ⟨y, hy⟩ : ∃ y, l[k]? = some y := ⟨l[k]'(by rw [← HN.out]; exact hlt), List.getElem?_eq_getElem _⟩
      obtain ⟨b1, o1, rfl, hb1, ha1⟩ := H1.out (by omega)
      have d0 := ha1 k y hy
      have HY := Lib.hid hy
      clear hy ha1 hb1
      by_cases hyx : y = x
      · subst hyx
        have ht : res = true := by rw [HRES.out, decide_eq_true_iff]; exact List.mem_of_getElem? HY.out
        subst ht
        go_wp2
        go_ret
        exact ⟨rfl, rfl⟩
      · have hyz : ¬ (y : Int) = (x : Int) := by omega
        go_wp2
        go_roundw
        case rel =>
          refine ⟨k + 1, by omega, by go_num, fun j e hj hje => ?_, by first | rfl | trivial⟩
          by_cases hjk : j < k
          · exact HK.out j e hjk hje
          · have : j = k := by omega
            subst this
            rw [HY.out] at hje
            injection hje with hje
            rw [← hje]
            exact hyx
        case measure => simp [intOf] <;> omega
    · have hkn : k = n := by omega
      subst hkn
      have hf : res = false := by
        rw [HRES.out, decide_eq_false_iff_not]
        intro he
        obtain ⟨j, hj⟩ := List.getElem?_of_mem he
        exact HK.out j _ (by have := (List.getElem?_eq_some_iff.1 hj).1; have := HN.out; omega) hj rfl
      subst hf
      go_wp2
      go_ret
      exact ⟨rfl, rfl⟩
end Go.Proofs.Ytohcibmlkngaeaa
