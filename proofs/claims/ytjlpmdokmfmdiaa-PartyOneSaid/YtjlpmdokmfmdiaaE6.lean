/- Party: awake; acts that came in. -/
import Derived.Test.YtjlpmdokmfmdiaaE5
import Derived.ProofKit
import Derived.OpenShut
import Derived.Lib.SmallJoins
import Derived.Deep.Slices
import Derived.Deep.Matrix
namespace Go.Proofs.Ytjlpmdokmfmdiaa.P
open Go.RowKit Go.Maps Go.ChangeShapes
open Go.Joins
set_option maxRecDepth 20000
set_option linter.unusedVariables false
set_option linter.unusedSimpArgs false

theorem own : ownKnob Try.prog.godebug = Option.none := by kernel_rfl
theorem laidOut : laidOutB Try.prog = true := by kernel_rfl
theorem aw1 : inviteS 3 [] 1 2 = ([⟨1, 1, [1], [2]⟩], 1, 0) := rfl
theorem aw2 : joinS [⟨1, 1, [1], [2]⟩] 1 2 = ([⟨1, 1, [1, 2], []⟩], 0) := rfl
theorem aw3 : leaveS [⟨1, 1, [1, 2], []⟩] 1 = ([], 1, true, 0) := rfl
theorem ai1 : Inv [⟨1, 1, [1], [2]⟩] := by have := (nx_invite Inv.nil (by simp) 3 1 2).1; rw [aw1] at this; exact this
theorem ai2 : Inv [⟨1, 1, [1, 2], []⟩] := by have := (nx_join ai1 1 2).1; rw [aw2] at this; exact this
set_option maxHeartbeats 4000000 in
theorem awake_any (w : World) : Calls Try.prog 18 #[] w fun r w' => r = .returned (.bool true) ∧ Below w.heap.size w w' := by
  have HN := Lib.hid (new_bk 3 w)
  have C1 : Hid (∀ W B vi, Bk W B w.heap.size 3 vi [] → Calls Try.prog 21 #[bp B, .int .u32 1, .int .u32 2] W fun r w' => r = .returned (.tuple #[.int .u32 1, .int .i64 0]) ∧ PutP B w.heap.size 3 vi [⟨1, 1, [1], [2]⟩] W w') := fun W B vi h => by
    have := invite_any B w.heap.size 3 vi [] 1 2 W h Inv.nil (by simp) (by decide)
    rw [aw1] at this
    exact this
  have C2 : Hid (∀ W B vi, Bk W B w.heap.size 3 vi [⟨1, 1, [1], [2]⟩] → Calls Try.prog 25 #[bp B, .int .u32 1, .int .u32 2] W fun r w' => r = .returned (.int .i64 0) ∧ PutP B w.heap.size 3 vi [⟨1, 1, [1, 2], []⟩] W w') := fun W B vi h => by
    have := join_any B w.heap.size 3 vi _ 1 2 W h ai1 (by simp)
    rw [aw2] at this
    exact this
  have C3 : Hid (∀ W B vi, Bk W B w.heap.size 3 vi [⟨1, 1, [1, 2], []⟩] → Calls Try.prog 23 #[bp B, .int .u32 1] W fun r w' => r = .returned (.tuple #[.int .u32 1, .bool true, .int .i64 0]) ∧ PutP B w.heap.size 3 vi [] W w') := fun W B vi h => by
    have := leave_any B w.heap.size 3 vi _ 1 W h ai2 (by simp)
    rw [aw3] at this
    exact this
  have C4 : Hid (∀ W B vi, Bk W B w.heap.size 3 vi [] → Calls Try.prog 15 #[bp B, .int .u32 2] W fun r w' => r = .returned (.int .u32 0) ∧ Below W.heap.size W w') := fun W B vi h => of_any B w.heap.size 3 vi [] 2 W h (by simp) (fun e he => by cases he)
  go_enter Try.func18, Try.ntmps18
  go_wp2_with fail
  refine HN.out.mono ?_
  rintro r w1 ⟨B, rfl, hB, hbk1, hb1⟩
  rw [show max (3 : Int) 0 = 3 from by decide] at hbk1
  have HB1 := Lib.hid hb1
  have HK1 := Lib.hid hbk1
  clear hb1 hbk1
  go_wp2_with fail
  refine (C1.out w1 B _ HK1.out).mono ?_
  rintro r w2 ⟨rfl, v2, k2, s2⟩
  go_wp2_with fail
  refine (C2.out w2 B v2 k2).mono ?_
  rintro r w3 ⟨rfl, v3, k3, s3⟩
  go_wp2_with fail
  refine (C3.out w3 B v3 k3).mono ?_
  rintro r w4 ⟨rfl, v4, k4, s4⟩
  have HS4 : Hid (Below w.heap.size w w4) := HB1.out.trans (((s2.trans s3).trans s4).below)
  clear s2 s3 s4 k2 k3
  go_wp2_with fail
  refine (C4.out w4 B v4 k4).mono ?_
  rintro r w5 ⟨rfl, hb5⟩
  have HS5 : Hid (Below w.heap.size w w5) := HS4.out.trans (hb5.mono HS4.out.size)
  clear hb5
  go_wp2
  go_ret
  exact ⟨rfl, HS5.out⟩

/-! ## acts that came in -/
abbrev Ac := Int × Nat × Nat
abbrev aC (e : Ac) : Array Value := #[.int .u8 e.1, .int .u32 (e.2.1 : Int), .int .u32 (e.2.2 : Int)]
def Ra (e : Ac) : Prop := 0 ≤ e.1 ∧ e.2.1 < 4294967296 ∧ e.2.2 < 4294967296
theorem open_act {H : Type} {enc : TypeId × Value → H} {W : World} {r : Reach} {b0 : Nat} {v : Value} {d : DataW H} {q : List MemPlace} (hv : Value.okWide Try.prog W r b0 28 v) (h : DataW.Trod enc Try.prog W 0 (fun _ => true) true 28 v d q) :
    ∃ e : Ac, v = .agg (aC e) ∧ Ra e := by
  obtain ⟨cs, rfl, hsz⟩ := WideShapes.okWide_struct Try.underlying28 hv
  obtain ⟨c0, c1, c2, rfl⟩ := array3 (hsz.trans (show Try.prog.cellsOf 28 = 3 by kernel_rfl))
  obtain ⟨fuel, hf⟩ := h
  obtain ⟨xs, m, _, _, _, hlen, hx⟩ := DataW.trod_struct Try.underlying28 hf
  have k5 : Try.prog.cellsOf 5 = 1 := by kernel_rfl
  have k28 : Try.prog.cellsOf 26 = 1 := by kernel_rfl
  match xs, hlen with
  | [y0, y1, y2], _ =>
    have h0 : DataW.trod enc Try.prog W 0 (fun _ => true) true m 5 [c0] = some y0 := by simpa [Value.cells, k5] using hx 0 _ rfl
    have h1 : DataW.trod enc Try.prog W 0 (fun _ => true) true m 26 [c1] = some y1 := by simpa [Value.cells, k5, k28] using hx 1 _ rfl
    have h2 : DataW.trod enc Try.prog W 0 (fun _ => true) true m 26 [c2] = some y2 := by simpa [Value.cells, k5, k28] using hx 2 _ rfl
    obtain ⟨x0, e0, _, w0⟩ := DataW.trod_int Try.underlying5 h0
    obtain ⟨x1, e1, _, w1⟩ := DataW.trod_int Try.underlying26 h1
    obtain ⟨x2, e2, _, w2⟩ := DataW.trod_int Try.underlying26 h2
    simp only [List.cons.injEq, and_true] at e0 e1 e2
    subst e0 e1 e2
    have b0 := bounds_u8 w0
    have b1 := bounds_u32 w1
    have b2 := bounds_u32 w2
    refine ⟨(x0, x1.toNat, x2.toNat), ?_, by exact b0.1, by show x1.toNat < _; omega, by show x2.toNat < _; omega⟩
    simp only [aC, show ((x1.toNat : Nat) : Int) = x1 by omega, show ((x2.toNat : Nat) : Int) = x2 by omega]
/-- The acts l are read from A on. -/
def As (w : World) (B : Nat) (A : Option Addr) (l : List Ac) : Prop :=
  0 < l.length → ∃ b o, A = some ⟨b, o, none⟩ ∧ b < B ∧ ∀ i e, l[i]? = some e → w.cell? ⟨b, o + i * 3, none⟩ = some (.int .u8 e.1) ∧ w.cell? ⟨b, o + i * 3 + 1, none⟩ = some (.int .u32 (e.2.1 : Int)) ∧ w.cell? ⟨b, o + i * 3 + 2, none⟩ = some (.int .u32 (e.2.2 : Int))
theorem open_acts {H : Type} {enc : TypeId × Value → H} {W : World} {r : Reach} {b0 : Nat} {v : Value} {d : DataW H} {q : List MemPlace} (hv : Value.okWide Try.prog W r b0 22 v) (h : DataW.Trod enc Try.prog W 0 (fun _ => true) true 22 v d q) :
    ∃ (p : Option Addr × Nat) (l : List Ac), v = .slice p.1 l.length p.2 ∧ As W W.heap.size p.1 l ∧ l.length ≤ 9223372036854775807 ∧ ∀ e ∈ l, Ra e := by
  obtain ⟨A, n, c, rfl⟩ := WideShapes.okWide_slice Try.underlying22 hv
  obtain ⟨fuel, hf⟩ := h
  have c4 : Try.prog.cellsOf 28 = 3 := by kernel_rfl
  have k5 : Try.prog.cellsOf 5 = 1 := by kernel_rfl
  have k28 : Try.prog.cellsOf 26 = 1 := by kernel_rfl
  rcases Deep.open_slice Try.underlying22 hf with ⟨hcs, _⟩ | ⟨a, len, cap, m, k, D, Pl, hcs, _, hl, hm, hmm, _, hx⟩
  · simp [Value.cells] at hcs
    obtain ⟨rfl, rfl, rfl⟩ := hcs
    exact ⟨(none, 0), [], rfl, fun h => by simp at h, by simp, fun e he => by simp at he⟩
  · simp [Value.cells] at hcs
    obtain ⟨rfl, rfl, rfl⟩ := hcs
    rw [c4] at hx
    have each : ∀ i, i < n → ∃ e : Ac, Ra e ∧ W.cell? (a.add (i * 3)) = some (.int .u8 e.1) ∧ W.cell? (a.add (i * 3 + 1)) = some (.int .u32 (e.2.1 : Int)) ∧ W.cell? (a.add (i * 3 + 2)) = some (.int .u32 (e.2.2 : Int)) := fun i hi => by
      obtain ⟨cs', h1, h2⟩ := hx i (by rw [hmm]; simp; omega)
      obtain ⟨_, hlen, hcell⟩ := World.cells?_some h1
      match cs', hlen with
      | [c0, c1, c2], _ =>
        obtain ⟨xs, m', _, _, _, hlen', hx'⟩ := DataW.trod_struct Try.underlying28 h2
        match xs, hlen' with
        | [y0, y1, y2], _ =>
        have g0 : DataW.trod enc Try.prog W 0 (fun _ => true) true m' 5 [c0] = some y0 := by simpa [Value.cells, k5] using hx' 0 _ rfl
        have g1 : DataW.trod enc Try.prog W 0 (fun _ => true) true m' 26 [c1] = some y1 := by simpa [Value.cells, k5, k28] using hx' 1 _ rfl
        have g2 : DataW.trod enc Try.prog W 0 (fun _ => true) true m' 26 [c2] = some y2 := by simpa [Value.cells, k5, k28] using hx' 2 _ rfl
        obtain ⟨x0, e0, _, w0⟩ := DataW.trod_int Try.underlying5 g0
        obtain ⟨x1, e1, _, w1⟩ := DataW.trod_int Try.underlying26 g1
        obtain ⟨x2, e2, _, w2⟩ := DataW.trod_int Try.underlying26 g2
        simp only [List.cons.injEq, and_true] at e0 e1 e2
        subst e0 e1 e2
        have b0 := bounds_u8 w0
        have b1 := bounds_u32 w1
        have b2 := bounds_u32 w2
        have q0 := hcell 0 (by omega)
        have q1 := hcell 1 (by omega)
        have q2 := hcell 2 (by omega)
        rw [Deep.add_add] at q0 q1 q2
        refine ⟨(x0, x1.toNat, x2.toNat), ⟨b0.1, by show x1.toNat < _; omega, by show x2.toNat < _; omega⟩, ?_, ?_, ?_⟩
        · simpa using q0
        · simpa [show ((x1.toNat : Nat) : Int) = x1 by omega] using q1
        · simpa [show ((x2.toNat : Nat) : Int) = x2 by omega] using q2
    obtain ⟨f, hf⟩ := Deep.choose_lt each
    refine ⟨(some a, c), (List.range n).map f, by simp, fun h0 => ?_, by unfold maxLen at hm; simp; omega, fun e he => by
      obtain ⟨i, hi, rfl⟩ := List.mem_map.1 he
      exact (hf i (List.mem_range.1 hi)).1⟩
    simp at h0
    have hc0 := (hf 0 h0).2.1
    obtain ⟨b, off, spot⟩ := a
    have hspot : spot = none := by simpa [Addr.add] using World.cell?_spot hc0
    subst hspot
    refine ⟨b, off, rfl, World.block_lt_of_cell? W ⟨b, off + 0 * 3, none⟩ (by rw [← Go.WideShapes.add_plain]; exact hc0), fun i e he => ?_⟩
    rw [List.getElem?_map] at he
    obtain ⟨i', hi', rfl⟩ := Option.map_eq_some_iff.1 he
    obtain ⟨hin, rfl⟩ := List.getElem?_eq_some_iff.1 hi'
    simp at hin
    simp only [List.getElem_range]
    have hq := (hf i hin).2
    rw [Go.WideShapes.add_plain, Go.WideShapes.add_plain, Go.WideShapes.add_plain] at hq
    exact ⟨hq.1, by rw [Nat.add_assoc]; exact hq.2.1, by rw [Nat.add_assoc]; exact hq.2.2⟩


end Go.Proofs.Ytjlpmdokmfmdiaa.P
