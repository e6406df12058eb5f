/- Rack of tickets: Get, Len. -/
import Derived.Test.YtemjmnpclknfaaaGreatT8
namespace Go.Proofs.YtemjmnpclknfaaaGreat.T
open Go.RowKit
open Go.Proofs.YtemjmnpclknfaaaGreat.P (Sl un)
set_option maxRecDepth 20000
set_option linter.unusedVariables false
set_option linter.unusedSimpArgs false
theorem three {W : World} {B T : Nat} {a b c d e : Value} (x y z u v : Value) (h : W.heap[B]? = some (.cells #[a, b, c, d, e] T (0, 0))) :
    (((((W.setCell ⟨B, 0, none⟩ x).setCell ⟨B, 1, none⟩ y).setCell ⟨B, 2, none⟩ z).setCell ⟨B, 3, none⟩ u).setCell ⟨B, 4, none⟩ v).cell? ⟨B, 0, none⟩ = some x ∧ (((((W.setCell ⟨B, 0, none⟩ x).setCell ⟨B, 1, none⟩ y).setCell ⟨B, 2, none⟩ z).setCell ⟨B, 3, none⟩ u).setCell ⟨B, 4, none⟩ v).cell? ⟨B, 1, none⟩ = some y ∧ (((((W.setCell ⟨B, 0, none⟩ x).setCell ⟨B, 1, none⟩ y).setCell ⟨B, 2, none⟩ z).setCell ⟨B, 3, none⟩ u).setCell ⟨B, 4, none⟩ v).cell? ⟨B, 2, none⟩ = some z ∧ (((((W.setCell ⟨B, 0, none⟩ x).setCell ⟨B, 1, none⟩ y).setCell ⟨B, 2, none⟩ z).setCell ⟨B, 3, none⟩ u).setCell ⟨B, 4, none⟩ v).cell? ⟨B, 3, none⟩ = some u ∧ (((((W.setCell ⟨B, 0, none⟩ x).setCell ⟨B, 1, none⟩ y).setCell ⟨B, 2, none⟩ z).setCell ⟨B, 3, none⟩ u).setCell ⟨B, 4, none⟩ v).cell? ⟨B, 4, none⟩ = some v ∧ (((((W.setCell ⟨B, 0, none⟩ x).setCell ⟨B, 1, none⟩ y).setCell ⟨B, 2, none⟩ z).setCell ⟨B, 3, none⟩ u).setCell ⟨B, 4, none⟩ v).heap[B]? = some (.cells #[x, y, z, u, v] T (0, 0)) := by
  have s1 := heap_setCell_same W B 0 _ T x h
  have s2 := heap_setCell_same _ B 1 _ T y s1
  have s3 := heap_setCell_same _ B 2 _ T z s2
  have s4 := heap_setCell_same _ B 3 _ T u s3
  have s5 := heap_setCell_same _ B 4 _ T v s4
  refine ⟨?_, ?_, ?_, ?_, ?_, s5⟩ <;> · rw [cell_of_row _ B _ _ _ _ s5]; rfl
theorem three_below {k B : Nat} {w W : World} (x y z u v : Value) (h : Below k w W) (hk : k ≤ B) : Below k w (((((W.setCell ⟨B, 0, none⟩ x).setCell ⟨B, 1, none⟩ y).setCell ⟨B, 2, none⟩ z).setCell ⟨B, 3, none⟩ u).setCell ⟨B, 4, none⟩ v) := ((((h.setCell hk x).setCell hk y).setCell hk z).setCell hk u).setCell hk v
theorem thing_at {w : World} {R : Nat} {most : Int} {vi vt : Value} {ids : List Nat} {ths : List Mk} (h : IsR w R most vi vt ids ths) {p : Nat} (hp : p < ids.length) : ∃ (g cap y1 : Nat) (y2 : Int) (y3 : Sl) (y4 y5 : Int), vt = .slice (some ⟨g, 0, none⟩) ids.length cap ∧ ths[p]? = some (y1, y2, y3, y4, y5) ∧ w.cell? ⟨g, p * 5, none⟩ = some (.int .u32 (y1 : Int)) ∧ w.cell? ⟨g, p * 5 + 1, none⟩ = some (.int .i64 y2) ∧ w.cell? ⟨g, p * 5 + 2, none⟩ = some (.slice y3.a y3.n y3.c) ∧ w.cell? ⟨g, p * 5 + 3, none⟩ = some (.int .i64 y4) ∧ w.cell? ⟨g, p * 5 + 4, none⟩ = some (.int .i64 y5) := by
  rcases h.rto.2 with ⟨_, h0⟩ | ⟨g, cap, cur, rfl, _, hh, _, _, _, ht⟩
  · omega
  · have hpl : p < ths.length := by rw [h.len]; exact hp
    obtain ⟨a0, a1, a2, a3, a4⟩ := mz_get ths p hpl
    have hc : ∀ i v, i < ids.length * 5 → (mz ths)[i]? = some v → w.cell? ⟨g, i, none⟩ = some v := fun i v hi hv => by
      rw [cell_of_row w g i _ _ _ hh, ← Array.getElem?_toList, ← hv, ← ht, List.getElem?_take, if_pos hi]
    exact ⟨g, cap, _, _, _, _, _, rfl, List.getElem?_eq_getElem hpl, hc _ _ (by omega) a0, hc _ _ (by omega) a1, hc _ _ (by omega) a2, hc _ _ (by omega) a3, hc _ _ (by omega) a4⟩
set_option maxHeartbeats 2000000 in
theorem get_there (R : Nat) (most : Int) (vi vt : Value) (ids : List Nat) (ths : List Mk) (x : Nat) (w : World) (h : IsR w R most vi vt ids ths) (hl : ids.length ≤ 1000) (hx : x ∈ ids) :
    Calls Tryz.prog 40 #[.pointer (some ⟨R, 0, none⟩), .int .u32 (x : Int)] w fun r w' => (∃ (p : Nat) (y1 : Nat) (y2 : Int) (y3 : Sl) (y4 : Int) (y5 : Int), ids[p]? = some x ∧ ths[p]? = some (y1, y2, y3, y4, y5) ∧ r = .returned (.tuple #[mV y1 y2 y3 y4 y5, .bool true])) ∧ Below w.heap.size w w' := by
  obtain ⟨w0, hw0⟩ : ∃ w0, w0 = w.alloc (.cells (mZ) 39) := ⟨_, rfl⟩
  have hb0 : Below w.heap.size w w0 := by rw [hw0]; exact (Below.refl _ _).alloc (Nat.le_refl _) _
  have hq0 : w0.heap[w.heap.size]? = some (.cells (mZ) 39 (0, 0)) := by rw [hw0]; exact heap_alloc_new w _
  have z0 := cell_of_row w0 w.heap.size 0 _ _ _ hq0
  have z1 := cell_of_row w0 w.heap.size 1 _ _ _ hq0
  have z2 := cell_of_row w0 w.heap.size 2 _ _ _ hq0
  have z3 := cell_of_row w0 w.heap.size 3 _ _ _ hq0
  have z4 := cell_of_row w0 w.heap.size 4 _ _ _ hq0
  simp at z0 z1 z2 z3 z4
  have H0 := Lib.hid hw0
  have HB0 := Lib.hid hb0
  have HQ0 := Lib.hid hq0
  have zf : ∀ i, w0.frozen? ⟨w.heap.size, i, none⟩ = false := fun i => frozen_of_row w0 _ i _ _ hq0
  have HRB : Hid (R < w.heap.size) := lt_of_block h.row
  replace h := h.after hb0
  clear hw0 hb0 hq0
  have HP := Lib.hid (place_any R most vi vt ids ths x w0 h hl)
  have HU := Lib.hid h.up
  obtain ⟨n, hn⟩ : ∃ n, n = ids.length := ⟨_, rfl⟩
  have HH := Lib.hid h
  have hrow := h.row
  have HN := Lib.hid hn
  have HX := Lib.hid hx
  obtain ⟨g0, cap0, _, _, _, _, _, hv, _, _⟩ := thing_at h (p := 0) (by exact List.length_pos_of_mem hx)
  rw [← hn] at hv
  subst hv
  rw [← hn] at hl
  have c2 := cell_of_row w0 R 2 _ _ _ hrow
  simp at c2
  clear h hx hrow hn
  go_enter Tryz.func40, Tryz.ntmps40
  go_wp2_with fail
  rw [← H0.out]
  refine HP.out.mono ?_
  rintro r w' ⟨rfl, p, hp, rfl⟩
  have hget := (pl_mem HU.out hp).1 HX.out
  have hd : decide (ids[p]? = some x) = true := by simpa using hget
  have hpn : p < n := by have := (List.getElem?_eq_some_iff.1 hget).1; have := HN.out; omega
  obtain ⟨g, cap, y1, y2, y3, y4, y5, hv, hy, q0, q1, q2, q3, q4⟩ := thing_at HH.out (p := p) (by have := HN.out; omega)
  injection hv with e1 _ e3
  injection e1 with e1
  injection e1 with e1
  subst e1 e3
  rw [hd]
  have HG := Lib.hid (And.intro hget hy)
  have HT := Lib.hid (three (.int .u32 (y1 : Int)) (.int .i64 y2) (.slice y3.a y3.n y3.c) (.int .i64 y4) (.int .i64 y5) HQ0.out)
  have HTB := Lib.hid (three_below (.int .u32 (y1 : Int)) (.int .i64 y2) (.slice y3.a y3.n y3.c) (.int .i64 y4) (.int .i64 y5) HB0.out (Nat.le_refl w.heap.size))
  clear hget hp hy
  go_wp2
  obtain ⟨e0, e1, e2, e3, e4, _⟩ := HT.out
  exact bodyPost_ret (v := .tuple #[mV y1 y2 y3 y4 y5, .bool true]) (by simp [results, Tryz.results40, go_sem, e0, e1, e2, e3, e4]) rfl ⟨⟨p, y1, y2, y3, y4, y5, HG.out.1, HG.out.2, rfl⟩, HTB.out⟩
set_option maxHeartbeats 2000000 in
theorem get_none (R : Nat) (most : Int) (vi vt : Value) (ids : List Nat) (ths : List Mk) (x : Nat) (w : World) (h : IsR w R most vi vt ids ths) (hl : ids.length ≤ 1000) (hx : x ∉ ids) :
    Calls Tryz.prog 40 #[.pointer (some ⟨R, 0, none⟩), .int .u32 (x : Int)] w fun r w' => r = .returned (.tuple #[.agg mZ, .bool false]) ∧ Below w.heap.size w w' := by
  obtain ⟨w0, hw0⟩ : ∃ w0, w0 = w.alloc (.cells (mZ) 39) := ⟨_, rfl⟩
  have hb0 : Below w.heap.size w w0 := by rw [hw0]; exact (Below.refl _ _).alloc (Nat.le_refl _) _
  have hq0 : w0.heap[w.heap.size]? = some (.cells (mZ) 39 (0, 0)) := by rw [hw0]; exact heap_alloc_new w _
  have z0 := cell_of_row w0 w.heap.size 0 _ _ _ hq0
  have z1 := cell_of_row w0 w.heap.size 1 _ _ _ hq0
  have z2 := cell_of_row w0 w.heap.size 2 _ _ _ hq0
  have z3 := cell_of_row w0 w.heap.size 3 _ _ _ hq0
  have z4 := cell_of_row w0 w.heap.size 4 _ _ _ hq0
  simp at z0 z1 z2 z3 z4
  have H0 := Lib.hid hw0
  have HB0 := Lib.hid hb0
  have HQ0 := Lib.hid hq0
  have zf : ∀ i, w0.frozen? ⟨w.heap.size, i, none⟩ = false := fun i => frozen_of_row w0 _ i _ _ hq0
  have HRB : Hid (R < w.heap.size) := lt_of_block h.row
  replace h := h.after hb0
  clear hw0 hb0 hq0
  have HP := Lib.hid (place_any R most vi vt ids ths x w0 h hl)
  have HU := Lib.hid h.up
  have HX := Lib.hid hx
  clear h hx
  go_enter Tryz.func40, Tryz.ntmps40
  go_wp2_with fail
  rw [← H0.out]
  refine HP.out.mono ?_
  rintro r w' ⟨rfl, p, hp, rfl⟩
  have hd : decide (ids[p]? = some x) = false := by rw [decide_eq_false_iff_not]; exact fun e => HX.out ((pl_mem HU.out hp).2 e)
  rw [hd]
  have hq1 : (w'.alloc (.cells (mZ) 39)).heap[w.heap.size]? = some (.cells (mZ) 39 (0, 0)) := (Below.heap_alloc _ _ _ (lt_of_block HQ0.out)).trans HQ0.out
  have y0 := cell_of_row _ w.heap.size 0 _ _ _ hq1
  have y1 := cell_of_row _ w.heap.size 1 _ _ _ hq1
  have y2 := cell_of_row _ w.heap.size 2 _ _ _ hq1
  have y3 := cell_of_row _ w.heap.size 3 _ _ _ hq1
  have y4 := cell_of_row _ w.heap.size 4 _ _ _ hq1
  have yf : ∀ i, (w'.alloc (.cells (mZ) 39)).frozen? ⟨w.heap.size, i, none⟩ = false := fun i => frozen_of_row _ _ i _ _ hq1
  have HT := Lib.hid (three (.int .u32 0) (.int .i64 0) (.slice none 0 0) (.int .i64 0) (.int .i64 0) hq1)
  have HTB := Lib.hid (three_below (.int .u32 0) (.int .i64 0) (.slice none 0 0) (.int .i64 0) (.int .i64 0) (HB0.out.alloc HB0.out.size (.cells (mZ) 39)) (Nat.le_refl w.heap.size))
  clear hq1
  clear hp
  go_wp2
  obtain ⟨e0, e1, e2, e3, e4, _⟩ := HT.out
  exact bodyPost_ret (v := .tuple #[.agg mZ, .bool false]) (by simp [results, Tryz.results40, go_sem, e0, e1, e2, e3, e4]) rfl ⟨rfl, HTB.out⟩

set_option maxHeartbeats 1000000 in
theorem len_any (R : Nat) (most : Int) (vi vt : Value) (ids : List Nat) (ths : List Mk) (w : World) (h : IsR w R most vi vt ids ths) :
    Calls Tryz.prog 48 #[.pointer (some ⟨R, 0, none⟩)] w fun r w' => r = .returned (.int .i64 (ids.length : Int)) ∧ w' = w := by
  have c1 := cell_of_row w R 1 _ _ _ h.row
  simp at c1
  obtain ⟨A, c, rfl⟩ := own_form1 h.rio
  clear h
  go_enter Tryz.func48, Tryz.ntmps48
  go_wp2
  go_ret
  exact ⟨rfl, by first | rfl | trivial⟩
end Go.Proofs.YtemjmnpclknfaaaGreat.T
