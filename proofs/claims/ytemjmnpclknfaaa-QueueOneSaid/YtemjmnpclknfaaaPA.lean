/- Rack: Get, Drop, at things. -/
import Derived.Test.YtemjmnpclknfaaaP9
namespace Go.Proofs.Ytemjmnpclknfaaa.P
open Go.RowKit
set_option maxRecDepth 20000

theorem three {W : World} {B T : Nat} {a b c : Value} (x y z : Value) (h : W.heap[B]? = some (.cells #[a, b, c] T (0, 0))) :
    (((W.setCell ⟨B, 0, none⟩ x).setCell ⟨B, 1, none⟩ y).setCell ⟨B, 2, none⟩ z).cell? ⟨B, 0, none⟩ = some x ∧ (((W.setCell ⟨B, 0, none⟩ x).setCell ⟨B, 1, none⟩ y).setCell ⟨B, 2, none⟩ z).cell? ⟨B, 1, none⟩ = some y ∧ (((W.setCell ⟨B, 0, none⟩ x).setCell ⟨B, 1, none⟩ y).setCell ⟨B, 2, none⟩ z).cell? ⟨B, 2, none⟩ = some z ∧ (((W.setCell ⟨B, 0, none⟩ x).setCell ⟨B, 1, none⟩ y).setCell ⟨B, 2, none⟩ z).heap[B]? = some (.cells #[x, y, z] T (0, 0)) := by
  have s1 := heap_setCell_same W B 0 _ T x h
  have s2 := heap_setCell_same _ B 1 _ T y s1
  have s3 := heap_setCell_same _ B 2 _ T z s2
  refine ⟨?_, ?_, ?_, s3⟩ <;> · rw [cell_of_row _ B _ _ _ _ s3]; rfl
theorem three_below {k B : Nat} {w W : World} (x y z : Value) (h : Below k w W) (hk : k ≤ B) : Below k w (((W.setCell ⟨B, 0, none⟩ x).setCell ⟨B, 1, none⟩ y).setCell ⟨B, 2, none⟩ z) := ((h.setCell hk x).setCell hk y).setCell hk z
theorem thing_at {w : World} {R : Nat} {most : Int} {vi vt : Value} {ids : List Nat} {ths : List Mk} (h : IsR w R most vi vt ids ths) {p : Nat} (hp : p < ids.length) : ∃ (g cap : Nat) (y1 : Sl) (y2 : Sl) (y3 : Int), vt = .slice (some ⟨g, 0, none⟩) ids.length cap ∧ ths[p]? = some (y1, y2, y3) ∧ w.cell? ⟨g, p * 3, none⟩ = some (.slice y1.a y1.n y1.c) ∧ w.cell? ⟨g, p * 3 + 1, none⟩ = some (.slice y2.a y2.n y2.c) ∧ w.cell? ⟨g, p * 3 + 2, none⟩ = some (.int .i64 y3) := by
  rcases h.rto.2 with ⟨_, h0⟩ | ⟨g, cap, cur, rfl, _, hh, _, _, _, ht⟩
  · omega
  · have hpl : p < ths.length := by rw [h.len]; exact hp
    obtain ⟨a0, a1, a2⟩ := mz_get ths p hpl
    have hc : ∀ i v, i < ids.length * 3 → (mz ths)[i]? = some v → w.cell? ⟨g, i, none⟩ = some v := fun i v hi hv => by
      rw [cell_of_row w g i _ _ _ hh, ← Array.getElem?_toList, ← hv, ← ht, List.getElem?_take, if_pos hi]
    exact ⟨g, cap, _, _, _, rfl, List.getElem?_eq_getElem hpl, hc _ _ (by omega) a0, hc _ _ (by omega) a1, hc _ _ (by omega) a2⟩
theorem up_del {ids : List Nat} (p : Nat) (hu : Up ids) : Up (ids.take p ++ ids.drop (p + 1)) := by
  have get : ∀ j, (ids.take p ++ ids.drop (p + 1))[j]? = if j < p then ids[j]? else ids[j + 1]? := fun j => by
    by_cases hj : j < p
    · rw [if_pos hj]
      by_cases hjl : j < (ids.take p).length
      · rw [List.getElem?_append_left hjl, List.getElem?_take, if_pos hj]
      · rw [List.getElem?_append_right (by omega), List.getElem?_drop]
        rw [List.length_take] at hjl
        rw [List.getElem?_eq_none (by rw [List.length_take]; omega), List.getElem?_eq_none (by omega)]
    · rw [if_neg hj]
      by_cases hp : p ≤ ids.length
      · rw [List.getElem?_append_right (by rw [List.length_take]; omega), List.getElem?_drop, List.length_take, show p + 1 + (j - min p ids.length) = j + 1 by omega]
      · rw [List.getElem?_eq_none (by rw [List.length_append, List.length_take, List.length_drop]; omega), List.getElem?_eq_none (by omega)]
  intro i j a b hij ha hb
  rw [get] at ha hb
  by_cases hi : i < p
  · rw [if_pos hi] at ha
    by_cases hj : j < p
    · rw [if_pos hj] at hb; exact hu i j a b hij ha hb
    · rw [if_neg hj] at hb; exact hu i (j + 1) a b (by omega) ha hb
  · rw [if_neg hi] at ha
    rw [if_neg (by omega)] at hb
    exact hu (i + 1) (j + 1) a b (by omega) ha hb
theorem un_del (ids : List Nat) (p : Nat) : un (ids.take p ++ ids.drop (p + 1)) = (un ids).take p ++ (un ids).drop (p + 1) := by simp [un, List.map_take, List.map_drop]
theorem del_len {α : Type} (l : List α) (p : Nat) (h : p < l.length) : (l.take p ++ l.drop (p + 1)).length = l.length - 1 := by
  rw [List.length_append, List.length_take, List.length_drop]
  omega

set_option maxHeartbeats 2000000 in
theorem get_there (R : Nat) (most : Int) (vi vt : Value) (ids : List Nat) (ths : List Mk) (x : Nat) (w : World) (h : IsR w R most vi vt ids ths) (hl : ids.length ≤ 1000) (hx : x ∈ ids) :
    Calls Try.prog 78 #[.pointer (some ⟨R, 0, none⟩), .int .u32 (x : Int)] w fun r w' => (∃ (p : Nat) (y1 : Sl) (y2 : Sl) (y3 : Int), ids[p]? = some x ∧ ths[p]? = some (y1, y2, y3) ∧ r = .returned (.tuple #[mV y1 y2 y3, .bool true])) ∧ Below w.heap.size w w' := by
  obtain ⟨w0, hw0⟩ : ∃ w0, w0 = w.alloc (.cells (mZ) 86) := ⟨_, rfl⟩
  have hb0 : Below w.heap.size w w0 := by rw [hw0]; exact (Below.refl _ _).alloc (Nat.le_refl _) _
  have hq0 : w0.heap[w.heap.size]? = some (.cells (mZ) 86 (0, 0)) := by rw [hw0]; exact heap_alloc_new w _
  have z0 := cell_of_row w0 w.heap.size 0 _ _ _ hq0
  have z1 := cell_of_row w0 w.heap.size 1 _ _ _ hq0
  have z2 := cell_of_row w0 w.heap.size 2 _ _ _ hq0
  simp at z0 z1 z2
  have H0 := Lib.hid hw0
  have HB0 := Lib.hid hb0
  have HQ0 := Lib.hid hq0
  have zf : ∀ i, w0.frozen? ⟨w.heap.size, i, none⟩ = false := fun i => frozen_of_row w0 _ i _ _ hq0
  have HRB : Hid (R < w.heap.size) := lt_of_block h.row
  replace h := h.after hb0
  clear hw0 hb0 hq0
  have HP := Lib.hid (place_any R most vi vt ids ths x w0 h hl)
  have HU := Lib.hid h.up
  obtain ⟨n, hn⟩ : ∃ n, n = ids.length := ⟨_, rfl⟩
  have HH := Lib.hid h
  have hrow := h.row
  have HN := Lib.hid hn
  have HX := Lib.hid hx
  obtain ⟨g0, cap0, _, _, _, hv, _, _⟩ := thing_at h (p := 0) (by exact List.length_pos_of_mem hx)
  rw [← hn] at hv
  subst hv
  rw [← hn] at hl
  have c2 := cell_of_row w0 R 2 _ _ _ hrow
  simp at c2
  clear h hx hrow hn
  go_enter Try.func78, Try.ntmps78
  go_wp2_with fail
  rw [← H0.out]
  refine HP.out.mono ?_
  rintro r w' ⟨rfl, p, hp, rfl⟩
  have hget := (pl_mem HU.out hp).1 HX.out
  have hd : decide (ids[p]? = some x) = true := by simpa using hget
  have hpn : p < n := by have := (List.getElem?_eq_some_iff.1 hget).1; have := HN.out; omega
  obtain ⟨g, cap, y1, y2, y3, hv, hy, q0, q1, q2⟩ := thing_at HH.out (p := p) (by have := HN.out; omega)
  injection hv with e1 _ e3
  injection e1 with e1
  injection e1 with e1
  subst e1 e3
  rw [hd]
  have HG := Lib.hid (And.intro hget hy)
  have HT := Lib.hid (three (.slice y1.a y1.n y1.c) (.slice y2.a y2.n y2.c) (.int .i64 y3) HQ0.out)
  have HTB := Lib.hid (three_below (.slice y1.a y1.n y1.c) (.slice y2.a y2.n y2.c) (.int .i64 y3) HB0.out (Nat.le_refl w.heap.size))
  clear hget hp hy
  go_wp2
  obtain ⟨e0, e1, e2, _⟩ := HT.out
  exact bodyPost_ret (v := .tuple #[mV y1 y2 y3, .bool true]) (by simp [results, Try.results78, go_sem, e0, e1, e2]) rfl ⟨⟨p, y1, y2, y3, HG.out.1, HG.out.2, rfl⟩, HTB.out⟩
set_option maxHeartbeats 2000000 in
theorem get_none (R : Nat) (most : Int) (vi vt : Value) (ids : List Nat) (ths : List Mk) (x : Nat) (w : World) (h : IsR w R most vi vt ids ths) (hl : ids.length ≤ 1000) (hx : x ∉ ids) :
    Calls Try.prog 78 #[.pointer (some ⟨R, 0, none⟩), .int .u32 (x : Int)] w fun r w' => r = .returned (.tuple #[.agg mZ, .bool false]) ∧ Below w.heap.size w w' := by
  obtain ⟨w0, hw0⟩ : ∃ w0, w0 = w.alloc (.cells (mZ) 86) := ⟨_, rfl⟩
  have hb0 : Below w.heap.size w w0 := by rw [hw0]; exact (Below.refl _ _).alloc (Nat.le_refl _) _
  have hq0 : w0.heap[w.heap.size]? = some (.cells (mZ) 86 (0, 0)) := by rw [hw0]; exact heap_alloc_new w _
  have z0 := cell_of_row w0 w.heap.size 0 _ _ _ hq0
  have z1 := cell_of_row w0 w.heap.size 1 _ _ _ hq0
  have z2 := cell_of_row w0 w.heap.size 2 _ _ _ hq0
  simp at z0 z1 z2
  have H0 := Lib.hid hw0
  have HB0 := Lib.hid hb0
  have HQ0 := Lib.hid hq0
  have zf : ∀ i, w0.frozen? ⟨w.heap.size, i, none⟩ = false := fun i => frozen_of_row w0 _ i _ _ hq0
  have HRB : Hid (R < w.heap.size) := lt_of_block h.row
  replace h := h.after hb0
  clear hw0 hb0 hq0
  have HP := Lib.hid (place_any R most vi vt ids ths x w0 h hl)
  have HU := Lib.hid h.up
  have HX := Lib.hid hx
  clear h hx
  go_enter Try.func78, Try.ntmps78
  go_wp2_with fail
  rw [← H0.out]
  refine HP.out.mono ?_
  rintro r w' ⟨rfl, p, hp, rfl⟩
  have hd : decide (ids[p]? = some x) = false := by rw [decide_eq_false_iff_not]; exact fun e => HX.out ((pl_mem HU.out hp).2 e)
  rw [hd]
  have hq1 : (w'.alloc (.cells (mZ) 86)).heap[w.heap.size]? = some (.cells (mZ) 86 (0, 0)) := (Below.heap_alloc _ _ _ (lt_of_block HQ0.out)).trans HQ0.out
  have y0 := cell_of_row _ w.heap.size 0 _ _ _ hq1
  have y1 := cell_of_row _ w.heap.size 1 _ _ _ hq1
  have y2 := cell_of_row _ w.heap.size 2 _ _ _ hq1
  have yf : ∀ i, (w'.alloc (.cells (mZ) 86)).frozen? ⟨w.heap.size, i, none⟩ = false := fun i => frozen_of_row _ _ i _ _ hq1
  have HT := Lib.hid (three (.slice none 0 0) (.slice none 0 0) (.int .i64 0) hq1)
  have HTB := Lib.hid (three_below (.slice none 0 0) (.slice none 0 0) (.int .i64 0) (HB0.out.alloc HB0.out.size (.cells (mZ) 86)) (Nat.le_refl w.heap.size))
  clear hq1
  clear hp
  go_wp2
  obtain ⟨e0, e1, e2, _⟩ := HT.out
  exact bodyPost_ret (v := .tuple #[.agg mZ, .bool false]) (by simp [results, Try.results78, go_sem, e0, e1, e2]) rfl ⟨rfl, HTB.out⟩

set_option maxHeartbeats 2000000 in
theorem drop_none (R : Nat) (most : Int) (vi vt : Value) (ids : List Nat) (ths : List Mk) (x : Nat) (w : World) (h : IsR w R most vi vt ids ths) (hl : ids.length ≤ 1000) (hx : x ∉ ids) :
    Calls Try.prog 50 #[.pointer (some ⟨R, 0, none⟩), .int .u32 (x : Int)] w fun r w' => r = .returned (.tuple #[.agg mZ, .bool false]) ∧ Below w.heap.size w w' := by
  obtain ⟨w0, hw0⟩ : ∃ w0, w0 = w.alloc (.cells (mZ) 86) := ⟨_, rfl⟩
  have hb0 : Below w.heap.size w w0 := by rw [hw0]; exact (Below.refl _ _).alloc (Nat.le_refl _) _
  have hq0 : w0.heap[w.heap.size]? = some (.cells (mZ) 86 (0, 0)) := by rw [hw0]; exact heap_alloc_new w _
  have z0 := cell_of_row w0 w.heap.size 0 _ _ _ hq0
  have z1 := cell_of_row w0 w.heap.size 1 _ _ _ hq0
  have z2 := cell_of_row w0 w.heap.size 2 _ _ _ hq0
  simp at z0 z1 z2
  have H0 := Lib.hid hw0
  have HB0 := Lib.hid hb0
  have HQ0 := Lib.hid hq0
  have zf : ∀ i, w0.frozen? ⟨w.heap.size, i, none⟩ = false := fun i => frozen_of_row w0 _ i _ _ hq0
  have HRB : Hid (R < w.heap.size) := lt_of_block h.row
  replace h := h.after hb0
  clear hw0 hb0 hq0
  have HP := Lib.hid (place_any R most vi vt ids ths x w0 h hl)
  have HU := Lib.hid h.up
  have HX := Lib.hid hx
  clear h hx
  go_enter Try.func50, Try.ntmps50
  go_wp2_with fail
  rw [← H0.out]
  refine HP.out.mono ?_
  rintro r w' ⟨rfl, p, hp, rfl⟩
  have hd : decide (ids[p]? = some x) = false := by rw [decide_eq_false_iff_not]; exact fun e => HX.out ((pl_mem HU.out hp).2 e)
  rw [hd]
  have hq1 : (w'.alloc (.cells (mZ) 86)).heap[w.heap.size]? = some (.cells (mZ) 86 (0, 0)) := (Below.heap_alloc _ _ _ (lt_of_block HQ0.out)).trans HQ0.out
  have y0 := cell_of_row _ w.heap.size 0 _ _ _ hq1
  have y1 := cell_of_row _ w.heap.size 1 _ _ _ hq1
  have y2 := cell_of_row _ w.heap.size 2 _ _ _ hq1
  have yf : ∀ i, (w'.alloc (.cells (mZ) 86)).frozen? ⟨w.heap.size, i, none⟩ = false := fun i => frozen_of_row _ _ i _ _ hq1
  have HT := Lib.hid (three (.slice none 0 0) (.slice none 0 0) (.int .i64 0) hq1)
  have HTB := Lib.hid (three_below (.slice none 0 0) (.slice none 0 0) (.int .i64 0) (HB0.out.alloc HB0.out.size (.cells (mZ) 86)) (Nat.le_refl w.heap.size))
  clear hq1
  clear hp
  go_wp2
  obtain ⟨e0, e1, e2, _⟩ := HT.out
  exact bodyPost_ret (v := .tuple #[.agg mZ, .bool false]) (by simp [results, Try.results50, go_sem, e0, e1, e2]) rfl ⟨rfl, HTB.out⟩


end Go.Proofs.Ytemjmnpclknfaaa.P
