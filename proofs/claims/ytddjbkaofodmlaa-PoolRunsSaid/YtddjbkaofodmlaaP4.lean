/- Pool: the calls on one instance. -/
import Derived.Test.YtddjbkaofodmlaaP3
namespace Go.Proofs.Ytddjbkaofodmlaa
open Go.RowKit
set_option maxRecDepth 20000
set_option linter.unusedVariables false
set_option linter.unusedSimpArgs false

theorem three {W : World} {B T : Nat} {a b c : Value} (x y z : Value) (h : W.heap[B]? = some (.cells #[a, b, c] T (0, 0))) :
    (((W.setCell ⟨B, 0, none⟩ x).setCell ⟨B, 1, none⟩ y).setCell ⟨B, 2, none⟩ z).cell? ⟨B, 0, none⟩ = some x ∧ (((W.setCell ⟨B, 0, none⟩ x).setCell ⟨B, 1, none⟩ y).setCell ⟨B, 2, none⟩ z).cell? ⟨B, 1, none⟩ = some y ∧ (((W.setCell ⟨B, 0, none⟩ x).setCell ⟨B, 1, none⟩ y).setCell ⟨B, 2, none⟩ z).cell? ⟨B, 2, none⟩ = some z ∧ (((W.setCell ⟨B, 0, none⟩ x).setCell ⟨B, 1, none⟩ y).setCell ⟨B, 2, none⟩ z).heap[B]? = some (.cells #[x, y, z] T (0, 0)) := by
  have s1 := heap_setCell_same W B 0 _ T x h
  have s2 := heap_setCell_same _ B 1 _ T y s1
  have s3 := heap_setCell_same _ B 2 _ T z s2
  refine ⟨?_, ?_, ?_, s3⟩ <;> · rw [cell_of_row _ B _ _ _ _ s3]; rfl
theorem three_below {k B : Nat} {w W : World} (x y z : Value) (h : Below k w W) (hk : k ≤ B) : Below k w (((W.setCell ⟨B, 0, none⟩ x).setCell ⟨B, 1, none⟩ y).setCell ⟨B, 2, none⟩ z) := ((h.setCell hk x).setCell hk y).setCell hk z

set_option maxHeartbeats 2000000 in
theorem inst_there {B P I : Nat} {beat : Int} {l : List In} (k : Nat) (s m a : Int) (w : World) (h : Po w B P I beat l) (hk : l[k]? = some (s, m, a)) :
    Calls Try.prog 13 #[.pointer (some ⟨P, 0, none⟩), .int .u32 ((k + 1 : Nat) : Int)] w fun r w' => r = .returned (.tuple #[iV s m a, .bool true]) ∧ Below w.heap.size w w' := by
  obtain ⟨w0, hw0⟩ : ∃ w0, w0 = w.alloc (.cells (iC 0 0 0) 42) := ⟨_, rfl⟩
  have hb0 : Below w.heap.size w w0 := by rw [hw0]; exact (Below.refl _ _).alloc (Nat.le_refl _) _
  have hq0 : w0.heap[w.heap.size]? = some (.cells (iC 0 0 0) 42 (0, 0)) := by rw [hw0]; exact heap_alloc_new w _
  have h0 := h.after hb0
  obtain ⟨c0, c1, c2⟩ := h0.at hk
  have HF := Lib.hid (find_there k w0 h0 (List.getElem?_eq_some_iff.1 hk).1)
  have z0 := cell_of_row w0 w.heap.size 0 _ _ _ hq0
  have z1 := cell_of_row w0 w.heap.size 1 _ _ _ hq0
  have z2 := cell_of_row w0 w.heap.size 2 _ _ _ hq0
  have zf : ∀ i, w0.frozen? ⟨w.heap.size, i, none⟩ = false := fun i => frozen_of_row w0 _ i _ _ hq0
  simp at z0 z1 z2
  have HT := Lib.hid (three (.int .i64 s) (.int .u32 m) (.int .i64 a) hq0)
  have HTB := Lib.hid (three_below (.int .i64 s) (.int .u32 m) (.int .i64 a) hb0 (Nat.le_refl w.heap.size))
  have H0 := Lib.hid hw0
  clear hw0 hb0 hq0 h h0 hk
  go_enter Try.func13, Try.ntmps13
  go_upto_region 1 with (fail)
  rw [← H0.out]
  go_wp2_with fail
  refine HF.out.mono ?_
  rintro r w' ⟨rfl, rfl⟩
  go_wp2
  obtain ⟨e0, e1, e2, _⟩ := HT.out
  exact bodyPost_ret (v := .tuple #[iV s m a, .bool true]) (by simp [results, Try.results13, go_sem, e0, e1, e2]) rfl ⟨rfl, HTB.out⟩
set_option maxHeartbeats 2000000 in
theorem inst_miss (v : Value) (x : Nat) (w : World) (h : MissA w v x) :
    Calls Try.prog 13 #[v, .int .u32 (x : Int)] w fun r w' => r = .returned (.tuple #[iV 0 0 0, .bool false]) ∧ Below w.heap.size w w' := by
  obtain ⟨w0, hw0⟩ : ∃ w0, w0 = w.alloc (.cells (iC 0 0 0) 42) := ⟨_, rfl⟩
  have hb0 : Below w.heap.size w w0 := by rw [hw0]; exact (Below.refl _ _).alloc (Nat.le_refl _) _
  have hq0 : w0.heap[w.heap.size]? = some (.cells (iC 0 0 0) 42 (0, 0)) := by rw [hw0]; exact heap_alloc_new w _
  have HF := Lib.hid (find_miss v x w0 (h.after hb0))
  have z0 := cell_of_row w0 w.heap.size 0 _ _ _ hq0
  have z1 := cell_of_row w0 w.heap.size 1 _ _ _ hq0
  have z2 := cell_of_row w0 w.heap.size 2 _ _ _ hq0
  have zf : ∀ i, w0.frozen? ⟨w.heap.size, i, none⟩ = false := fun i => frozen_of_row w0 _ i _ _ hq0
  simp at z0 z1 z2
  have HT := Lib.hid (three (.int .i64 0) (.int .u32 0) (.int .i64 0) hq0)
  have HTB := Lib.hid (three_below (.int .i64 0) (.int .u32 0) (.int .i64 0) hb0 (Nat.le_refl w.heap.size))
  have H0 := Lib.hid hw0
  clear hw0 hb0 hq0 h
  go_enter Try.func13, Try.ntmps13
  go_upto_region 1 with (fail)
  rw [← H0.out]
  go_wp2_with fail
  refine HF.out.mono ?_
  rintro r w' ⟨rfl, rfl⟩
  go_wp2
  obtain ⟨e0, e1, e2, _⟩ := HT.out
  exact bodyPost_ret (v := .tuple #[iV 0 0 0, .bool false]) (by simp [results, Try.results13, go_sem, e0, e1, e2]) rfl ⟨rfl, HTB.out⟩
set_option maxHeartbeats 2000000 in
theorem start_ok {B P I : Nat} {beat : Int} {l : List In} (k : Nat) (s m a : Int) (now : Int) (w : World) (h : Po w B P I beat l) (hk : l[k]? = some (s, m, a)) (hs : s ∈ ([2] : List Int)) :
    Calls Try.prog 16 #[.pointer (some ⟨P, 0, none⟩), .int .u32 ((k + 1 : Nat) : Int), .int .i64 now] w fun r w' => r = .returned (.int .i64 0) ∧ Po w' B P I beat (l.set k (3, mt 3 m, now)) ∧ Gr I w w' := by
  obtain ⟨w1, hw1⟩ : ∃ w1, w1 = w.alloc (.cells #[.int .i64 2] 3) := ⟨_, rfl⟩
  have hb1 : Below w.heap.size w w1 := by rw [hw1]; exact (Below.refl _ _).alloc (Nat.le_refl _) _
  have hq1 : w1.heap[w.heap.size]? = some (.cells (zs [2]).toArray 3 (0, 0)) := by rw [hw1]; exact heap_alloc_new w _
  have H1 := Lib.hid hw1
  have HB1 := Lib.hid hb1
  have HC := Lib.hid (touch_ok w.heap.size 1 [2] k s m a now 3 w1 (h.after hb1) hk rfl (by decide) hq1 hs)
  clear h hk hs hw1 hb1 hq1
  go_enter Try.func16, Try.ntmps16
  go_wp2_with fail
  rw [← H1.out]
  refine HC.out.mono ?_
  rintro r w2 ⟨rfl, h2, hb2⟩
  have HP := Lib.hid h2
  have HB2 := Lib.hid ((Gr.of_below HB1.out).trans hb2)
  clear h2 hb2
  go_wp2
  go_ret
  exact ⟨rfl, HP.out, HB2.out⟩
set_option maxHeartbeats 2000000 in
theorem start_bad {B P I : Nat} {beat : Int} {l : List In} (k : Nat) (s m a : Int) (now : Int) (w : World) (h : Po w B P I beat l) (hk : l[k]? = some (s, m, a)) (hs : s ∉ ([2] : List Int)) :
    Calls Try.prog 16 #[.pointer (some ⟨P, 0, none⟩), .int .u32 ((k + 1 : Nat) : Int), .int .i64 now] w fun r w' => r = .returned (.int .i64 24) ∧ Below w.heap.size w w' := by
  obtain ⟨w1, hw1⟩ : ∃ w1, w1 = w.alloc (.cells #[.int .i64 2] 3) := ⟨_, rfl⟩
  have hb1 : Below w.heap.size w w1 := by rw [hw1]; exact (Below.refl _ _).alloc (Nat.le_refl _) _
  have hq1 : w1.heap[w.heap.size]? = some (.cells (zs [2]).toArray 3 (0, 0)) := by rw [hw1]; exact heap_alloc_new w _
  have H1 := Lib.hid hw1
  have HB1 := Lib.hid hb1
  have HC := Lib.hid (touch_bad w.heap.size 1 [2] k s m a now 3 w1 (h.after hb1) hk rfl (by decide) hq1 hs)
  clear h hk hs hw1 hb1 hq1
  go_enter Try.func16, Try.ntmps16
  go_wp2_with fail
  rw [← H1.out]
  refine HC.out.mono ?_
  rintro r w' ⟨rfl, rfl⟩
  go_wp2
  go_ret
  exact ⟨rfl, HB1.out⟩
set_option maxHeartbeats 2000000 in
theorem start_miss (v : Value) (x : Nat) (now : Int) (w : World) (h : MissA w v x) :
    Calls Try.prog 16 #[v, .int .u32 (x : Int), .int .i64 now] w fun r w' => r = .returned (.int .i64 12) ∧ Below w.heap.size w w' := by
  obtain ⟨w1, hw1⟩ : ∃ w1, w1 = w.alloc (.cells #[.int .i64 2] 3) := ⟨_, rfl⟩
  have hb1 : Below w.heap.size w w1 := by rw [hw1]; exact (Below.refl _ _).alloc (Nat.le_refl _) _
  have hq1 : w1.heap[w.heap.size]? = some (.cells (zs [2]).toArray 3 (0, 0)) := by rw [hw1]; exact heap_alloc_new w _
  have H1 := Lib.hid hw1
  have HB1 := Lib.hid hb1
  have HC := Lib.hid (touch_miss v (.slice (some ⟨w.heap.size, 0, none⟩) 1 1) x now 3 w1 (h.after hb1))
  clear h hw1 hb1 hq1
  go_enter Try.func16, Try.ntmps16
  go_wp2_with fail
  rw [← H1.out]
  refine HC.out.mono ?_
  rintro r w' ⟨rfl, rfl⟩
  go_wp2
  go_ret
  exact ⟨rfl, HB1.out⟩
set_option maxHeartbeats 2000000 in
theorem up_ok {B P I : Nat} {beat : Int} {l : List In} (k : Nat) (s m a : Int) (now : Int) (w : World) (h : Po w B P I beat l) (hk : l[k]? = some (s, m, a)) (hs : s ∈ ([3] : List Int)) :
    Calls Try.prog 23 #[.pointer (some ⟨P, 0, none⟩), .int .u32 ((k + 1 : Nat) : Int), .int .i64 now] w fun r w' => r = .returned (.int .i64 0) ∧ Po w' B P I beat (l.set k (4, mt 4 m, now)) ∧ Gr I w w' := by
  obtain ⟨w1, hw1⟩ : ∃ w1, w1 = w.alloc (.cells #[.int .i64 3] 3) := ⟨_, rfl⟩
  have hb1 : Below w.heap.size w w1 := by rw [hw1]; exact (Below.refl _ _).alloc (Nat.le_refl _) _
  have hq1 : w1.heap[w.heap.size]? = some (.cells (zs [3]).toArray 3 (0, 0)) := by rw [hw1]; exact heap_alloc_new w _
  have H1 := Lib.hid hw1
  have HB1 := Lib.hid hb1
  have HC := Lib.hid (touch_ok w.heap.size 1 [3] k s m a now 4 w1 (h.after hb1) hk rfl (by decide) hq1 hs)
  clear h hk hs hw1 hb1 hq1
  go_enter Try.func23, Try.ntmps23
  go_wp2_with fail
  rw [← H1.out]
  refine HC.out.mono ?_
  rintro r w2 ⟨rfl, h2, hb2⟩
  have HP := Lib.hid h2
  have HB2 := Lib.hid ((Gr.of_below HB1.out).trans hb2)
  clear h2 hb2
  go_wp2
  go_ret
  exact ⟨rfl, HP.out, HB2.out⟩
set_option maxHeartbeats 2000000 in
theorem up_bad {B P I : Nat} {beat : Int} {l : List In} (k : Nat) (s m a : Int) (now : Int) (w : World) (h : Po w B P I beat l) (hk : l[k]? = some (s, m, a)) (hs : s ∉ ([3] : List Int)) :
    Calls Try.prog 23 #[.pointer (some ⟨P, 0, none⟩), .int .u32 ((k + 1 : Nat) : Int), .int .i64 now] w fun r w' => r = .returned (.int .i64 24) ∧ Below w.heap.size w w' := by
  obtain ⟨w1, hw1⟩ : ∃ w1, w1 = w.alloc (.cells #[.int .i64 3] 3) := ⟨_, rfl⟩
  have hb1 : Below w.heap.size w w1 := by rw [hw1]; exact (Below.refl _ _).alloc (Nat.le_refl _) _
  have hq1 : w1.heap[w.heap.size]? = some (.cells (zs [3]).toArray 3 (0, 0)) := by rw [hw1]; exact heap_alloc_new w _
  have H1 := Lib.hid hw1
  have HB1 := Lib.hid hb1
  have HC := Lib.hid (touch_bad w.heap.size 1 [3] k s m a now 4 w1 (h.after hb1) hk rfl (by decide) hq1 hs)
  clear h hk hs hw1 hb1 hq1
  go_enter Try.func23, Try.ntmps23
  go_wp2_with fail
  rw [← H1.out]
  refine HC.out.mono ?_
  rintro r w' ⟨rfl, rfl⟩
  go_wp2
  go_ret
  exact ⟨rfl, HB1.out⟩
set_option maxHeartbeats 2000000 in
theorem up_miss (v : Value) (x : Nat) (now : Int) (w : World) (h : MissA w v x) :
    Calls Try.prog 23 #[v, .int .u32 (x : Int), .int .i64 now] w fun r w' => r = .returned (.int .i64 12) ∧ Below w.heap.size w w' := by
  obtain ⟨w1, hw1⟩ : ∃ w1, w1 = w.alloc (.cells #[.int .i64 3] 3) := ⟨_, rfl⟩
  have hb1 : Below w.heap.size w w1 := by rw [hw1]; exact (Below.refl _ _).alloc (Nat.le_refl _) _
  have hq1 : w1.heap[w.heap.size]? = some (.cells (zs [3]).toArray 3 (0, 0)) := by rw [hw1]; exact heap_alloc_new w _
  have H1 := Lib.hid hw1
  have HB1 := Lib.hid hb1
  have HC := Lib.hid (touch_miss v (.slice (some ⟨w.heap.size, 0, none⟩) 1 1) x now 4 w1 (h.after hb1))
  clear h hw1 hb1 hq1
  go_enter Try.func23, Try.ntmps23
  go_wp2_with fail
  rw [← H1.out]
  refine HC.out.mono ?_
  rintro r w' ⟨rfl, rfl⟩
  go_wp2
  go_ret
  exact ⟨rfl, HB1.out⟩
set_option maxHeartbeats 2000000 in
theorem freed_ok {B P I : Nat} {beat : Int} {l : List In} (k : Nat) (s m a : Int) (now : Int) (w : World) (h : Po w B P I beat l) (hk : l[k]? = some (s, m, a)) (hs : s ∈ ([5] : List Int)) :
    Calls Try.prog 26 #[.pointer (some ⟨P, 0, none⟩), .int .u32 ((k + 1 : Nat) : Int), .int .i64 now] w fun r w' => r = .returned (.int .i64 0) ∧ Po w' B P I beat (l.set k (1, mt 1 m, now)) ∧ Gr I w w' := by
  obtain ⟨w1, hw1⟩ : ∃ w1, w1 = w.alloc (.cells #[.int .i64 5] 3) := ⟨_, rfl⟩
  have hb1 : Below w.heap.size w w1 := by rw [hw1]; exact (Below.refl _ _).alloc (Nat.le_refl _) _
  have hq1 : w1.heap[w.heap.size]? = some (.cells (zs [5]).toArray 3 (0, 0)) := by rw [hw1]; exact heap_alloc_new w _
  have H1 := Lib.hid hw1
  have HB1 := Lib.hid hb1
  have HC := Lib.hid (touch_ok w.heap.size 1 [5] k s m a now 1 w1 (h.after hb1) hk rfl (by decide) hq1 hs)
  clear h hk hs hw1 hb1 hq1
  go_enter Try.func26, Try.ntmps26
  go_wp2_with fail
  rw [← H1.out]
  refine HC.out.mono ?_
  rintro r w2 ⟨rfl, h2, hb2⟩
  have HP := Lib.hid h2
  have HB2 := Lib.hid ((Gr.of_below HB1.out).trans hb2)
  clear h2 hb2
  go_wp2
  go_ret
  exact ⟨rfl, HP.out, HB2.out⟩
set_option maxHeartbeats 2000000 in
theorem freed_bad {B P I : Nat} {beat : Int} {l : List In} (k : Nat) (s m a : Int) (now : Int) (w : World) (h : Po w B P I beat l) (hk : l[k]? = some (s, m, a)) (hs : s ∉ ([5] : List Int)) :
    Calls Try.prog 26 #[.pointer (some ⟨P, 0, none⟩), .int .u32 ((k + 1 : Nat) : Int), .int .i64 now] w fun r w' => r = .returned (.int .i64 24) ∧ Below w.heap.size w w' := by
  obtain ⟨w1, hw1⟩ : ∃ w1, w1 = w.alloc (.cells #[.int .i64 5] 3) := ⟨_, rfl⟩
  have hb1 : Below w.heap.size w w1 := by rw [hw1]; exact (Below.refl _ _).alloc (Nat.le_refl _) _
  have hq1 : w1.heap[w.heap.size]? = some (.cells (zs [5]).toArray 3 (0, 0)) := by rw [hw1]; exact heap_alloc_new w _
  have H1 := Lib.hid hw1
  have HB1 := Lib.hid hb1
  have HC := Lib.hid (touch_bad w.heap.size 1 [5] k s m a now 1 w1 (h.after hb1) hk rfl (by decide) hq1 hs)
  clear h hk hs hw1 hb1 hq1
  go_enter Try.func26, Try.ntmps26
  go_wp2_with fail
  rw [← H1.out]
  refine HC.out.mono ?_
  rintro r w' ⟨rfl, rfl⟩
  go_wp2
  go_ret
  exact ⟨rfl, HB1.out⟩
set_option maxHeartbeats 2000000 in
theorem freed_miss (v : Value) (x : Nat) (now : Int) (w : World) (h : MissA w v x) :
    Calls Try.prog 26 #[v, .int .u32 (x : Int), .int .i64 now] w fun r w' => r = .returned (.int .i64 12) ∧ Below w.heap.size w w' := by
  obtain ⟨w1, hw1⟩ : ∃ w1, w1 = w.alloc (.cells #[.int .i64 5] 3) := ⟨_, rfl⟩
  have hb1 : Below w.heap.size w w1 := by rw [hw1]; exact (Below.refl _ _).alloc (Nat.le_refl _) _
  have hq1 : w1.heap[w.heap.size]? = some (.cells (zs [5]).toArray 3 (0, 0)) := by rw [hw1]; exact heap_alloc_new w _
  have H1 := Lib.hid hw1
  have HB1 := Lib.hid hb1
  have HC := Lib.hid (touch_miss v (.slice (some ⟨w.heap.size, 0, none⟩) 1 1) x now 1 w1 (h.after hb1))
  clear h hw1 hb1 hq1
  go_enter Try.func26, Try.ntmps26
  go_wp2_with fail
  rw [← H1.out]
  refine HC.out.mono ?_
  rintro r w' ⟨rfl, rfl⟩
  go_wp2
  go_ret
  exact ⟨rfl, HB1.out⟩
set_option maxHeartbeats 2000000 in
theorem let__ok {B P I : Nat} {beat : Int} {l : List In} (k : Nat) (s m a : Int) (w : World) (h : Po w B P I beat l) (hk : l[k]? = some (s, m, a)) (hs : s ∈ ([2] : List Int)) :
    Calls Try.prog 24 #[.pointer (some ⟨P, 0, none⟩), .int .u32 ((k + 1 : Nat) : Int)] w fun r w' => r = .returned (.int .i64 0) ∧ Po w' B P I beat (l.set k (1, mt 1 m, a)) ∧ Gr I w w' := by
  obtain ⟨w1, hw1⟩ : ∃ w1, w1 = w.alloc (.cells #[.int .i64 2] 3) := ⟨_, rfl⟩
  have hb1 : Below w.heap.size w w1 := by rw [hw1]; exact (Below.refl _ _).alloc (Nat.le_refl _) _
  have hq1 : w1.heap[w.heap.size]? = some (.cells (zs [2]).toArray 3 (0, 0)) := by rw [hw1]; exact heap_alloc_new w _
  have H1 := Lib.hid hw1
  have HB1 := Lib.hid hb1
  have HC := Lib.hid (move_ok w.heap.size 1 [2] k s m a 1 w1 (h.after hb1) hk rfl (by decide) hq1 hs)
  clear h hk hs hw1 hb1 hq1
  go_enter Try.func24, Try.ntmps24
  go_wp2_with fail
  rw [← H1.out]
  refine HC.out.mono ?_
  rintro r w2 ⟨rfl, h2, hb2⟩
  have HP := Lib.hid h2
  have HB2 := Lib.hid ((Gr.of_below HB1.out).trans hb2)
  clear h2 hb2
  go_wp2
  go_ret
  exact ⟨rfl, HP.out, HB2.out⟩
set_option maxHeartbeats 2000000 in
theorem let__bad {B P I : Nat} {beat : Int} {l : List In} (k : Nat) (s m a : Int) (w : World) (h : Po w B P I beat l) (hk : l[k]? = some (s, m, a)) (hs : s ∉ ([2] : List Int)) :
    Calls Try.prog 24 #[.pointer (some ⟨P, 0, none⟩), .int .u32 ((k + 1 : Nat) : Int)] w fun r w' => r = .returned (.int .i64 24) ∧ Below w.heap.size w w' := by
  obtain ⟨w1, hw1⟩ : ∃ w1, w1 = w.alloc (.cells #[.int .i64 2] 3) := ⟨_, rfl⟩
  have hb1 : Below w.heap.size w w1 := by rw [hw1]; exact (Below.refl _ _).alloc (Nat.le_refl _) _
  have hq1 : w1.heap[w.heap.size]? = some (.cells (zs [2]).toArray 3 (0, 0)) := by rw [hw1]; exact heap_alloc_new w _
  have H1 := Lib.hid hw1
  have HB1 := Lib.hid hb1
  have HC := Lib.hid (move_bad w.heap.size 1 [2] k s m a 1 w1 (h.after hb1) hk rfl (by decide) hq1 hs)
  clear h hk hs hw1 hb1 hq1
  go_enter Try.func24, Try.ntmps24
  go_wp2_with fail
  rw [← H1.out]
  refine HC.out.mono ?_
  rintro r w' ⟨rfl, rfl⟩
  go_wp2
  go_ret
  exact ⟨rfl, HB1.out⟩
set_option maxHeartbeats 2000000 in
theorem let__miss (v : Value) (x : Nat) (w : World) (h : MissA w v x) :
    Calls Try.prog 24 #[v, .int .u32 (x : Int)] w fun r w' => r = .returned (.int .i64 12) ∧ Below w.heap.size w w' := by
  obtain ⟨w1, hw1⟩ : ∃ w1, w1 = w.alloc (.cells #[.int .i64 2] 3) := ⟨_, rfl⟩
  have hb1 : Below w.heap.size w w1 := by rw [hw1]; exact (Below.refl _ _).alloc (Nat.le_refl _) _
  have hq1 : w1.heap[w.heap.size]? = some (.cells (zs [2]).toArray 3 (0, 0)) := by rw [hw1]; exact heap_alloc_new w _
  have H1 := Lib.hid hw1
  have HB1 := Lib.hid hb1
  have HC := Lib.hid (move_miss v (.slice (some ⟨w.heap.size, 0, none⟩) 1 1) x 1 w1 (h.after hb1))
  clear h hw1 hb1 hq1
  go_enter Try.func24, Try.ntmps24
  go_wp2_with fail
  rw [← H1.out]
  refine HC.out.mono ?_
  rintro r w' ⟨rfl, rfl⟩
  go_wp2
  go_ret
  exact ⟨rfl, HB1.out⟩
set_option maxHeartbeats 2000000 in
theorem drain_ok {B P I : Nat} {beat : Int} {l : List In} (k : Nat) (s m a : Int) (w : World) (h : Po w B P I beat l) (hk : l[k]? = some (s, m, a)) (hs : s ∈ ([3, 4] : List Int)) :
    Calls Try.prog 25 #[.pointer (some ⟨P, 0, none⟩), .int .u32 ((k + 1 : Nat) : Int)] w fun r w' => r = .returned (.int .i64 0) ∧ Po w' B P I beat (l.set k (5, mt 5 m, a)) ∧ Gr I w w' := by
  obtain ⟨w1, hw1⟩ : ∃ w1, w1 = w.alloc (.cells #[.int .i64 3, .int .i64 4] 3) := ⟨_, rfl⟩
  have hb1 : Below w.heap.size w w1 := by rw [hw1]; exact (Below.refl _ _).alloc (Nat.le_refl _) _
  have hq1 : w1.heap[w.heap.size]? = some (.cells (zs [3, 4]).toArray 3 (0, 0)) := by rw [hw1]; exact heap_alloc_new w _
  have H1 := Lib.hid hw1
  have HB1 := Lib.hid hb1
  have HC := Lib.hid (move_ok w.heap.size 2 [3, 4] k s m a 5 w1 (h.after hb1) hk rfl (by decide) hq1 hs)
  clear h hk hs hw1 hb1 hq1
  go_enter Try.func25, Try.ntmps25
  go_wp2_with fail
  rw [← H1.out]
  refine HC.out.mono ?_
  rintro r w2 ⟨rfl, h2, hb2⟩
  have HP := Lib.hid h2
  have HB2 := Lib.hid ((Gr.of_below HB1.out).trans hb2)
  clear h2 hb2
  go_wp2
  go_ret
  exact ⟨rfl, HP.out, HB2.out⟩
set_option maxHeartbeats 2000000 in
theorem drain_bad {B P I : Nat} {beat : Int} {l : List In} (k : Nat) (s m a : Int) (w : World) (h : Po w B P I beat l) (hk : l[k]? = some (s, m, a)) (hs : s ∉ ([3, 4] : List Int)) :
    Calls Try.prog 25 #[.pointer (some ⟨P, 0, none⟩), .int .u32 ((k + 1 : Nat) : Int)] w fun r w' => r = .returned (.int .i64 24) ∧ Below w.heap.size w w' := by
  obtain ⟨w1, hw1⟩ : ∃ w1, w1 = w.alloc (.cells #[.int .i64 3, .int .i64 4] 3) := ⟨_, rfl⟩
  have hb1 : Below w.heap.size w w1 := by rw [hw1]; exact (Below.refl _ _).alloc (Nat.le_refl _) _
  have hq1 : w1.heap[w.heap.size]? = some (.cells (zs [3, 4]).toArray 3 (0, 0)) := by rw [hw1]; exact heap_alloc_new w _
  have H1 := Lib.hid hw1
  have HB1 := Lib.hid hb1
  have HC := Lib.hid (move_bad w.heap.size 2 [3, 4] k s m a 5 w1 (h.after hb1) hk rfl (by decide) hq1 hs)
  clear h hk hs hw1 hb1 hq1
  go_enter Try.func25, Try.ntmps25
  go_wp2_with fail
  rw [← H1.out]
  refine HC.out.mono ?_
  rintro r w' ⟨rfl, rfl⟩
  go_wp2
  go_ret
  exact ⟨rfl, HB1.out⟩
set_option maxHeartbeats 2000000 in
theorem drain_miss (v : Value) (x : Nat) (w : World) (h : MissA w v x) :
    Calls Try.prog 25 #[v, .int .u32 (x : Int)] w fun r w' => r = .returned (.int .i64 12) ∧ Below w.heap.size w w' := by
  obtain ⟨w1, hw1⟩ : ∃ w1, w1 = w.alloc (.cells #[.int .i64 3, .int .i64 4] 3) := ⟨_, rfl⟩
  have hb1 : Below w.heap.size w w1 := by rw [hw1]; exact (Below.refl _ _).alloc (Nat.le_refl _) _
  have hq1 : w1.heap[w.heap.size]? = some (.cells (zs [3, 4]).toArray 3 (0, 0)) := by rw [hw1]; exact heap_alloc_new w _
  have H1 := Lib.hid hw1
  have HB1 := Lib.hid hb1
  have HC := Lib.hid (move_miss v (.slice (some ⟨w.heap.size, 0, none⟩) 2 2) x 5 w1 (h.after hb1))
  clear h hw1 hb1 hq1
  go_enter Try.func25, Try.ntmps25
  go_wp2_with fail
  rw [← H1.out]
  refine HC.out.mono ?_
  rintro r w' ⟨rfl, rfl⟩
  go_wp2
  go_ret
  exact ⟨rfl, HB1.out⟩
end Go.Proofs.Ytddjbkaofodmlaa
