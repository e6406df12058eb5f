/- Pool: Hello, Kill, Hold, Beat. -/
import Derived.Test.YtddjbkaofodmlaaP4
namespace Go.Proofs.Ytddjbkaofodmlaa
open Go.RowKit
set_option maxRecDepth 20000
set_option linter.unusedVariables false
set_option linter.unusedSimpArgs false

set_option maxHeartbeats 2000000 in
theorem hello_ok {B P I : Nat} {beat : Int} {l : List In} (k : Nat) (s m a : Int) (now : Int) (w : World) (h : Po w B P I beat l) (hk : l[k]? = some (s, m, a)) (hs : s ∈ ([0, 1, 2, 3, 4, 5] : List Int)) :
    Calls Try.prog 14 #[.pointer (some ⟨P, 0, none⟩), .int .u32 ((k + 1 : Nat) : Int), .int .i64 now] w fun r w' => r = .returned (.tuple #[.int .u32 m, .int .i64 0]) ∧ Po w' B P I beat (l.set k (1, 0, now)) ∧ Gr I w w' := by
  have HI := Lib.hid (inst_there k s m a w h hk)
  have H := Lib.hid h
  clear h
  have HK := Lib.hid hk
  have HS := Lib.hid hs
  have HIP := Lib.hid (Nat.lt_of_le_of_lt (Nat.le_refl _) (lt_of_block H.out.2.2.2.2))
  clear hk hs
  go_enter Try.func14, Try.ntmps14
  go_wp2_with fail
  refine HI.out.mono ?_
  rintro r w1 ⟨rfl, hb1⟩
  obtain ⟨w2, hw2⟩ : ∃ w2, w2 = w1.alloc (.cells (iC s m a) 42) := ⟨_, rfl⟩
  have hb2 : Below w1.heap.size w1 w2 := by rw [hw2]; exact (Below.refl _ _).alloc (Nat.le_refl _) _
  have hq2 : w2.heap[w1.heap.size]? = some (.cells (iC s m a) 42 (0, 0)) := by rw [hw2]; exact heap_alloc_new w1 _
  have HB2 := Lib.hid (hb1.trans (hb2.mono hb1.size))
  obtain ⟨w3, hw3⟩ : ∃ w3, w3 = w2.alloc (.cells #[.int .i64 0, .int .i64 1, .int .i64 2, .int .i64 3, .int .i64 4, .int .i64 5] 3) := ⟨_, rfl⟩
  have hb3 : Below w2.heap.size w2 w3 := by rw [hw3]; exact (Below.refl _ _).alloc (Nat.le_refl _) _
  have hq3 : w3.heap[w2.heap.size]? = some (.cells (zs [0, 1, 2, 3, 4, 5]).toArray 3 (0, 0)) := by rw [hw3]; exact heap_alloc_new w2 _
  have HB3 := Lib.hid (HB2.out.trans (hb3.mono HB2.out.size))
  have hs2 : w2.heap.size = w1.heap.size + 1 := by rw [hw2]; simp
  rw [hs2] at hq3
  clear hs2
  have HQ := Lib.hid ((hb3.block _ (lt_of_block hq2)).trans hq2)
  have HC := Lib.hid (move_ok (w1.heap.size + 1) 6 [0, 1, 2, 3, 4, 5] k s m a 1 w3 (H.out.after HB3.out) HK.out rfl (by decide) hq3 HS.out)
  have hne : w1.heap.size ≠ I := by have := hb1.size; have := HIP.out; omega
  have HNE := Lib.hid hne
  clear hne
  have H2 := Lib.hid hw2
  have H3 := Lib.hid hw3
  clear hw2 hw3 hb1 hb2 hb3 hq2 hq3
  go_wp2_with fail
  rw [← H2.out, ← H3.out]
  refine HC.out.mono ?_
  rintro r w4 ⟨rfl, h4, hg4⟩
  have hk4 := set_at (e' := (1, mt 1 m, a)) HK.out
  obtain ⟨h5, hg5⟩ := h4.set2 now hk4
  rw [List.set_set] at h5
  obtain ⟨-, -, c2⟩ := h4.at hk4
  have f2 := h4.fz (k * 3 + 2)
  have hq5 := (hg4.trans hg5).keep HQ.out HNE.out
  have c1 := cell_of_row _ w1.heap.size 1 _ _ _ hq5
  simp at c1
  have HP := Lib.hid h5
  have HG := Lib.hid ((Gr.of_below HB3.out).trans (hg4.trans hg5))
  have HQ4 := Lib.hid (hg4.keep HQ.out HNE.out)
  obtain ⟨w5, hw5⟩ : ∃ w5, w5 = w4.setCell ⟨I, k * 3 + 2, none⟩ (.int .i64 now) := ⟨_, rfl⟩
  rw [← hw5] at HP HG c1
  have H5 := Lib.hid hw5
  clear h4 hg4 hk4 h5 hg5 hq5 hw5
  go_upto_region 5 with (fail)
  rw [← H5.out]
  go_wp2
  go_ret2
  exact ⟨rfl, HP.out, HG.out⟩
set_option maxHeartbeats 2000000 in
theorem hello_miss (v : Value) (x : Nat) (now : Int) (w : World) (h : MissA w v x) :
    Calls Try.prog 14 #[v, .int .u32 (x : Int), .int .i64 now] w fun r w' => r = .returned (.tuple #[.int .u32 0, .int .i64 12]) ∧ Below w.heap.size w w' := by
  have HI := Lib.hid (inst_miss v x w h)
  have H := Lib.hid h
  clear h
  go_enter Try.func14, Try.ntmps14
  go_wp2_with fail
  refine HI.out.mono ?_
  rintro r w1 ⟨rfl, hb1⟩
  obtain ⟨w2, hw2⟩ : ∃ w2, w2 = w1.alloc (.cells (iC 0 0 0) 42) := ⟨_, rfl⟩
  have hb2 : Below w1.heap.size w1 w2 := by rw [hw2]; exact (Below.refl _ _).alloc (Nat.le_refl _) _
  have hq2 : w2.heap[w1.heap.size]? = some (.cells (iC 0 0 0) 42 (0, 0)) := by rw [hw2]; exact heap_alloc_new w1 _
  have HB2 := Lib.hid (hb1.trans (hb2.mono hb1.size))
  obtain ⟨w3, hw3⟩ : ∃ w3, w3 = w2.alloc (.cells #[.int .i64 0, .int .i64 1, .int .i64 2, .int .i64 3, .int .i64 4, .int .i64 5] 3) := ⟨_, rfl⟩
  have hb3 : Below w2.heap.size w2 w3 := by rw [hw3]; exact (Below.refl _ _).alloc (Nat.le_refl _) _
  have hq3 : w3.heap[w2.heap.size]? = some (.cells (zs [0, 1, 2, 3, 4, 5]).toArray 3 (0, 0)) := by rw [hw3]; exact heap_alloc_new w2 _
  have HB3 := Lib.hid (HB2.out.trans (hb3.mono HB2.out.size))
  have hs2 : w2.heap.size = w1.heap.size + 1 := by rw [hw2]; simp
  rw [hs2] at hq3
  clear hs2
  have HQ := Lib.hid ((hb3.block _ (lt_of_block hq2)).trans hq2)
  have HC := Lib.hid (move_miss v (.slice (some ⟨w1.heap.size + 1, 0, none⟩) 6 6) x 1 w3 (H.out.after HB3.out))
  have H2 := Lib.hid hw2
  have H3 := Lib.hid hw3
  clear hw2 hw3 hb1 hb2 hb3 hq2 hq3
  go_wp2_with fail
  rw [← H2.out, ← H3.out]
  refine HC.out.mono ?_
  rintro r w4 ⟨rfl, rfl⟩
  have c1 := cell_of_row _ w1.heap.size 1 _ _ _ HQ.out
  simp at c1
  go_wp2
  go_ret2
  exact ⟨rfl, HB3.out⟩
set_option maxHeartbeats 2000000 in
theorem kill_ok {B P I : Nat} {beat : Int} {l : List In} (k : Nat) (s m a : Int) (w : World) (h : Po w B P I beat l) (hk : l[k]? = some (s, m, a)) (hs : s ∈ ([1, 2, 3, 4, 5] : List Int)) :
    Calls Try.prog 20 #[.pointer (some ⟨P, 0, none⟩), .int .u32 ((k + 1 : Nat) : Int)] w fun r w' => r = .returned (.tuple #[.int .u32 m, .int .i64 0]) ∧ Po w' B P I beat (l.set k (0, 0, a)) ∧ Gr I w w' := by
  have HI := Lib.hid (inst_there k s m a w h hk)
  have H := Lib.hid h
  clear h
  have HK := Lib.hid hk
  have HS := Lib.hid hs
  have HIP := Lib.hid (Nat.lt_of_le_of_lt (Nat.le_refl _) (lt_of_block H.out.2.2.2.2))
  clear hk hs
  go_enter Try.func20, Try.ntmps20
  go_wp2_with fail
  refine HI.out.mono ?_
  rintro r w1 ⟨rfl, hb1⟩
  obtain ⟨w2, hw2⟩ : ∃ w2, w2 = w1.alloc (.cells (iC s m a) 42) := ⟨_, rfl⟩
  have hb2 : Below w1.heap.size w1 w2 := by rw [hw2]; exact (Below.refl _ _).alloc (Nat.le_refl _) _
  have hq2 : w2.heap[w1.heap.size]? = some (.cells (iC s m a) 42 (0, 0)) := by rw [hw2]; exact heap_alloc_new w1 _
  have HB2 := Lib.hid (hb1.trans (hb2.mono hb1.size))
  obtain ⟨w3, hw3⟩ : ∃ w3, w3 = w2.alloc (.cells #[.int .i64 1, .int .i64 2, .int .i64 3, .int .i64 4, .int .i64 5] 3) := ⟨_, rfl⟩
  have hb3 : Below w2.heap.size w2 w3 := by rw [hw3]; exact (Below.refl _ _).alloc (Nat.le_refl _) _
  have hq3 : w3.heap[w2.heap.size]? = some (.cells (zs [1, 2, 3, 4, 5]).toArray 3 (0, 0)) := by rw [hw3]; exact heap_alloc_new w2 _
  have HB3 := Lib.hid (HB2.out.trans (hb3.mono HB2.out.size))
  have hs2 : w2.heap.size = w1.heap.size + 1 := by rw [hw2]; simp
  rw [hs2] at hq3
  clear hs2
  have HQ := Lib.hid ((hb3.block _ (lt_of_block hq2)).trans hq2)
  have HC := Lib.hid (move_ok (w1.heap.size + 1) 5 [1, 2, 3, 4, 5] k s m a 0 w3 (H.out.after HB3.out) HK.out rfl (by decide) hq3 HS.out)
  have hne : w1.heap.size ≠ I := by have := hb1.size; have := HIP.out; omega
  have HNE := Lib.hid hne
  clear hne
  have H2 := Lib.hid hw2
  have H3 := Lib.hid hw3
  clear hw2 hw3 hb1 hb2 hb3 hq2 hq3
  go_wp2_with fail
  rw [← H2.out, ← H3.out]
  refine HC.out.mono ?_
  rintro r w4 ⟨rfl, h4, hg4⟩
  have hk4 := set_at (e' := (0, mt 0 m, a)) HK.out
  have hq5 := hg4.keep HQ.out HNE.out
  have c1 := cell_of_row _ w1.heap.size 1 _ _ _ hq5
  simp at c1
  have HP := Lib.hid h4
  have HG := Lib.hid ((Gr.of_below HB3.out).trans hg4)
  clear h4 hg4 hk4 hq5
  go_wp2
  go_ret2
  exact ⟨rfl, HP.out, HG.out⟩
set_option maxHeartbeats 2000000 in
theorem kill_bad {B P I : Nat} {beat : Int} {l : List In} (k : Nat) (s m a : Int) (w : World) (h : Po w B P I beat l) (hk : l[k]? = some (s, m, a)) (hs : s ∉ ([1, 2, 3, 4, 5] : List Int)) :
    Calls Try.prog 20 #[.pointer (some ⟨P, 0, none⟩), .int .u32 ((k + 1 : Nat) : Int)] w fun r w' => r = .returned (.tuple #[.int .u32 m, .int .i64 24]) ∧ Below w.heap.size w w' := by
  have HI := Lib.hid (inst_there k s m a w h hk)
  have H := Lib.hid h
  clear h
  have HK := Lib.hid hk
  have HS := Lib.hid hs
  have HIP := Lib.hid (Nat.lt_of_le_of_lt (Nat.le_refl _) (lt_of_block H.out.2.2.2.2))
  clear hk hs
  go_enter Try.func20, Try.ntmps20
  go_wp2_with fail
  refine HI.out.mono ?_
  rintro r w1 ⟨rfl, hb1⟩
  obtain ⟨w2, hw2⟩ : ∃ w2, w2 = w1.alloc (.cells (iC s m a) 42) := ⟨_, rfl⟩
  have hb2 : Below w1.heap.size w1 w2 := by rw [hw2]; exact (Below.refl _ _).alloc (Nat.le_refl _) _
  have hq2 : w2.heap[w1.heap.size]? = some (.cells (iC s m a) 42 (0, 0)) := by rw [hw2]; exact heap_alloc_new w1 _
  have HB2 := Lib.hid (hb1.trans (hb2.mono hb1.size))
  obtain ⟨w3, hw3⟩ : ∃ w3, w3 = w2.alloc (.cells #[.int .i64 1, .int .i64 2, .int .i64 3, .int .i64 4, .int .i64 5] 3) := ⟨_, rfl⟩
  have hb3 : Below w2.heap.size w2 w3 := by rw [hw3]; exact (Below.refl _ _).alloc (Nat.le_refl _) _
  have hq3 : w3.heap[w2.heap.size]? = some (.cells (zs [1, 2, 3, 4, 5]).toArray 3 (0, 0)) := by rw [hw3]; exact heap_alloc_new w2 _
  have HB3 := Lib.hid (HB2.out.trans (hb3.mono HB2.out.size))
  have hs2 : w2.heap.size = w1.heap.size + 1 := by rw [hw2]; simp
  rw [hs2] at hq3
  clear hs2
  have HQ := Lib.hid ((hb3.block _ (lt_of_block hq2)).trans hq2)
  have HC := Lib.hid (move_bad (w1.heap.size + 1) 5 [1, 2, 3, 4, 5] k s m a 0 w3 (H.out.after HB3.out) HK.out rfl (by decide) hq3 HS.out)
  have H2 := Lib.hid hw2
  have H3 := Lib.hid hw3
  clear hw2 hw3 hb1 hb2 hb3 hq2 hq3
  go_wp2_with fail
  rw [← H2.out, ← H3.out]
  refine HC.out.mono ?_
  rintro r w4 ⟨rfl, rfl⟩
  have c1 := cell_of_row _ w1.heap.size 1 _ _ _ HQ.out
  simp at c1
  go_wp2
  go_ret2
  exact ⟨rfl, HB3.out⟩
set_option maxHeartbeats 2000000 in
theorem kill_miss (v : Value) (x : Nat) (w : World) (h : MissA w v x) :
    Calls Try.prog 20 #[v, .int .u32 (x : Int)] w fun r w' => r = .returned (.tuple #[.int .u32 0, .int .i64 12]) ∧ Below w.heap.size w w' := by
  have HI := Lib.hid (inst_miss v x w h)
  have H := Lib.hid h
  clear h
  go_enter Try.func20, Try.ntmps20
  go_wp2_with fail
  refine HI.out.mono ?_
  rintro r w1 ⟨rfl, hb1⟩
  obtain ⟨w2, hw2⟩ : ∃ w2, w2 = w1.alloc (.cells (iC 0 0 0) 42) := ⟨_, rfl⟩
  have hb2 : Below w1.heap.size w1 w2 := by rw [hw2]; exact (Below.refl _ _).alloc (Nat.le_refl _) _
  have hq2 : w2.heap[w1.heap.size]? = some (.cells (iC 0 0 0) 42 (0, 0)) := by rw [hw2]; exact heap_alloc_new w1 _
  have HB2 := Lib.hid (hb1.trans (hb2.mono hb1.size))
  obtain ⟨w3, hw3⟩ : ∃ w3, w3 = w2.alloc (.cells #[.int .i64 1, .int .i64 2, .int .i64 3, .int .i64 4, .int .i64 5] 3) := ⟨_, rfl⟩
  have hb3 : Below w2.heap.size w2 w3 := by rw [hw3]; exact (Below.refl _ _).alloc (Nat.le_refl _) _
  have hq3 : w3.heap[w2.heap.size]? = some (.cells (zs [1, 2, 3, 4, 5]).toArray 3 (0, 0)) := by rw [hw3]; exact heap_alloc_new w2 _
  have HB3 := Lib.hid (HB2.out.trans (hb3.mono HB2.out.size))
  have hs2 : w2.heap.size = w1.heap.size + 1 := by rw [hw2]; simp
  rw [hs2] at hq3
  clear hs2
  have HQ := Lib.hid ((hb3.block _ (lt_of_block hq2)).trans hq2)
  have HC := Lib.hid (move_miss v (.slice (some ⟨w1.heap.size + 1, 0, none⟩) 5 5) x 0 w3 (H.out.after HB3.out))
  have H2 := Lib.hid hw2
  have H3 := Lib.hid hw3
  clear hw2 hw3 hb1 hb2 hb3 hq2 hq3
  go_wp2_with fail
  rw [← H2.out, ← H3.out]
  refine HC.out.mono ?_
  rintro r w4 ⟨rfl, rfl⟩
  have c1 := cell_of_row _ w1.heap.size 1 _ _ _ HQ.out
  simp at c1
  go_wp2
  go_ret2
  exact ⟨rfl, HB3.out⟩
set_option maxHeartbeats 2000000 in
theorem hold_miss (v : Value) (x y : Nat) (w : World) (h : MissA w v x) :
    Calls Try.prog 15 #[v, .int .u32 (x : Int), .int .u32 (y : Int)] w fun r w' => r = .returned (.int .i64 12) ∧ Below w.heap.size w w' := by
  obtain ⟨w1, hw1⟩ : ∃ w1, w1 = w.alloc (.cells #[.int .i64 1] 3) := ⟨_, rfl⟩
  have hbw1 : Below w.heap.size w w1 := by rw [hw1]; exact (Below.refl _ _).alloc (Nat.le_refl _) _
  have hqw1 : w1.heap[w.heap.size]? = some (.cells (zs [1]).toArray 3 (0, 0)) := by rw [hw1]; exact heap_alloc_new w _
  have Hw1 := Lib.hid hw1
  have HBw1 := Lib.hid hbw1
  have HC := Lib.hid (in_miss v (.slice (some ⟨w.heap.size, 0, none⟩) 1 1) x w1 (h.after hbw1))
  clear h hw1 hbw1 hqw1
  go_enter Try.func15, Try.ntmps15
  go_wp2_with fail
  rw [← Hw1.out]
  refine HC.out.mono ?_
  rintro r w' ⟨rfl, rfl⟩
  go_wp2
  go_ret
  exact ⟨rfl, HBw1.out⟩
set_option maxHeartbeats 2000000 in
theorem hold_bad {B P I : Nat} {beat : Int} {l : List In} (k : Nat) (s m a : Int) (y : Nat) (w : World) (h : Po w B P I beat l) (hk : l[k]? = some (s, m, a)) (hs : ¬ s = 1) :
    Calls Try.prog 15 #[.pointer (some ⟨P, 0, none⟩), .int .u32 ((k + 1 : Nat) : Int), .int .u32 (y : Int)] w fun r w' => r = .returned (.int .i64 24) ∧ Below w.heap.size w w' := by
  obtain ⟨w1, hw1⟩ : ∃ w1, w1 = w.alloc (.cells #[.int .i64 1] 3) := ⟨_, rfl⟩
  have hbw1 : Below w.heap.size w w1 := by rw [hw1]; exact (Below.refl _ _).alloc (Nat.le_refl _) _
  have hqw1 : w1.heap[w.heap.size]? = some (.cells (zs [1]).toArray 3 (0, 0)) := by rw [hw1]; exact heap_alloc_new w _
  have Hw1 := Lib.hid hw1
  have HBw1 := Lib.hid hbw1
  have hC := in_there w.heap.size 1 [1] k s m a w1 (h.after hbw1) hk rfl (by decide) hqw1
  rw [if_neg (by simpa using hs)] at hC
  have HC := Lib.hid hC
  clear h hk hs hw1 hbw1 hqw1 hC
  go_enter Try.func15, Try.ntmps15
  go_wp2_with fail
  rw [← Hw1.out]
  refine HC.out.mono ?_
  rintro r w' ⟨rfl, rfl⟩
  go_wp2
  go_ret
  exact ⟨rfl, HBw1.out⟩
set_option maxHeartbeats 2000000 in
theorem hold_id {B P I : Nat} {beat : Int} {l : List In} (k : Nat) (s m a : Int) (y : Nat) (w : World) (h : Po w B P I beat l) (hk : l[k]? = some (s, m, a)) (hs : s = 1) (hy : ¬ (1 ≤ y ∧ y ≤ 2147483647)) :
    Calls Try.prog 15 #[.pointer (some ⟨P, 0, none⟩), .int .u32 ((k + 1 : Nat) : Int), .int .u32 (y : Int)] w fun r w' => r = .returned (.int .i64 14) ∧ Below w.heap.size w w' := by
  obtain ⟨w1, hw1⟩ : ∃ w1, w1 = w.alloc (.cells #[.int .i64 1] 3) := ⟨_, rfl⟩
  have hbw1 : Below w.heap.size w w1 := by rw [hw1]; exact (Below.refl _ _).alloc (Nat.le_refl _) _
  have hqw1 : w1.heap[w.heap.size]? = some (.cells (zs [1]).toArray 3 (0, 0)) := by rw [hw1]; exact heap_alloc_new w _
  have Hw1 := Lib.hid hw1
  have HBw1 := Lib.hid hbw1
  have hC := in_there w.heap.size 1 [1] k s m a w1 (h.after hbw1) hk rfl (by decide) hqw1
  rw [if_pos (by simpa using hs)] at hC
  have HC := Lib.hid hC
  have hR := right_any y w1
  rw [show decide (1 ≤ y ∧ y ≤ 2147483647) = false from by rw [decide_eq_false_iff_not]; exact hy] at hR
  have HR := Lib.hid hR
  clear h hk hs hw1 hbw1 hqw1 hC hy hR
  go_enter Try.func15, Try.ntmps15
  go_wp2_with fail
  rw [← Hw1.out]
  refine HC.out.mono ?_
  rintro r w' ⟨rfl, rfl⟩
  go_wp2_with fail
  refine HR.out.mono ?_
  rintro r w' ⟨rfl, rfl⟩
  go_wp2
  go_ret
  exact ⟨rfl, HBw1.out⟩
set_option maxHeartbeats 2000000 in
theorem hold_ok {B P I : Nat} {beat : Int} {l : List In} (k : Nat) (s m a : Int) (y : Nat) (w : World) (h : Po w B P I beat l) (hk : l[k]? = some (s, m, a)) (hs : s = 1) (hy : 1 ≤ y ∧ y ≤ 2147483647) :
    Calls Try.prog 15 #[.pointer (some ⟨P, 0, none⟩), .int .u32 ((k + 1 : Nat) : Int), .int .u32 (y : Int)] w fun r w' => r = .returned (.int .i64 0) ∧ Po w' B P I beat (l.set k (2, (y : Int), a)) ∧ Gr I w w' := by
  obtain ⟨w1, hw1⟩ : ∃ w1, w1 = w.alloc (.cells #[.int .i64 1] 3) := ⟨_, rfl⟩
  have hbw1 : Below w.heap.size w w1 := by rw [hw1]; exact (Below.refl _ _).alloc (Nat.le_refl _) _
  have hqw1 : w1.heap[w.heap.size]? = some (.cells (zs [1]).toArray 3 (0, 0)) := by rw [hw1]; exact heap_alloc_new w _
  have Hw1 := Lib.hid hw1
  have HBw1 := Lib.hid hbw1
  obtain ⟨w2, hw2⟩ : ∃ w2, w2 = w1.alloc (.cells #[.int .i64 1] 3) := ⟨_, rfl⟩
  have hbw2 : Below w1.heap.size w1 w2 := by rw [hw2]; exact (Below.refl _ _).alloc (Nat.le_refl _) _
  have hqw2 : w2.heap[w1.heap.size]? = some (.cells (zs [1]).toArray 3 (0, 0)) := by rw [hw2]; exact heap_alloc_new w1 _
  have Hw2 := Lib.hid hw2
  have HBw2 := Lib.hid hbw2
  have hC := in_there w.heap.size 1 [1] k s m a w1 (h.after hbw1) hk rfl (by decide) hqw1
  rw [if_pos (by simpa using hs)] at hC
  have HC := Lib.hid hC
  have hR := right_any y w1
  rw [show decide (1 ≤ y ∧ y ≤ 2147483647) = true from by rw [decide_eq_true_iff]; exact hy] at hR
  have HR := Lib.hid hR
  have HM := Lib.hid (move_ok w1.heap.size 1 [1] k s m a 2 w2 ((h.after hbw1).after hbw2) hk rfl (by decide) hqw2 (by simpa using hs))
  have HK := Lib.hid hk
  have HBB := Lib.hid (hbw1.trans (hbw2.mono hbw1.size))
  clear h hk hs hw1 hbw1 hqw1 hC hy hR hw2 hbw2 hqw2
  go_enter Try.func15, Try.ntmps15
  go_wp2_with fail
  rw [← Hw1.out]
  refine HC.out.mono ?_
  rintro r w' ⟨rfl, rfl⟩
  go_wp2_with fail
  refine HR.out.mono ?_
  rintro r w' ⟨rfl, rfl⟩
  go_wp2_with fail
  rw [← Hw2.out]
  refine HM.out.mono ?_
  rintro r w4 ⟨rfl, h4, hg4⟩
  have hk4 := set_at (e' := (2, mt 2 m, a)) HK.out
  obtain ⟨h5, hg5⟩ := h4.set1 (y : Int) hk4
  rw [List.set_set] at h5
  obtain ⟨-, c1, -⟩ := h4.at hk4
  have f1 := h4.fz (k * 3 + 1)
  have HP := Lib.hid h5
  have HG := Lib.hid ((Gr.of_below HBB.out).trans (hg4.trans hg5))
  clear h4 hg4 hk4 h5 hg5
  go_wp2
  go_ret
  exact ⟨rfl, HP.out, HG.out⟩
set_option maxHeartbeats 2000000 in
theorem beat_miss (v : Value) (x : Nat) (now : Int) (w : World) (h : MissA w v x) :
    Calls Try.prog 19 #[v, .int .u32 (x : Int), .int .i64 now] w fun r w' => r = .returned (.int .i64 12) ∧ Below w.heap.size w w' := by
  obtain ⟨w1, hw1⟩ : ∃ w1, w1 = w.alloc (.cells #[.int .i64 1, .int .i64 2, .int .i64 3, .int .i64 4, .int .i64 5] 3) := ⟨_, rfl⟩
  have hbw1 : Below w.heap.size w w1 := by rw [hw1]; exact (Below.refl _ _).alloc (Nat.le_refl _) _
  have hqw1 : w1.heap[w.heap.size]? = some (.cells (zs [1, 2, 3, 4, 5]).toArray 3 (0, 0)) := by rw [hw1]; exact heap_alloc_new w _
  have Hw1 := Lib.hid hw1
  have HBw1 := Lib.hid hbw1
  have HC := Lib.hid (in_miss v (.slice (some ⟨w.heap.size, 0, none⟩) 5 5) x w1 (h.after hbw1))
  clear h hw1 hbw1 hqw1
  go_enter Try.func19, Try.ntmps19
  go_wp2_with fail
  rw [← Hw1.out]
  refine HC.out.mono ?_
  rintro r w' ⟨rfl, rfl⟩
  go_wp2
  go_ret
  exact ⟨rfl, HBw1.out⟩
set_option maxHeartbeats 2000000 in
theorem beat_bad {B P I : Nat} {beat : Int} {l : List In} (k : Nat) (s m a : Int) (now : Int) (w : World) (h : Po w B P I beat l) (hk : l[k]? = some (s, m, a)) (hs : s ∉ ([1, 2, 3, 4, 5] : List Int)) :
    Calls Try.prog 19 #[.pointer (some ⟨P, 0, none⟩), .int .u32 ((k + 1 : Nat) : Int), .int .i64 now] w fun r w' => r = .returned (.int .i64 24) ∧ Below w.heap.size w w' := by
  obtain ⟨w1, hw1⟩ : ∃ w1, w1 = w.alloc (.cells #[.int .i64 1, .int .i64 2, .int .i64 3, .int .i64 4, .int .i64 5] 3) := ⟨_, rfl⟩
  have hbw1 : Below w.heap.size w w1 := by rw [hw1]; exact (Below.refl _ _).alloc (Nat.le_refl _) _
  have hqw1 : w1.heap[w.heap.size]? = some (.cells (zs [1, 2, 3, 4, 5]).toArray 3 (0, 0)) := by rw [hw1]; exact heap_alloc_new w _
  have Hw1 := Lib.hid hw1
  have HBw1 := Lib.hid hbw1
  have hC := in_there w.heap.size 5 [1, 2, 3, 4, 5] k s m a w1 (h.after hbw1) hk rfl (by decide) hqw1
  rw [if_neg hs] at hC
  have HC := Lib.hid hC
  clear h hk hs hw1 hbw1 hqw1 hC
  go_enter Try.func19, Try.ntmps19
  go_wp2_with fail
  rw [← Hw1.out]
  refine HC.out.mono ?_
  rintro r w' ⟨rfl, rfl⟩
  go_wp2
  go_ret
  exact ⟨rfl, HBw1.out⟩
set_option maxHeartbeats 2000000 in
theorem beat_ok {B P I : Nat} {beat : Int} {l : List In} (k : Nat) (s m a : Int) (now : Int) (w : World) (h : Po w B P I beat l) (hk : l[k]? = some (s, m, a)) (hs : s ∈ ([1, 2, 3, 4, 5] : List Int)) :
    Calls Try.prog 19 #[.pointer (some ⟨P, 0, none⟩), .int .u32 ((k + 1 : Nat) : Int), .int .i64 now] w fun r w' => r = .returned (.int .i64 0) ∧ Po w' B P I beat (l.set k (s, m, if s = 3 then a else now)) ∧ Gr I w w' := by
  obtain ⟨w1, hw1⟩ : ∃ w1, w1 = w.alloc (.cells #[.int .i64 1, .int .i64 2, .int .i64 3, .int .i64 4, .int .i64 5] 3) := ⟨_, rfl⟩
  have hbw1 : Below w.heap.size w w1 := by rw [hw1]; exact (Below.refl _ _).alloc (Nat.le_refl _) _
  have hqw1 : w1.heap[w.heap.size]? = some (.cells (zs [1, 2, 3, 4, 5]).toArray 3 (0, 0)) := by rw [hw1]; exact heap_alloc_new w _
  have Hw1 := Lib.hid hw1
  have HBw1 := Lib.hid hbw1
  have hC := in_there w.heap.size 5 [1, 2, 3, 4, 5] k s m a w1 (h.after hbw1) hk rfl (by decide) hqw1
  rw [if_pos hs] at hC
  have HC := Lib.hid hC
  obtain ⟨c0, -, c2⟩ := (h.after hbw1).at hk
  by_cases h3 : s = 3
  · rw [if_pos h3]
    have HP : Hid (Po w1 B P I beat (l.set k (s, m, a))) := by
      simp only [Hid]
      rw [show l.set k (s, m, a) = l from by
        obtain ⟨hlt, he⟩ := List.getElem?_eq_some_iff.1 hk
        rw [← he, List.set_getElem_self]]
      exact h.after hbw1
    subst h3
    clear h hk hs hw1 hbw1 hqw1 hC c2
    go_enter Try.func19, Try.ntmps19
    go_wp2_with fail
    rw [← Hw1.out]
    refine HC.out.mono ?_
    rintro r w' ⟨rfl, rfl⟩
    go_wp2
    go_ret
    exact ⟨rfl, HP.out, Gr.of_below HBw1.out⟩
  · rw [if_neg h3]
    have hb3 : (s != 3) = true := by simpa using h3
    obtain ⟨h5, hg5⟩ := (h.after hbw1).set2 now hk
    have HP := Lib.hid h5
    have HG := Lib.hid ((Gr.of_below HBw1.out).trans hg5)
    have f2 := (h.after hbw1).fz (k * 3 + 2)
    clear h hk hs hw1 hbw1 hqw1 hC h5 hg5
    go_enter Try.func19, Try.ntmps19
    go_wp2_with fail
    rw [← Hw1.out]
    refine HC.out.mono ?_
    rintro r w' ⟨rfl, rfl⟩
    go_wp2
    go_ret
    exact ⟨rfl, HP.out, HG.out⟩
end Go.Proofs.Ytddjbkaofodmlaa
