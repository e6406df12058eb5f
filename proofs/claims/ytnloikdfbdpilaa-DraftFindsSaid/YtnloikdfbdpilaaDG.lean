/- Draft: Same at rows that are one; awake. -/
import Derived.Test.YtnloikdfbdpilaaDF
import Derived.LoopTactic
import Derived.Deep.QuietTactic
namespace Go.Proofs.Ytnloikdfbdpilaa
open Go.RowKit
set_option maxRecDepth 20000
set_option linter.unusedVariables false

theorem below_drewN {B : Nat} {w W : World} (h : Below B w W) (q : Nat) : Below B w (W.drewN q) := by
  induction q with
  | zero => exact h
  | succ q ih => exact ih.drew
set_option maxHeartbeats 1000000 in
theorem same_eq (A B : Option Addr) (n c d : Nat) (l : List Int) (w : World) (hnl : n = l.length) (ha : Zs w w.heap.size A l) (hb : Zs w w.heap.size B l) (hn : n ≤ 1000) : Calls Try.prog 19 #[.slice A n c, .slice B n d] w fun r w' => r = .returned (.bool true) ∧ Below w.heap.size w w' := by
  have HA := Lib.hid ha
  have HB := Lib.hid hb
  have HN := Lib.hid hnl
  have HBr : Hid (Below w.heap.size w w) := Below.refl _ _
  clear ha hb hnl
  go_enter Try.func19, Try.ntmps19
  go_wp2
  go_loopw [5] (fun i wr => ∃ k : Nat, k ≤ n ∧ i = .int .i64 k ∧ Hid (Below w.heap.size w wr)) (fun i _ => n - (intOf i).toNat)
  case atStart => exact ⟨0, Nat.zero_le _, rfl, HBr.out⟩
  case round =>
    obtain ⟨k, hk, rfl, HBW⟩ := hrel
    by_cases hlt : k < n
    · obtain ⟨x, hx⟩ : ∃ x, l[k]? = some x := ⟨l[k]'(by rw [← HN.out]; exact hlt), List.getElem?_eq_getElem _⟩
      obtain ⟨b, o, rfl, hbb, hcell⟩ := HA.out (by have := HN.out; omega)
      obtain ⟨b2, o2, rfl, hbb2, hcell2⟩ := HB.out (by have := HN.out; omega)
      have c1 := (HBW.out.cell (p := ⟨b, o + k, none⟩) hbb).trans (hcell k x hx)
      have c2 := (HBW.out.cell (p := ⟨b2, o2 + k, none⟩) hbb2).trans (hcell2 k x hx)
      have hbe : (x != x) = false := by simp
      clear hx hcell hcell2 hbb hbb2
      go_wp2
      go_quiet (fail)
      go_wp2
      go_roundw
      case rel => exact ⟨k + 1, by omega, by go_num, below_drewN HBW.out _⟩
      case measure => simp [intOf]; omega
    · obtain rfl : k = n := by omega
      go_wp2
      go_ret
      exact ⟨rfl, HBW.out⟩

def aM : Mo := ⟨1, 100, 0, 100, 1⟩
def aL : List Tk := [⟨1, 1500, 0⟩, ⟨1, 1700, 0⟩, ⟨1, 1550, 0⟩]
theorem a_find : findP aM 0 aL = some ([0], [2]) := by decide +kernel

set_option maxHeartbeats 4000000 in
theorem dawake (w : World) : Calls Try.prog 16 #[] w fun r w' => r = .returned (.bool true) ∧ Below w.heap.size w w' := by
  obtain ⟨w0, hw0⟩ : ∃ w0, w0 = w.alloc (.cells (mCells 1 100 0 100 1) 32) := ⟨_, rfl⟩
  have hb0 : Below w.heap.size w w0 := by rw [hw0]; exact (Below.refl _ _).alloc (Nat.le_refl _) _
  have hq0 : w0.heap[w.heap.size]? = some (.cells (mCells 1 100 0 100 1) 32 (0, 0)) := by rw [hw0]; exact heap_alloc_new w _
  obtain ⟨w1, hw1⟩ : ∃ w1, w1 = w0.alloc (.cells #[.int .u32 1] 27) := ⟨_, rfl⟩
  have hb1 : Below w0.heap.size w0 w1 := by rw [hw1]; exact (Below.refl _ _).alloc (Nat.le_refl _) _
  have hq1 := (hb1.block _ (lt_of_block hq0)).trans hq0
  obtain ⟨w2, hw2⟩ : ∃ w2, w2 = w1.alloc (.cells #[.int .u32 0, .int .i64 0, .slice (some ⟨w0.heap.size, 0, none⟩) 1 1, .int .i64 1500, .int .i64 0, .int .u32 0, .int .i64 0, .slice (some ⟨w0.heap.size, 0, none⟩) 1 1, .int .i64 1700, .int .i64 0, .int .u32 0, .int .i64 0, .slice (some ⟨w0.heap.size, 0, none⟩) 1 1, .int .i64 1550, .int .i64 0] 56) := ⟨_, rfl⟩
  have hb2 : Below w1.heap.size w1 w2 := by rw [hw2]; exact (Below.refl _ _).alloc (Nat.le_refl _) _
  have hq2 : w2.heap[w1.heap.size]? = some (.cells #[.int .u32 0, .int .i64 0, .slice (some ⟨w0.heap.size, 0, none⟩) 1 1, .int .i64 1500, .int .i64 0, .int .u32 0, .int .i64 0, .slice (some ⟨w0.heap.size, 0, none⟩) 1 1, .int .i64 1700, .int .i64 0, .int .u32 0, .int .i64 0, .slice (some ⟨w0.heap.size, 0, none⟩) 1 1, .int .i64 1550, .int .i64 0] 56 (0, 0)) := by rw [hw2]; exact heap_alloc_new w1 _
  have hT : Ts w2 w2.heap.size (some ⟨w1.heap.size, 0, none⟩) aL := fun _ => ⟨w1.heap.size, 0, rfl, lt_of_block hq2, fun i t ht => by
    have hi : i < 3 := (List.getElem?_eq_some_iff.1 ht).1
    obtain rfl | rfl | rfl : i = 0 ∨ i = 1 ∨ i = 2 := by omega
    all_goals
      simp [aL] at ht
      subst ht
      exact ⟨0, 0, _, 1, cell_of_row w2 _ _ _ _ _ hq2, cell_of_row w2 _ _ _ _ _ hq2, cell_of_row w2 _ _ _ _ _ hq2, cell_of_row w2 _ _ _ _ _ hq2, cell_of_row w2 _ _ _ _ _ hq2⟩⟩
  have HF := Lib.hid (find_any aM 0 (some ⟨w1.heap.size, 0, none⟩) 3 3 aL w2 rfl hT (by decide) ⟨by omega, by omega⟩ (fun t ht => by
    simp [aL] at ht
    rcases ht with rfl | rfl | rfl
    all_goals exact ⟨by decide, by unfold In64; simp only; omega⟩))
  rw [a_find] at HF
  have HB2 : Hid (Below w.heap.size w w2) := (hb0.trans (hb1.mono hb0.size)).trans (hb2.mono (Nat.le_trans hb0.size hb1.size))
  have c0 := cell_of_row w1 w.heap.size 0 _ _ _ hq1
  have c1 := cell_of_row w1 w.heap.size 1 _ _ _ hq1
  have c2 := cell_of_row w1 w.heap.size 2 _ _ _ hq1
  have c3 := cell_of_row w1 w.heap.size 3 _ _ _ hq1
  have c4 := cell_of_row w1 w.heap.size 4 _ _ _ hq1
  simp at c0 c1 c2 c3 c4
  have H0 := Lib.hid hw0
  have H1 := Lib.hid hw1
  have H2 := Lib.hid hw2
  clear hw0 hb0 hq0 hw1 hb1 hq1 hw2 hb2 hq2 hT
  go_enter Try.func16, Try.ntmps16
  go_upto_region 2 with (fail)
  rw [← H0.out]
  go_upto_region 3 with (fail)
  rw [← H1.out]
  go_wp2_with fail
  rw [← H2.out]
  refine HF.out.mono ?_
  rintro r w3 ⟨⟨v, rfl, A1, d1, A2, d2, rfl, hz1, hz2, -, -⟩, hb⟩
  have HB3 : Hid (Below w.heap.size w w3) := HB2.out.trans (hb.mono HB2.out.size)
  simp only [Option.getD_some, Option.isSome_some, List.length_cons, List.length_nil] at hz1 hz2 ⊢
  obtain ⟨w4, hw4⟩ : ∃ w4, w4 = w3.alloc (.cells #[.slice A1 1 d1, .slice A2 1 d2] 40) := ⟨_, rfl⟩
  have hb4 : Below w3.heap.size w3 w4 := by rw [hw4]; exact (Below.refl _ _).alloc (Nat.le_refl _) _
  have hq4 : w4.heap[w3.heap.size]? = some (.cells #[.slice A1 1 d1, .slice A2 1 d2] 40 (0, 0)) := by rw [hw4]; exact heap_alloc_new w3 _
  obtain ⟨w5, hw5⟩ : ∃ w5, w5 = w4.alloc (.cells #[.int .i64 0] 3) := ⟨_, rfl⟩
  have hb5 : Below w4.heap.size w4 w5 := by rw [hw5]; exact (Below.refl _ _).alloc (Nat.le_refl _) _
  have hq5 : w5.heap[w4.heap.size]? = some (.cells (zv [0]).toArray 3 (0, 0)) := by rw [hw5]; exact heap_alloc_new w4 _
  have HS1 := Lib.hid (same_eq A1 (some ⟨w4.heap.size, 0, none⟩) 1 d1 1 [0] w5 rfl ((hz1.later hb4 (Nat.le_refl _)).later hb5 (Nat.le_refl _)) (z_zs hq5) (by decide))
  have t0 := cell_of_row w4 w3.heap.size 0 _ _ _ hq4
  have t1 := cell_of_row w4 w3.heap.size 1 _ _ _ hq4
  simp at t0 t1
  have HQ5 : Hid (w5.heap[w3.heap.size]? = some (.cells #[.slice A1 1 d1, .slice A2 1 d2] 40 (0, 0))) := (hb5.block _ (lt_of_block hq4)).trans hq4
  have HZ2 : Hid (Zs w5 w5.heap.size A2 [2]) := (hz2.later hb4 (Nat.le_refl _)).later hb5 (Nat.le_refl _)
  have HB5 : Hid (Below w.heap.size w w5) := (HB3.out.trans (hb4.mono HB3.out.size)).trans (hb5.mono (Nat.le_trans HB3.out.size hb4.size))
  have H4 := Lib.hid hw4
  have H5 := Lib.hid hw5
  clear hb hz1 hz2 hw4 hb4 hq4 hw5 hb5 hq5 c0 c1 c2 c3 c4
  go_upto_region 4 with (fail)
  rw [← H4.out]
  go_wp2_with fail
  rw [← H5.out]
  refine HS1.out.mono ?_
  rintro r w6 ⟨rfl, hb⟩
  have hq6 : w6.heap[w3.heap.size]? = some (.cells #[.slice A1 1 d1, .slice A2 1 d2] 40 (0, 0)) := (hb.block _ (lt_of_block HQ5.out)).trans HQ5.out
  have HZ6 := Lib.hid (HZ2.out.later hb (Nat.le_refl _))
  have HB6 : Hid (Below w.heap.size w w6) := HB5.out.trans (hb.mono HB5.out.size)
  obtain ⟨w7, hw7⟩ : ∃ w7, w7 = w6.alloc (.cells #[.int .i64 2] 3) := ⟨_, rfl⟩
  have hb7 : Below w6.heap.size w6 w7 := by rw [hw7]; exact (Below.refl _ _).alloc (Nat.le_refl _) _
  have hq7 : w7.heap[w6.heap.size]? = some (.cells (zv [2]).toArray 3 (0, 0)) := by rw [hw7]; exact heap_alloc_new w6 _
  have HS2 := Lib.hid (same_eq A2 (some ⟨w6.heap.size, 0, none⟩) 1 d2 1 [2] w7 rfl (HZ6.out.later hb7 (Nat.le_refl _)) (z_zs hq7) (by decide))
  have HB7 : Hid (Below w.heap.size w w7) := HB6.out.trans (hb7.mono HB6.out.size)
  have s0 := cell_of_row w6 w3.heap.size 0 _ _ _ hq6
  have s1 := cell_of_row w6 w3.heap.size 1 _ _ _ hq6
  simp at s0 s1
  have H7 := Lib.hid hw7
  clear hb hq6 hw7 hb7 hq7 t0 t1
  go_wp2_with fail
  rw [← H7.out]
  refine HS2.out.mono ?_
  rintro r w8 ⟨rfl, hb⟩
  go_wp2
  go_ret
  exact ⟨rfl, HB7.out.trans (hb.mono HB7.out.size)⟩
end Go.Proofs.Ytnloikdfbdpilaa
