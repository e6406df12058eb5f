/- Rack: awake; RackNil's walk. -/
import Derived.Test.YtbilkelbelimjaaK6
namespace Go.Proofs.Ytbilkelbelimjaa
open Go.RowKit
set_option maxRecDepth 20000

theorem pl_0 {x p : Nat} (h : Pl [] x p) : p = 0 := by have := h.1; simp at this; exact this
theorem pl_1 {x y p : Nat} (h : Pl [y] x p) (hxy : x < y) : p = 0 := by
  rcases p with _ | p
  · rfl
  · have := h.2.1 0 y (by omega) rfl
    omega

set_option maxHeartbeats 4000000 in
theorem rawake (w : World) : Calls Try.prog 26 #[] w fun r w' => r = .returned (.bool true) ∧ Below w.heap.size w w' := by
  go_enter Try.func26, Try.ntmps26
  go_wp2_with fail
  refine (new_any 2 w).mono ?_
  rintro r w1 ⟨rfl, h1, hb1⟩
  rw [show max (2 : Int) 0 = 2 from rfl] at h1
  obtain ⟨R, hR⟩ : ∃ R, R = w.heap.size := ⟨_, rfl⟩
  rw [← hR] at h1 ⊢
  rw [← hR] at hb1
  have H1 := Lib.hid h1
  have HB1 := Lib.hid hb1
  have HR0 := Lib.hid hR
  clear h1 hb1 hR
  go_wp2_with fail
  refine (add_ok R 2 _ _ [] [] 9 1 w1 H1.out (by decide) (by decide) (by decide) (by decide)).mono ?_
  rintro r w2 ⟨rfl, hc, p, vi, vt, hp, h2⟩
  obtain rfl := pl_0 hp
  have H2 : Hid (IsR w2 R 2 vi vt [9] [1]) := h2
  have HB2 : Hid (Below R w w2) := HB1.out.trans hc.1
  clear h2 hc hp H1 HB1
  go_wp2_with fail
  refine (add_ok R 2 vi vt [9] [1] 4 2 w2 H2.out (by decide) (by decide) (by decide) (by decide)).mono ?_
  rintro r w3 ⟨rfl, hc, p, vi2, vt2, hp, h3⟩
  obtain rfl := pl_1 hp (by decide)
  have H3 : Hid (IsR w3 R 2 vi2 vt2 [4, 9] [2, 1]) := h3
  have HB3 : Hid (Below R w w3) := HB2.out.trans hc.1
  clear h3 hc hp H2 HB2
  go_wp2_with fail
  refine (add_full R 2 vi2 vt2 [4, 9] [2, 1] 5 3 w3 H3.out (by decide) (by decide) (by decide) (by decide)).mono ?_
  rintro r w4 ⟨rfl, hb⟩
  have H4 := Lib.hid (H3.out.after hb)
  have HB4 : Hid (Below R w w4) := HB3.out.trans (hb.mono (Nat.le_of_lt (lt_of_block H3.out.row)))
  clear hb H3 HB3
  go_wp2_with fail
  refine (put_there R 2 vi2 vt2 [4, 9] [2, 1] 4 4 w4 H4.out (by decide) (by decide)).mono ?_
  rintro r w5 ⟨rfl, hc, p, hp, h5⟩
  have H5 := Lib.hid h5
  have HB5 : Hid (Below R w w5) := HB4.out.trans hc.1
  clear h5 hc hp H4 HB4
  go_wp2_with fail
  refine (free_full R 2 vi2 vt2 [4, 9] _ w5 H5.out (by decide)).mono ?_
  rintro r w6 ⟨rfl, hb⟩
  have H6 := Lib.hid (H5.out.after hb)
  have HB6 : Hid (Below R w w6) := HB5.out.trans (hb.mono (Nat.le_of_lt (lt_of_block H5.out.row)))
  clear hb H5 HB5
  go_wp2_with fail
  refine (ids_any R 2 vi2 vt2 [4, 9] _ w6 H6.out (by decide)).mono ?_
  rintro r w7 ⟨v7, rfl, h7, hb⟩
  have HB7 : Hid (Below R w w7) := HB6.out.trans (hb.mono (Nat.le_of_lt (lt_of_block H6.out.row)))
  have HS7 : Hid (S32 w7 v7 [4, 9]) := S32.of_own h7
  have HR7 : Hid (R ≤ w7.heap.size) := Nat.le_trans (Nat.le_of_lt (lt_of_block H6.out.row)) hb.size
  clear hb h7 H6 HB6
  obtain ⟨w8, hw8⟩ : ∃ w8, w8 = w7.alloc (.cells #[.int .u32 4, .int .u32 9] 28) := ⟨_, rfl⟩
  have hb8 : Below w7.heap.size w7 w8 := by rw [hw8]; exact (Below.refl _ _).alloc (Nat.le_refl _) _
  have hG : w8.heap[w7.heap.size]? = some (.cells #[.int .u32 4, .int .u32 9] 28 (0, 0)) := by rw [hw8]; exact heap_alloc_new w7 _
  have HSM := Lib.hid (same_eq v7 (.slice (some ⟨w7.heap.size, 0, none⟩) 2 2) [4, 9] w8 (by decide) (HS7.out.after hb8) ⟨_, 2, rfl, fun _ => ⟨_, 0, rfl, lt_of_block hG, fun j x hj => by
    rw [cell_of_row w8 _ _ _ _ _ hG]
    rcases j with _ | _ | j
    · simp at hj; subst hj; rfl
    · simp at hj; subst hj; rfl
    · simp at hj⟩⟩)
  have HB8 : Hid (Below R w w8) := HB7.out.trans (hb8.mono HR7.out)
  have HR8 : Hid (R ≤ w8.heap.size) := Nat.le_trans HR7.out hb8.size
  rw [hw8] at HSM HB8 HR8
  clear hw8 hb8 hG
  go_wp2_with fail
  refine HSM.out.mono ?_
  rintro r w9 ⟨rfl, hb⟩
  go_wp2
  go_ret
  exact ⟨rfl, by rw [← HR0.out]; exact HB8.out.trans (hb.mono HR8.out)⟩

set_option maxHeartbeats 8000000 in
theorem rnil_walk (x : Nat) (z : Int) (w : World) : Calls Try.prog 7 #[.int .u32 (x : Int), .int .i64 z] w fun r w' => r = .returned (.bool true) ∧ Below w.heap.size w w' := by
  go_enter Try.func7, Try.ntmps7
  go_wp2_with fail
  refine (get_nil x w).mono ?_
  rintro r w1 ⟨rfl, hb⟩
  have HB1 := Lib.hid hb
  clear hb
  go_wp2_with fail
  refine (drop_nil x w1).mono ?_
  rintro r w2 ⟨rfl, hb⟩
  have HB2 := Lib.hid (HB1.out.trans (hb.mono HB1.out.size))
  clear hb
  go_wp2_with fail
  refine (next_nil x w2).mono ?_
  rintro r w3 ⟨rfl, hb⟩
  have HB3 := Lib.hid (HB2.out.trans (hb.mono HB2.out.size))
  clear hb
  go_wp2_with fail
  refine (put_nil x z w3).mono ?_
  rintro r w4 ⟨rfl, hb⟩
  have HB4 := Lib.hid (HB3.out.trans (hb.mono HB3.out.size))
  clear hb
  go_wp2_with fail
  refine (add_nil x z w4).mono ?_
  rintro r w5 ⟨rfl, hb⟩
  have HB5 := Lib.hid (HB4.out.trans (hb.mono HB4.out.size))
  clear hb
  go_wp2_with fail
  refine (free_nil w5).mono ?_
  rintro r w6 ⟨rfl, hb⟩
  have HB6 := Lib.hid (HB5.out.trans (hb.mono HB5.out.size))
  clear hb
  go_wp2_with fail
  refine (ids_nil w6).mono ?_
  rintro r w7 ⟨rfl, hb⟩
  have HB7 := Lib.hid (HB6.out.trans (hb.mono HB6.out.size))
  clear hb
  go_wp2_with fail
  refine (len_nil w7).mono ?_
  rintro r w8 ⟨rfl, hb⟩
  have HB8 := Lib.hid (HB7.out.trans (hb.mono HB7.out.size))
  clear hb
  go_wp2_with fail
  refine (most_nil w8).mono ?_
  rintro r w9 ⟨rfl, hb⟩
  have HB9 := Lib.hid (HB8.out.trans (hb.mono HB8.out.size))
  clear hb
  go_wp2_with fail
  refine (rawake w9).mono ?_
  rintro r w10 ⟨rfl, hb⟩
  go_wp2
  go_ret
  exact ⟨rfl, HB9.out.trans (hb.mono HB9.out.size)⟩
end Go.Proofs.Ytbilkelbelimjaa
