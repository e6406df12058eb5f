/- Elo: Same at rows that are one; awake. -/
import Derived.Test.YtlkebffainhfaaaDoorE7
namespace Go.Proofs.YtlkebffainhfaaaDoor
open Go.RowKit
set_option maxRecDepth 20000

set_option maxHeartbeats 400000 in
theorem same_eq (va vb : Value) (l : List Int) (w : World) (ha : Zs w va l) (hb : Zs w vb l) (hn : l.length ≤ 1000) : Calls Tryd.prog 21 #[va, vb] w fun r w' => r = .returned (.bool true) ∧ Below w.heap.size w w' := by
  obtain ⟨A, c, rfl, hc, hra⟩ := ha
  obtain ⟨B, d, rfl, hd, hrb⟩ := hb
  by_cases h0 : l.length = 0
  · have hl : l = [] := List.eq_nil_of_length_eq_zero h0
    subst hl
    clear hra hrb
    go_enter Tryd.func21, Tryd.ntmps21
    go_wp2
    refine wp_loop_rounds 1 ?_
    rw [rounds_succ]
    go_wp2
    go_ret
    exact ⟨rfl, Below.refl _ _⟩
  · have h1 : 0 < l.length := Nat.pos_of_ne_zero h0
    obtain ⟨b, o, rfl, hbb, hcell⟩ := hra h1
    obtain ⟨b2, o2, rfl, hbb2, hcell2⟩ := hrb h1
    have HC := Lib.hid hcell
    have HC2 := Lib.hid hcell2
    clear hcell hra hrb hcell2 h0
    go_enter Tryd.func21, Tryd.ntmps21
    go_wp2
    go_loopw [5] (fun i wr => ∃ k : Nat, k ≤ l.length ∧ i = .int .i64 k ∧ Hid (Below w.heap.size w wr)) (fun i _ => l.length - (intOf i).toNat)
    case atStart => exact ⟨0, Nat.zero_le _, rfl, Below.refl _ _⟩
    case round =>
      obtain ⟨k, hk, rfl, HBW⟩ := hrel
      by_cases hlt : k < l.length
      · have hcell := (HBW.out.cell (p := ⟨b, o + k, none⟩) hbb).trans (HC.out k hlt)
        have hcell2 := (HBW.out.cell (p := ⟨b2, o2 + k, none⟩) hbb2).trans (HC2.out k hlt)
        obtain ⟨x, hx⟩ : ∃ x, x = l[k] := ⟨_, rfl⟩
        rw [← hx] at hcell hcell2
        have hbe : (x != x) = false := by simp
        clear hx
        go_wp2
        go_quiet (fail)
        go_wp2
        go_roundw
        case rel => exact ⟨k + 1, by omega, by go_num, below_drewN HBW.out _⟩
        case measure => simp [intOf]; omega
      · obtain rfl : k = l.length := by omega
        go_wp2
        go_ret
        exact ⟨rfl, HBW.out⟩

theorem zs_form {w : World} {v : Value} {l : List Int} (h : Zs w v l) : ∃ A c, v = .slice A l.length c := by
  obtain ⟨A, c, e, _⟩ := h
  exact ⟨A, c, e⟩

set_option maxHeartbeats 1000000 in
theorem eawake (w : World) (hR : Rw w) (hw0 : 0 < w.heap.size) : Calls Tryd.prog 16 #[] w fun r w' => r = .returned (.bool true) ∧ Below w.heap.size w w' := by
  obtain ⟨w2, hw2⟩ : ∃ w2, w2 = (w.alloc (.cells #[.int .i64 1500] 3)).alloc (.cells #[.int .i64 1500] 3) := ⟨_, rfl⟩
  have hb2 : Below w.heap.size w w2 := by rw [hw2]; exact ((Below.refl _ _).alloc (Nat.le_refl _) _).alloc (by simp) _
  have q1 : w2.heap[w.heap.size]? = some (.cells (zv [1500]).toArray 3 (0, 0)) := by rw [hw2]; exact (Below.heap_alloc _ _ _ (by simp)).trans (heap_alloc_new w _)
  have q2 : w2.heap[w.heap.size + 1]? = some (.cells (zv [1500]).toArray 3 (0, 0)) := by
    have := heap_alloc_new (w.alloc (.cells #[.int .i64 1500] 3)) (.cells #[.int .i64 1500] 3)
    rw [World.size_alloc] at this
    rw [hw2]; exact this
  have HU : Hid (Calls Tryd.prog 19 #[.slice (some ⟨w.heap.size, 0, none⟩) 1 1, .slice (some ⟨w.heap.size + 1, 0, none⟩) 1 1, .int .i64 1] w2 (UpdPost w2 [1500] [1500] 1)) :=
    upd_any _ _ [1500] [1500] 1 w2 (z_zs q1) (z_zs q2) (by decide) (by decide) (hR.below hb2 hw0) (Nat.lt_of_lt_of_le hw0 hb2.size)
  have hE : updE [1500] [1500] 1 = 0 := by decide +kernel
  have hA : updA [1500] [1500] 1 = [1516] := by decide +kernel
  have hB : updB [1500] [1500] 1 = [1484] := by decide +kernel
  have HE := Lib.hid hE
  have HA := Lib.hid hA
  have HB := Lib.hid hB
  have x1 : expd (rt 1600) (rt 1500) = 640 := by decide +kernel
  have x2 : expd (rt 1500) (rt 1600) = 360 := by decide +kernel
  have HX1 : Hid (∀ W, Below w.heap.size w W → Calls Tryd.prog 10 #[.int .i64 1600, .int .i64 1500] W fun r w' => r = .returned (.int .i64 640) ∧ w' = W) := fun W hb => by
    have := exp_any 1600 1500 W (hR.below hb hw0); rw [x1] at this; exact this
  have HX2 : Hid (∀ W, Below w.heap.size w W → Calls Tryd.prog 10 #[.int .i64 1500, .int .i64 1600] W fun r w' => r = .returned (.int .i64 360) ∧ w' = W) := fun W hb => by
    have := exp_any 1500 1600 W (hR.below hb hw0); rw [x2] at this; exact this
  have s1 : shr (-7) 3 0 = -3 := by decide +kernel
  have s2 : shr (-7) 3 2 = -2 := by decide +kernel
  have HS1 : Hid (∀ W, Calls Tryd.prog 17 #[.int .i64 (-7), .int .i64 3, .int .i64 0] W fun e w' => e = .returned (.int .i64 (-3)) ∧ ∃ n, w' = W.drewN n) := fun W => by
    have := share_any (-7) 3 0 W (by omega) (by omega) (by omega) (by omega); rw [s1] at this; exact this
  have HS2 : Hid (∀ W, Calls Tryd.prog 17 #[.int .i64 (-7), .int .i64 3, .int .i64 2] W fun e w' => e = .returned (.int .i64 (-2)) ∧ ∃ n, w' = W.drewN n) := fun W => by
    have := share_any (-7) 3 2 W (by omega) (by omega) (by omega) (by omega); rw [s2] at this; exact this
  have H2 := Lib.hid hw2
  have HB2 := Lib.hid hb2
  clear hw2 hb2 q1 q2 hE hA hB x1 x2 s1 s2 hR
  go_enter Tryd.func16, Tryd.ntmps16
  go_wp2_with fail
  rw [← H2.out]
  refine HU.out.mono ?_
  rintro e w3 ⟨vx, vy, rfl, hzx, hzy, hb3⟩
  rw [HE.out]
  rw [HA.out] at hzx
  rw [HB.out] at hzy
  obtain ⟨Ax, cx, rfl⟩ := zs_form hzx
  obtain ⟨Ay, cy, rfl⟩ := zs_form hzy
  have HB3 : Hid (Below w.heap.size w w3) := HB2.out.trans (hb3.mono HB2.out.size)
  have HZX := Lib.hid hzx
  have HZY := Lib.hid hzy
  clear hzx hzy hb3
  go_wp2_with fail
  refine (HX1.out _ HB3.out).mono ?_
  rintro e w4 ⟨rfl, rfl⟩
  go_wp2_with fail
  refine (HX2.out _ HB3.out).mono ?_
  rintro e w5 ⟨rfl, rfl⟩
  go_wp2_with fail
  obtain ⟨w6, hw6⟩ : ∃ w6, w6 = w5.alloc (.cells #[.int .i64 1516] 3) := ⟨_, rfl⟩
  rw [← hw6]
  have hb6 : Below w5.heap.size w5 w6 := by rw [hw6]; exact (Below.refl _ _).alloc (Nat.le_refl _) _
  have q6 : w6.heap[w5.heap.size]? = some (.cells (zv [1516]).toArray 3 (0, 0)) := by rw [hw6]; exact heap_alloc_new _ _
  have HC6 : Hid (Calls Tryd.prog 21 #[.slice Ax 1 cx, .slice (some ⟨w5.heap.size, 0, none⟩) 1 1] w6 fun r w' => r = .returned (.bool true) ∧ Below w6.heap.size w6 w') :=
    same_eq _ _ [1516] w6 (HZX.out.below hb6 (Nat.le_refl _)) (z_zs q6) (by decide)
  have HZ6 : Hid (Zs w6 (.slice Ay 1 cy) [1484]) := HZY.out.below hb6 (Nat.le_refl _)
  have HB6 : Hid (Below w.heap.size w w6) := HB3.out.trans (hb6.mono HB3.out.size)
  clear hw6 hb6 q6
  refine HC6.out.mono ?_
  rintro e w7 ⟨rfl, hb7⟩
  have HB7 : Hid (Below w.heap.size w w7) := HB6.out.trans (hb7.mono HB6.out.size)
  have HZ7 : Hid (Zs w7 (.slice Ay 1 cy) [1484]) := HZ6.out.below hb7 (Nat.le_refl _)
  clear hb7
  go_wp2_with fail
  obtain ⟨w8, hw8⟩ : ∃ w8, w8 = w7.alloc (.cells #[.int .i64 1484] 3) := ⟨_, rfl⟩
  rw [← hw8]
  have hb8 : Below w7.heap.size w7 w8 := by rw [hw8]; exact (Below.refl _ _).alloc (Nat.le_refl _) _
  have q8 : w8.heap[w7.heap.size]? = some (.cells (zv [1484]).toArray 3 (0, 0)) := by rw [hw8]; exact heap_alloc_new _ _
  have HC8 : Hid (Calls Tryd.prog 21 #[.slice Ay 1 cy, .slice (some ⟨w7.heap.size, 0, none⟩) 1 1] w8 fun r w' => r = .returned (.bool true) ∧ Below w8.heap.size w8 w') :=
    same_eq _ _ [1484] w8 (HZ7.out.below hb8 (Nat.le_refl _)) (z_zs q8) (by decide)
  have HB8 : Hid (Below w.heap.size w w8) := HB7.out.trans (hb8.mono HB7.out.size)
  clear hw8 hb8 q8
  refine HC8.out.mono ?_
  rintro e w9 ⟨rfl, hb9⟩
  have HB9 : Hid (Below w.heap.size w w9) := HB8.out.trans (hb9.mono HB8.out.size)
  clear hb9
  go_wp2_with fail
  refine (HS1.out _).mono ?_
  rintro e w10 ⟨rfl, n1, rfl⟩
  go_wp2_with fail
  refine (HS2.out _).mono ?_
  rintro e w11 ⟨rfl, n2, rfl⟩
  go_wp2_with fail
  go_ret
  exact ⟨rfl, below_drewN HB9.out _⟩
end Go.Proofs.YtlkebffainhfaaaDoor
