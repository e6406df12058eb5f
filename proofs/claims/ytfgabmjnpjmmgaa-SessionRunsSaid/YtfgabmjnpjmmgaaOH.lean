/- session: Login, Logout that are refused. -/
import Derived.Test.YtfgabmjnpjmmgaaOG
namespace Go.Proofs.Ytfgabmjnpjmmgaa
open Go.RowKit
set_option maxRecDepth 20000
set_option linter.unusedVariables false

set_option maxHeartbeats 2000000 in
theorem logout_free (B T : Nat) (idle most : Int) (ids : List Nat) (ths : List Mk) (x : Nat) (w : World) (h : Tb w B T idle most ids ths) (hl : ids.length ≤ 1000) (k : Nat) (y1 : Int) (hx : ids[k]? = some x) (hy : ths[k]? = some (y1, 0)) :
    Calls Try.prog 12 #[.pointer (some ⟨T, 0, none⟩), .int .u32 (x : Int)] w fun r w' => r = .returned (.tuple #[.int .u32 0, .int .i64 25]) ∧ Below w.heap.size w w' := by
  have hxm := List.mem_of_getElem? hx
  obtain ⟨hlen, hup, hok⟩ := h.facts
  have HA : Hid (Calls Try.prog 29 #[.pointer (some ⟨T, 0, none⟩), .int .u32 (x : Int)] w fun r w' => r = .returned (.tuple #[mV y1 0, .bool true]) ∧ Below w.heap.size w w') :=
    (at_there B T idle most ids ths x w h hl hxm).mono fun r w' ⟨⟨p, z1, z2, hp1, hp2, e⟩, hb⟩ => by
      obtain rfl := up_same hup hp1 hx
      rw [hy] at hp2
      injection hp2 with hp2
      injection hp2 with e1 e2
      subst e1 e2
      exact ⟨e, hb⟩
  clear h hl hx hy hlen hup hok hxm
  go_enter Try.func12, Try.ntmps12
  go_wp2_with fail
  refine HA.out.mono ?_
  rintro r w1 ⟨rfl, hb1⟩
  obtain ⟨Z, hZ⟩ : ∃ Z, Z = w1.heap.size := ⟨_, rfl⟩
  obtain ⟨w2, hw2⟩ : ∃ w2, w2 = w1.alloc (.cells (mC y1 0) 55) := ⟨_, rfl⟩
  have hb2 : Below w1.heap.size w1 w2 := by rw [hw2]; exact (Below.refl _ _).alloc (Nat.le_refl _) _
  have hq2 : w2.heap[Z]? = some (.cells (mC y1 0) 55 (0, 0)) := by rw [hw2, hZ]; exact heap_alloc_new w1 _
  have HB2 : Hid (Below w.heap.size w w2) := hb1.trans (hb2.mono hb1.size)
  have c1 := cell_of_row w2 Z 1 _ _ _ hq2
  simp at c1
  have H2 := Lib.hid hw2
  have HZZ := Lib.hid hZ
  clear hb1 hb2 hq2 hw2 hZ
  go_upto_region 4 with fail
  rw [← H2.out, ← HZZ.out]
  go_wp2
  go_ret2
  exact ⟨rfl, HB2.out⟩

set_option maxHeartbeats 2000000 in
theorem login_id (B T : Nat) (idle most : Int) (ids : List Nat) (ths : List Mk) (x : Nat) (pl : Nat) (now : Int) (w : World) (h : Tb w B T idle most ids ths) (hl : ids.length ≤ 1000) (k : Nat) (y1 y2 : Int) (hx : ids[k]? = some x) (hy : ths[k]? = some (y1, y2)) (hpl : ¬ (1 ≤ pl ∧ pl ≤ 2147483647)) :
    Calls Try.prog 10 #[.pointer (some ⟨T, 0, none⟩), .int .u32 (x : Int), .int .u32 (pl : Int), .int .i64 now] w fun r w' => r = .returned (.tuple #[.int .u32 0, .int .i64 14]) ∧ Below w.heap.size w w' := by
  have hxm := List.mem_of_getElem? hx
  obtain ⟨hlen, hup, hok⟩ := h.facts
  have HA : Hid (Calls Try.prog 29 #[.pointer (some ⟨T, 0, none⟩), .int .u32 (x : Int)] w fun r w' => r = .returned (.tuple #[mV y1 y2, .bool true]) ∧ Below w.heap.size w w') :=
    (at_there B T idle most ids ths x w h hl hxm).mono fun r w' ⟨⟨p, z1, z2, hp1, hp2, e⟩, hb⟩ => by
      obtain rfl := up_same hup hp1 hx
      rw [hy] at hp2
      injection hp2 with hp2
      injection hp2 with e1 e2
      subst e1 e2
      exact ⟨e, hb⟩
  have hRT : Hid (∀ W, Calls Try.prog 30 #[.int .u32 (pl : Int)] W fun r w' => r = .returned (.bool false) ∧ w' = W) := fun W => by
    have e : decide (1 ≤ pl ∧ pl ≤ 2147483647) = false := by simp; omega
    rw [← e]; exact right_any pl W
  clear h hl hx hy hlen hup hok hxm
  go_enter Try.func10, Try.ntmps10
  go_wp2_with fail
  refine HA.out.mono ?_
  rintro r w1 ⟨rfl, hb1⟩
  obtain ⟨Z, hZ⟩ : ∃ Z, Z = w1.heap.size := ⟨_, rfl⟩
  obtain ⟨w2, hw2⟩ : ∃ w2, w2 = w1.alloc (.cells (mC y1 y2) 55) := ⟨_, rfl⟩
  have hb2 : Below w1.heap.size w1 w2 := by rw [hw2]; exact (Below.refl _ _).alloc (Nat.le_refl _) _
  have hq2 : w2.heap[Z]? = some (.cells (mC y1 y2) 55 (0, 0)) := by rw [hw2, hZ]; exact heap_alloc_new w1 _
  have HB2 : Hid (Below w.heap.size w w2) := hb1.trans (hb2.mono hb1.size)
  have c1 := cell_of_row w2 Z 1 _ _ _ hq2
  simp at c1
  have H2 := Lib.hid hw2
  have HZZ := Lib.hid hZ
  clear hb1 hb2 hq2 hw2 hZ
  go_upto_region 4 with fail
  rw [← H2.out, ← HZZ.out]
  go_wp2_with (go_at_call 30; refine (hRT.out _).mono ?_; rintro e w' ⟨rfl, rfl⟩)
  go_ret2
  exact ⟨rfl, HB2.out⟩

set_option maxHeartbeats 2000000 in
theorem login_other (B T : Nat) (idle most : Int) (ids : List Nat) (ths : List Mk) (x : Nat) (pl : Nat) (now : Int) (w : World) (h : Tb w B T idle most ids ths) (hl : ids.length ≤ 1000) (k : Nat) (y1 y2 : Int) (hx : ids[k]? = some x) (hy : ths[k]? = some (y1, y2)) (hpl : 1 ≤ pl ∧ pl ≤ 2147483647) (hne : ¬ y2 = 0) :
    Calls Try.prog 10 #[.pointer (some ⟨T, 0, none⟩), .int .u32 (x : Int), .int .u32 (pl : Int), .int .i64 now] w fun r w' => r = .returned (.tuple #[.int .u32 0, .int .i64 25]) ∧ Below w.heap.size w w' := by
  have hxm := List.mem_of_getElem? hx
  obtain ⟨hlen, hup, hok⟩ := h.facts
  have HA : Hid (Calls Try.prog 29 #[.pointer (some ⟨T, 0, none⟩), .int .u32 (x : Int)] w fun r w' => r = .returned (.tuple #[mV y1 y2, .bool true]) ∧ Below w.heap.size w w') :=
    (at_there B T idle most ids ths x w h hl hxm).mono fun r w' ⟨⟨p, z1, z2, hp1, hp2, e⟩, hb⟩ => by
      obtain rfl := up_same hup hp1 hx
      rw [hy] at hp2
      injection hp2 with hp2
      injection hp2 with e1 e2
      subst e1 e2
      exact ⟨e, hb⟩
  have hRT : Hid (∀ W, Calls Try.prog 30 #[.int .u32 (pl : Int)] W fun r w' => r = .returned (.bool true) ∧ w' = W) := fun W => by
    have e : decide (1 ≤ pl ∧ pl ≤ 2147483647) = true := by simp; omega
    rw [← e]; exact right_any pl W
  clear h hl hx hy hlen hup hok hxm
  go_enter Try.func10, Try.ntmps10
  go_wp2_with fail
  refine HA.out.mono ?_
  rintro r w1 ⟨rfl, hb1⟩
  obtain ⟨Z, hZ⟩ : ∃ Z, Z = w1.heap.size := ⟨_, rfl⟩
  obtain ⟨w2, hw2⟩ : ∃ w2, w2 = w1.alloc (.cells (mC y1 y2) 55) := ⟨_, rfl⟩
  have hb2 : Below w1.heap.size w1 w2 := by rw [hw2]; exact (Below.refl _ _).alloc (Nat.le_refl _) _
  have hq2 : w2.heap[Z]? = some (.cells (mC y1 y2) 55 (0, 0)) := by rw [hw2, hZ]; exact heap_alloc_new w1 _
  have HB2 : Hid (Below w.heap.size w w2) := hb1.trans (hb2.mono hb1.size)
  have c1 := cell_of_row w2 Z 1 _ _ _ hq2
  simp at c1
  have H2 := Lib.hid hw2
  have HZZ := Lib.hid hZ
  clear hb1 hb2 hq2 hw2 hZ
  have heb : (y2 == 0) = false := by simp [hne]
  go_upto_region 4 with fail
  rw [← H2.out, ← HZZ.out]
  go_wp2_with (go_at_call 30; refine (hRT.out _).mono ?_; rintro e w' ⟨rfl, rfl⟩)
  go_ret2
  exact ⟨rfl, HB2.out⟩

end Go.Proofs.Ytfgabmjnpjmmgaa
