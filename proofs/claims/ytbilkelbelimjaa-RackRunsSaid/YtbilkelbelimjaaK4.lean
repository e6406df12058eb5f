/- Rack: lay, Add, Put (at int). -/
import Derived.Test.YtbilkelbelimjaaK3
namespace Go.Proofs.Ytbilkelbelimjaa
open Go.RowKit
set_option maxRecDepth 20000

theorem un_ins (ids : List Nat) (p x : Nat) : un (ids.take p ++ [x] ++ ids.drop p) = (un ids).take p ++ [.int .u32 (x : Int)] ++ (un ids).drop p := by simp [un, List.map_take, List.map_drop]
theorem zn_ins (l : List Int) (p : Nat) (x : Int) : zn (l.take p ++ [x] ++ l.drop p) = (zn l).take p ++ [.int .i64 x] ++ (zn l).drop p := by simp [zn, List.map_take, List.map_drop]
theorem ins_len {α : Type} (l : List α) (p : Nat) (x : α) (h : p ≤ l.length) : (l.take p ++ [x] ++ l.drop p).length = l.length + 1 := by
  rw [List.length_append, List.length_append, List.length_take, List.length_drop]
  simp
  omega
theorem own_form1 {w : World} {base T m : Nat} {v : Value} {xs : List Value} (h : w.ownsRow base T 1 v m xs) : ∃ A c, v = .slice A m c := by
  rcases h.2 with ⟨rfl, rfl⟩ | ⟨g, cap, cur, rfl, _⟩
  · exact ⟨none, 0, rfl⟩
  · exact ⟨_, cap, rfl⟩
theorem own_type {w : World} {base T m : Nat} {v : Value} {xs : List Value} (h : w.ownsRow base T 1 v m xs) {g : Nat} (hg : v.ownBlock = some g) : ∃ cur, w.heap[g]? = some (.cells cur T (0, 0)) := by
  rcases h.2 with ⟨rfl, _⟩ | ⟨b, cap, cur, rfl, _, hh, _⟩
  · cases hg
  · have : b = g := Option.some.inj hg
    subst this
    exact ⟨cur, hh⟩
theorem own_apart {w : World} {base base' T T' m m' : Nat} {v v' : Value} {xs xs' : List Value} (h : w.ownsRow base T 1 v m xs) (h' : w.ownsRow base' T' 1 v' m' xs') (hT : T ≠ T') {g : Nat} (hg : v.ownBlock = some g) : v'.ownBlock ≠ some g := fun e => by
  obtain ⟨c, h1⟩ := own_type h hg
  obtain ⟨c', h2⟩ := own_type h' e
  rw [h1] at h2
  injection h2 with h2
  injection h2 with _ h2
  exact hT h2

set_option linter.unusedSimpArgs false in
set_option maxHeartbeats 4000000 in
theorem lay_ok (R : Nat) (most : Int) (vi vt : Value) (ids : List Nat) (ths : List Int) (p x : Nat) (z : Int) (w : World) (h : IsR w R most vi vt ids ths) (hl : ids.length < 1000) (hp : Pl ids x p) (hx : ids[p]? ≠ some x) (hok : 1 ≤ x ∧ x ≤ 2147483647) (hroom : (ids.length : Int) < min most 2147483647) :
    Calls Try.prog 62 #[.pointer (some ⟨R, 0, none⟩), .int .i64 (p : Int), .int .u32 (x : Int), .int .i64 z] w fun r w' => r = .returned (.int .i64 0) ∧ ChR R vi vt w w' ∧ ∃ vi' vt', IsR w' R most vi' vt' (ids.take p ++ [x] ++ ids.drop p) (ths.take p ++ [z] ++ ths.drop p) := by
  have HF := Lib.hid (full_any R most vi vt ids ths w h)
  have hfd : decide (min most 2147483647 ≤ (ids.length : Int)) = false := by rw [decide_eq_false_iff_not]; omega
  rw [hfd] at HF
  have hrd : decide (1 ≤ x ∧ x ≤ 2147483647) = true := by rw [decide_eq_true_iff]; exact hok
  have hRT : Hid (∀ W, Calls Try.prog 24 #[.int .u32 (x : Int)] W fun r w' => r = .returned (.bool true) ∧ w' = W) := fun W => by rw [← hrd]; exact right_any x W
  have HH := Lib.hid h
  have HP := Lib.hid hp
  have HX := Lib.hid hx
  have HOK := Lib.hid hok
  have HL := Lib.hid hl
  clear h hp hx hfd hrd hok hroom hl
  go_enter Try.func62, Try.ntmps62
  go_wp2_with fail
  refine (hRT.out w).mono ?_
  rintro r w' ⟨rfl, rfl⟩
  go_wp2_with fail
  refine HF.out.mono ?_
  rintro r w1 ⟨rfl, hb1⟩
  have h1 := HH.out.after hb1
  obtain ⟨w2, hw2⟩ : ∃ w2, w2 = w1.alloc (.cells #[.int .u32 (x : Int)] 28) := ⟨_, rfl⟩
  have hb2 : Below w1.heap.size w1 w2 := by rw [hw2]; exact (Below.refl _ _).alloc (Nat.le_refl _) _
  have h2 := h1.after hb2
  have hG : w2.heap[w1.heap.size]? = some (.cells #[.int .u32 (x : Int)] 28 (0, 0)) := by rw [hw2]; exact heap_alloc_new w1 _
  have hRlt := lt_of_block h1.row
  have HINS := Lib.hid (ins32_any (R + 1) ids.length p w1.heap.size vi (.int .u32 (x : Int)) (un ids) w2 HP.out.1 (by have := HL.out; omega) (by have := hb2.size; omega) h2.rio hG (fun e => by have := (ownlt h1.rio _ e).2; omega) rfl (un_one ids))
  rw [hw2] at HINS
  have H2 := Lib.hid h2
  have HB2 : Hid (Below w'.heap.size w' w2) := hb1.trans (hb2.mono hb1.size)
  have HW2 := Lib.hid hw2
  have c1 := cell_of_row w1 R 1 _ _ _ h1.row
  simp at c1
  clear h1 hb1 hb2 hw2 hG h2 hRlt
  go_wp2_with fail
  refine HINS.out.mono ?_
  rintro r w3 ⟨vi', rfl, hio3, hgr3⟩
  obtain ⟨A', c', rfl⟩ := own_form1 hio3
  obtain ⟨vi', hvi'⟩ : ∃ v, v = Value.slice A' (ids.length + 1) c' := ⟨_, rfl⟩
  rw [← hvi'] at hio3
  rw [← HW2.out] at hgr3
  have hne : ∀ k, vi.ownBlock = some k → R + 1 ≤ k := fun k hk => (ownlt H2.out.rio k hk).1
  have hrow3 : w3.heap[R]? = some (.cells #[.int .i64 most, vi, vt] 93 (0, 0)) := (hgr3.block R (lt_of_block H2.out.row) (fun e => by have := hne R e.symm; omega)).trans H2.out.row
  have hto3 : w3.ownsRow (R + 1) 3 1 vt ids.length (zn ths) := own_after H2.out.rto fun g hg => hgr3.block g (ownlt H2.out.rto g hg).2 (fun e => own_apart H2.out.rto H2.out.rio (by decide) hg e.symm)
  have hb3 : Below R w' w3 := (HB2.out.mono (Nat.le_of_lt (lt_of_block HH.out.row))).grown hgr3 (by have := lt_of_block H2.out.row; omega) (fun k hk => by have := hne k hk; omega)
  have hfr3 : ∀ g, g < w'.heap.size → g ≠ R → some g ≠ vi.ownBlock → some g ≠ vt.ownBlock → w3.heap[g]? = w'.heap[g]? := fun g hg _ h2 _ => (hgr3.block g (Nat.lt_of_lt_of_le hg HB2.out.size) h2).trans (HB2.out.block g hg)
  have hs3 : w'.heap.size ≤ w3.heap.size := Nat.le_trans HB2.out.size hgr3.size
  obtain ⟨w4, hw4⟩ : ∃ w4, w4 = w3.setCell ⟨R, 1, none⟩ vi' := ⟨_, rfl⟩
  have hrow4 : w4.heap[R]? = some (.cells #[.int .i64 most, vi', vt] 93 (0, 0)) := by rw [hw4]; exact heap_setCell_same w3 R 1 _ 93 vi' hrow3
  have hoth4 : ∀ g, g ≠ R → w4.heap[g]? = w3.heap[g]? := fun g hg => by rw [hw4]; exact Below.heap_setCell _ _ _ _ hg
  have hsz4 : w4.heap.size = w3.heap.size := by rw [hw4]; exact World.size_setCell ..
  have hio4 : w4.ownsRow (R + 1) 28 1 vi' (ids.length + 1) ((un ids).take p ++ [.int .u32 (x : Int)] ++ (un ids).drop p) := own_after hio3 fun g hg => hoth4 g (by have := (ownlt hio3 g hg).1; omega)
  have hto4 : w4.ownsRow (R + 1) 3 1 vt ids.length (zn ths) := own_after hto3 fun g hg => hoth4 g (by have := (ownlt hto3 g hg).1; omega)
  have hb4 : Below R w' w4 := by rw [hw4]; exact hb3.setCell (Nat.le_refl R) _
  obtain ⟨w5, hw5⟩ : ∃ w5, w5 = w4.alloc (.cells #[.int .i64 z] 3) := ⟨_, rfl⟩
  have hb5 : Below w4.heap.size w4 w5 := by rw [hw5]; exact (Below.refl _ _).alloc (Nat.le_refl _) _
  have hG5 : w5.heap[w4.heap.size]? = some (.cells #[.int .i64 z] 3 (0, 0)) := by rw [hw5]; exact heap_alloc_new w4 _
  have hio5 := own_after hio4 fun g hg => hb5.block g (ownlt hio4 g hg).2
  have hto5 := own_after hto4 fun g hg => hb5.block g (ownlt hto4 g hg).2
  have hrow5 := (hb5.block R (lt_of_block hrow4)).trans hrow4
  have hR4 := lt_of_block hrow4
  have hR5 := lt_of_block hrow5
  have HINZ := Lib.hid (insZ_any (R + 1) ids.length p w4.heap.size vt (.int .i64 z) (zn ths) w5 HP.out.1 (by have := HL.out; omega) (by omega) hto5 hG5 (fun e => by have := (ownlt hto4 _ e).2; omega) rfl (zn_one ths))
  rw [hw5] at HINZ
  have c2 := cell_of_row w4 R 2 _ _ _ hrow4
  have d1 := cell_of_row w3 R 1 _ _ _ hrow3
  have f3 : ∀ i, w3.frozen? ⟨R, i, none⟩ = false := fun i => frozen_of_row w3 _ i _ _ hrow3
  simp at c2 d1
  have HW5 := Lib.hid hw5
  have HW4 := Lib.hid hw4
  have HIO5 := Lib.hid hio5
  have HTO5 := Lib.hid hto5
  have HROW5 := Lib.hid hrow5
  have HB5 : Hid (Below R w' w5) := hb4.trans (hb5.mono (Nat.le_of_lt hR4))
  have HS5 : Hid (w'.heap.size ≤ w5.heap.size) := by have := hb5.size; simp only [Hid]; omega
  have HFR5 : Hid (∀ g, g < w'.heap.size → g ≠ R → some g ≠ vi.ownBlock → some g ≠ vt.ownBlock → w5.heap[g]? = w'.heap[g]?) := fun g a1 a2 a3 a4 => ((hb5.block g (by omega)).trans (hoth4 g a2)).trans (hfr3 g a1 a2 a3 a4)
  clear hw4 hw5 hio3 hgr3 hne hrow3 hto3 hb3 hfr3 hs3 hrow4 hoth4 hsz4 hio4 hto4 hb4 hb5 hG5 hio5 hto5 hrow5 hR4 hR5 HINS H2 HB2 HW2 c1
  go_upto_region 8 with (fail)
  rw [← hvi', ← HW4.out]
  clear d1 f3 hvi'
  go_wp2_with fail
  refine HINZ.out.mono ?_
  rintro r w6 ⟨vt', rfl, hto6, hgr6⟩
  obtain ⟨A2, c2', rfl⟩ := own_form1 hto6
  rw [← HW5.out] at hgr6
  have hne : ∀ k, vt.ownBlock = some k → R + 1 ≤ k := fun k hk => (ownlt HTO5.out k hk).1
  have hrow6 : w6.heap[R]? = some (.cells #[.int .i64 most, vi', vt] 93 (0, 0)) := (hgr6.block R (lt_of_block HROW5.out) (fun e => by have := hne R e.symm; omega)).trans HROW5.out
  have hio6 := own_after HIO5.out fun g hg => hgr6.block g (ownlt HIO5.out g hg).2 (fun e => own_apart HIO5.out HTO5.out (by decide) hg e.symm)
  have hrow7 := heap_setCell_same w6 R 2 _ 93 (.slice A2 (ids.length + 1) c2') hrow6
  have hoth7 : ∀ g, g ≠ R → (w6.setCell ⟨R, 2, none⟩ (.slice A2 (ids.length + 1) c2')).heap[g]? = w6.heap[g]? := fun g hg => Below.heap_setCell _ _ _ _ hg
  have HFIN : Hid (IsR (w6.setCell ⟨R, 2, none⟩ (.slice A2 (ids.length + 1) c2')) R most vi' (.slice A2 (ids.length + 1) c2') (ids.take p ++ [x] ++ ids.drop p) (ths.take p ++ [z] ++ ths.drop p)) := by
    have hlen := HH.out.len
    refine ⟨hrow7, ?_, ?_, ?_, pl_up HH.out.up HP.out HX.out, ?_⟩
    · rw [un_ins, ins_len _ _ _ HP.out.1]
      exact own_after hio6 fun g hg => hoth7 g (by have := (ownlt hio6 g hg).1; omega)
    · rw [zn_ins, ins_len _ _ _ HP.out.1]
      exact own_after hto6 fun g hg => hoth7 g (by have := (ownlt hto6 g hg).1; omega)
    · rw [ins_len _ _ _ HP.out.1, ins_len _ _ _ (by have := HP.out.1; omega), hlen]
    · intro y hy
      simp only [List.mem_append, List.mem_singleton] at hy
      rcases hy with (hy | rfl) | hy
      · exact HH.out.ok y (List.mem_of_mem_take hy)
      · exact HOK.out
      · exact HH.out.ok y (List.mem_of_mem_drop hy)
  have HCH : Hid (ChR R vi vt w' (w6.setCell ⟨R, 2, none⟩ (.slice A2 (ids.length + 1) c2'))) := by
    refine ⟨(HB5.out.grown hgr6 (Nat.le_of_lt (lt_of_block HROW5.out)) (fun k hk => by have := hne k hk; omega)).setCell (Nat.le_refl R) _, ?_, fun g a1 a2 a3 a4 => ?_⟩
    · rw [World.size_setCell]
      exact Nat.le_trans HS5.out hgr6.size
    · exact ((hoth7 g a2).trans (hgr6.block g (Nat.lt_of_lt_of_le a1 HS5.out) a4)).trans (HFR5.out g a1 a2 a3 a4)
  have d2 := cell_of_row w6 R 2 _ _ _ hrow6
  have f6 : ∀ i, w6.frozen? ⟨R, i, none⟩ = false := fun i => frozen_of_row w6 _ i _ _ hrow6
  simp at d2
  clear hto6 hgr6 hne hrow6 hio6 hrow7 hoth7 c2
  go_wp2
  go_ret
  exact ⟨rfl, HCH.out, vi', _, HFIN.out⟩
end Go.Proofs.Ytbilkelbelimjaa
