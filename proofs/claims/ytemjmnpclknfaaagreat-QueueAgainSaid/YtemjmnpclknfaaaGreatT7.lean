/- Rack: lay, at things. -/
import Derived.Test.YtemjmnpclknfaaaGreatT6
namespace Go.Proofs.YtemjmnpclknfaaaGreat.T
open Go.RowKit
open Go.Proofs.YtemjmnpclknfaaaGreat.P (Sl un)
set_option maxRecDepth 20000

theorem un_ins (ids : List Nat) (p x : Nat) : un (ids.take p ++ [x] ++ ids.drop p) = (un ids).take p ++ [.int .u32 (x : Int)] ++ (un ids).drop p := by simp [un, List.map_take, List.map_drop]
theorem mz_app (a b : List Mk) : mz (a ++ b) = mz a ++ mz b := by simp [mz]
theorem mz_ins (l : List Mk) (p : Nat) (z1 : Nat) (z2 : Int) (z3 : Sl) (z4 : Int) (z5 : Int) : mz (l.take p ++ [(z1, z2, z3, z4, z5)] ++ l.drop p) = (mz l).take (p * 5) ++ [.int .u32 (z1 : Int), .int .i64 z2, .slice z3.a z3.n z3.c, .int .i64 z4, .int .i64 z5] ++ (mz l).drop (p * 5) := by
  rw [mz_app, mz_app, mz_take, mz_drop]
  rfl
theorem ins_len {α : Type} (l : List α) (p : Nat) (x : α) (h : p ≤ l.length) : (l.take p ++ [x] ++ l.drop p).length = l.length + 1 := by
  rw [List.length_append, List.length_append, List.length_take, List.length_drop]
  simp
  omega
theorem own_form1 {w : World} {base T m S : Nat} {v : Value} {xs : List Value} (h : w.ownsRow base T S v m xs) : ∃ A c, v = .slice A m c := by
  rcases h.2 with ⟨rfl, rfl⟩ | ⟨g, cap, cur, rfl, _⟩
  · exact ⟨none, 0, rfl⟩
  · exact ⟨_, cap, rfl⟩
theorem own_type {w : World} {base T m S : Nat} {v : Value} {xs : List Value} (h : w.ownsRow base T S v m xs) {g : Nat} (hg : v.ownBlock = some g) : ∃ cur, w.heap[g]? = some (.cells cur T (0, 0)) := by
  rcases h.2 with ⟨rfl, _⟩ | ⟨b, cap, cur, rfl, _, hh, _⟩
  · cases hg
  · have : b = g := Option.some.inj hg
    subst this
    exact ⟨cur, hh⟩
theorem own_apart {w : World} {base base' T T' m m' S S' : Nat} {v v' : Value} {xs xs' : List Value} (h : w.ownsRow base T S v m xs) (h' : w.ownsRow base' T' S' v' m' xs') (hT : T ≠ T') {g : Nat} (hg : v.ownBlock = some g) : v'.ownBlock ≠ some g := fun e => by
  obtain ⟨c, h1⟩ := own_type h hg
  obtain ⟨c', h2⟩ := own_type h' e
  rw [h1] at h2
  injection h2 with h2
  injection h2 with _ h2
  exact hT h2
set_option linter.unusedSimpArgs false in
set_option maxHeartbeats 4000000 in
theorem lay_ok (R : Nat) (most : Int) (vi vt : Value) (ids : List Nat) (ths : List Mk) (p x : Nat) (z1 : Nat) (z2 : Int) (z3 : Sl) (z4 : Int) (z5 : Int) (w : World) (h : IsR w R most vi vt ids ths) (hl : ids.length < 1000) (hp : Pl ids x p) (hx : ids[p]? ≠ some x) (hok : 1 ≤ x ∧ x ≤ 2147483647) (hroom : (ids.length : Int) < min most 2147483647) :
    Calls Tryz.prog 62 #[.pointer (some ⟨R, 0, none⟩), .int .i64 (p : Int), .int .u32 (x : Int), mV z1 z2 z3 z4 z5] w fun r w' => r = .returned (.int .i64 0) ∧ ChR R vi vt w w' ∧ ∃ vi' vt', Fz vi vi' w ∧ IsR w' R most vi' vt' (ids.take p ++ [x] ++ ids.drop p) (ths.take p ++ [(z1, z2, z3, z4, z5)] ++ ths.drop p) := by
  have HV1 : Hid (∀ g, vi.ownBlock = some g → g < w.heap.size) := fun g hg => (ownlt h.rio g hg).2
  have HVT : Hid (∀ g, vt.ownBlock = some g → g < w.heap.size) := fun g hg => (ownlt h.rto g hg).2
  have HRW : Hid (R < w.heap.size) := lt_of_block h.row
  obtain ⟨w0, hw0⟩ : ∃ w0, w0 = w.alloc (.cells (mC z1 z2 z3 z4 z5) 39) := ⟨_, rfl⟩
  have hb0 : Below w.heap.size w w0 := by rw [hw0]; exact (Below.refl _ _).alloc (Nat.le_refl _) _
  have HBOX0 : Hid (w0.heap[w.heap.size]? = some (.cells (mC z1 z2 z3 z4 z5) 39 (0, 0))) := by rw [hw0]; exact heap_alloc_new w _
  have h0 := h.after hb0
  have HF := Lib.hid (full_any R most vi vt ids ths w0 h0)
  have hfd : decide (min most 2147483647 ≤ (ids.length : Int)) = false := by rw [decide_eq_false_iff_not]; omega
  rw [hfd] at HF
  have hrd : decide (1 ≤ x ∧ x ≤ 2147483647) = true := by rw [decide_eq_true_iff]; exact hok
  have hRT : Hid (∀ W, Calls Tryz.prog 29 #[.int .u32 (x : Int)] W fun r w' => r = .returned (.bool true) ∧ w' = W) := fun W => by rw [← hrd]; exact right_any x W
  have HH := Lib.hid h
  have HH0 := Lib.hid h0
  have HP := Lib.hid hp
  have HX := Lib.hid hx
  have HOK := Lib.hid hok
  have HL := Lib.hid hl
  have HB0 := Lib.hid hb0
  have H0 := Lib.hid hw0
  have HBX : Hid (∀ W : World, W.heap[w.heap.size]? = some (.cells (mC z1 z2 z3 z4 z5) 39 (0, 0)) → W.cell? ⟨w.heap.size, 0, none⟩ = some (.int .u32 (z1 : Int)) ∧ W.cell? ⟨w.heap.size, 1, none⟩ = some (.int .i64 z2) ∧ W.cell? ⟨w.heap.size, 2, none⟩ = some (.slice z3.a z3.n z3.c) ∧ W.cell? ⟨w.heap.size, 3, none⟩ = some (.int .i64 z4) ∧ W.cell? ⟨w.heap.size, 4, none⟩ = some (.int .i64 z5)) := fun W e => ⟨cell_of_row W _ 0 _ _ _ e, cell_of_row W _ 1 _ _ _ e, cell_of_row W _ 2 _ _ _ e, cell_of_row W _ 3 _ _ _ e, cell_of_row W _ 4 _ _ _ e⟩
  clear h h0 hp hx hfd hrd hok hroom hl hb0 hw0
  go_enter Tryz.func62, Tryz.ntmps62
  go_upto_region 1 with (fail)
  rw [← H0.out]
  go_wp2_with fail
  refine (hRT.out w0).mono ?_
  rintro r w' ⟨rfl, rfl⟩
  go_wp2_with fail
  refine HF.out.mono ?_
  rintro r w1 ⟨rfl, hb1⟩
  have h1 := HH0.out.after hb1
  obtain ⟨w2, hw2⟩ : ∃ w2, w2 = w1.alloc (.cells #[.int .u32 (x : Int)] 33) := ⟨_, rfl⟩
  have hb2 : Below w1.heap.size w1 w2 := by rw [hw2]; exact (Below.refl _ _).alloc (Nat.le_refl _) _
  have h2 := h1.after hb2
  have hG : w2.heap[w1.heap.size]? = some (.cells #[.int .u32 (x : Int)] 33 (0, 0)) := by rw [hw2]; exact heap_alloc_new w1 _
  have hRlt := lt_of_block h1.row
  have HINS := Lib.hid (ins32_any (R + 1) ids.length p w1.heap.size vi (.int .u32 (x : Int)) (un ids) w2 HP.out.1 (by have := HL.out; omega) (by have := hb2.size; omega) h2.rio hG (fun e => by have := (ownlt h1.rio _ e).2; omega) rfl (un_one ids))
  rw [hw2] at HINS
  have H2 := Lib.hid h2
  have HB2 : Hid (Below w'.heap.size w' w2) := hb1.trans (hb2.mono hb1.size)
  have HW2 := Lib.hid hw2
  have c1 := cell_of_row w1 R 1 _ _ _ h1.row
  simp at c1
  clear h1 hb1 hb2 hw2 hG h2 hRlt
  go_wp2_with fail
  refine HINS.out.mono ?_
  rintro r w3 ⟨vi', rfl, hio3, hgr3, hfz3⟩
  obtain ⟨A', c', rfl⟩ := own_form1 hio3
  obtain ⟨vi', hvi'⟩ : ∃ v, v = Value.slice A' (ids.length + 1) c' := ⟨_, rfl⟩
  rw [← hvi'] at hio3 hfz3
  rw [← HW2.out] at hgr3 hfz3
  have HFZ : Hid (Fz vi vi' w) := fun g hg => by
    rcases hfz3 with e | e
    · exact .inl (e.symm.trans hg)
    · rw [e] at hg
      injection hg with hg
      have a1 := HB0.out.size
      have a2 := HB2.out.size
      exact .inr (by omega)
  clear hfz3
  have hne : ∀ k, vi.ownBlock = some k → R + 1 ≤ k := fun k hk => (ownlt H2.out.rio k hk).1
  have hrow3 : w3.heap[R]? = some (.cells #[.int .i64 most, vi, vt] 89 (0, 0)) := (hgr3.block R (lt_of_block H2.out.row) (fun e => by have := hne R e.symm; omega)).trans H2.out.row
  have hto3 : w3.ownsRow (R + 1) 39 5 vt ids.length (mz ths) := own_after H2.out.rto fun g hg => hgr3.block g (ownlt H2.out.rto g hg).2 (fun e => own_apart H2.out.rto H2.out.rio (by decide) hg e.symm)
  have hb3 : Below R w' w3 := (HB2.out.mono (Nat.le_of_lt (lt_of_block HH0.out.row))).grown hgr3 (by have := lt_of_block H2.out.row; omega) (fun k hk => by have := hne k hk; omega)
  have hfr3 : ∀ g, g < w'.heap.size → g ≠ R → some g ≠ vi.ownBlock → some g ≠ vt.ownBlock → w3.heap[g]? = w'.heap[g]? := fun g hg _ h2 _ => (hgr3.block g (Nat.lt_of_lt_of_le hg HB2.out.size) h2).trans (HB2.out.block g hg)
  have hs3 : w'.heap.size ≤ w3.heap.size := Nat.le_trans HB2.out.size hgr3.size
  obtain ⟨w4, hw4⟩ : ∃ w4, w4 = w3.setCell ⟨R, 1, none⟩ vi' := ⟨_, rfl⟩
  have hrow4 : w4.heap[R]? = some (.cells #[.int .i64 most, vi', vt] 89 (0, 0)) := by rw [hw4]; exact heap_setCell_same w3 R 1 _ 89 vi' hrow3
  have hoth4 : ∀ g, g ≠ R → w4.heap[g]? = w3.heap[g]? := fun g hg => by rw [hw4]; exact Below.heap_setCell _ _ _ _ hg
  have hsz4 : w4.heap.size = w3.heap.size := by rw [hw4]; exact World.size_setCell ..
  have hio4 : w4.ownsRow (R + 1) 33 1 vi' (ids.length + 1) ((un ids).take p ++ [.int .u32 (x : Int)] ++ (un ids).drop p) := own_after hio3 fun g hg => hoth4 g (by have := (ownlt hio3 g hg).1; omega)
  have hto4 : w4.ownsRow (R + 1) 39 5 vt ids.length (mz ths) := own_after hto3 fun g hg => hoth4 g (by have := (ownlt hto3 g hg).1; omega)
  have hb4 : Below R w' w4 := by rw [hw4]; exact hb3.setCell (Nat.le_refl R) _
  have HBOX4 : Hid (w4.heap[w.heap.size]? = some (.cells (mC z1 z2 z3 z4 z5) 39 (0, 0))) := by
    refine (hoth4 _ (by have := HRW.out; omega)).trans ((hgr3.block _ (Nat.lt_of_lt_of_le (lt_of_block HBOX0.out) HB2.out.size) (fun e => absurd (HV1.out _ e.symm) (Nat.lt_irrefl _))).trans ((HB2.out.block _ (lt_of_block HBOX0.out)).trans HBOX0.out))
  obtain ⟨V4, hV4⟩ : ∃ V4, V4 = w4.drew := ⟨_, rfl⟩
  have hVs : V4.heap.size = w4.heap.size := by rw [hV4]; rfl
  obtain ⟨w5, hw5⟩ : ∃ w5, w5 = V4.alloc (.cells (mC z1 z2 z3 z4 z5) 39) := ⟨_, rfl⟩
  have hb5 : Below w4.heap.size w4 w5 := by rw [hw5, hV4]; exact ((Below.refl w4.heap.size w4).drew).alloc (Nat.le_refl _) _
  have hG5 : w5.heap[V4.heap.size]? = some (.cells (mC z1 z2 z3 z4 z5) 39 (0, 0)) := by rw [hw5]; exact heap_alloc_new V4 _
  have HBOXV : Hid (V4.heap[w.heap.size]? = some (.cells (mC z1 z2 z3 z4 z5) 39 (0, 0))) := by rw [hV4]; exact HBOX4.out
  have hio5 := own_after hio4 fun g hg => hb5.block g (ownlt hio4 g hg).2
  have hto5 := own_after hto4 fun g hg => hb5.block g (ownlt hto4 g hg).2
  have hrow5 := (hb5.block R (lt_of_block hrow4)).trans hrow4
  have HBOX5 : Hid (w5.heap[w.heap.size]? = some (.cells (mC z1 z2 z3 z4 z5) 39 (0, 0))) := (hb5.block _ (lt_of_block HBOX4.out)).trans HBOX4.out
  have hR4 := lt_of_block hrow4
  have hR5 := lt_of_block hrow5
  have HINZ := Lib.hid (insM_any (R + 1) ids.length p V4.heap.size vt [.int .u32 (z1 : Int), .int .i64 z2, .slice z3.a z3.n z3.c, .int .i64 z4, .int .i64 z5] (mz ths) w5 HP.out.1 (by have := HL.out; omega) (by omega) hto5 rfl hG5 (fun e => by have := (ownlt hto4 _ e).2; omega) (fun u hu => by simp at hu; rcases hu with rfl | rfl | rfl | rfl | rfl <;> rfl) (mz_one ths))
  have HC2a : Hid (V4.cell? ⟨R, 2, none⟩ = some vt) := by
    have := cell_of_row w4 R 2 _ _ _ hrow4
    show _ = _
    rw [hV4]
    simpa using this
  have HC2b : Hid (w5.cell? ⟨R, 2, none⟩ = some vt) := by
    have := cell_of_row w5 R 2 _ _ _ hrow5
    show _ = _
    simpa using this
  have HV4 := Lib.hid hV4
  have d1 := cell_of_row w3 R 1 _ _ _ hrow3
  have f3 : ∀ i, w3.frozen? ⟨R, i, none⟩ = false := fun i => frozen_of_row w3 _ i _ _ hrow3
  simp at d1
  have HW5 := Lib.hid hw5
  have HW4 := Lib.hid hw4
  have HIO5 := Lib.hid hio5
  have HTO5 := Lib.hid hto5
  have HROW5 := Lib.hid hrow5
  have HB5 : Hid (Below R w w5) := ((HB0.out.mono (Nat.le_of_lt HRW.out)).trans hb4).trans (hb5.mono (Nat.le_of_lt hR4))
  have HS5 : Hid (w.heap.size ≤ w5.heap.size) := by have := hb5.size; have := HB0.out.size; simp only [Hid]; omega
  have HFR5 : Hid (∀ g, g < w.heap.size → g ≠ R → some g ≠ vi.ownBlock → some g ≠ vt.ownBlock → w5.heap[g]? = w.heap[g]?) := fun g a1 a2 a3 a4 => (((hb5.block g (by have := HB0.out.size; omega)).trans (hoth4 g a2)).trans (hfr3 g (Nat.lt_of_lt_of_le a1 HB0.out.size) a2 a3 a4)).trans (HB0.out.block g a1)
  clear hV4 hVs hw4 hw5 hio3 hgr3 hne hrow3 hto3 hb3 hfr3 hs3 hrow4 hoth4 hsz4 hio4 hto4 hb4 hb5 hG5 hio5 hto5 hrow5 hR4 hR5 HINS H2 HB2 HW2 c1
  go_upto_region 8 with (fail)
  rw [← hvi', ← HW4.out]
  clear d1 f3 hvi'
  refine wp_region_held_drew (S := fun W : World => W.cell? ⟨w.heap.size, 0, none⟩ = some (.int .u32 (z1 : Int)) ∧ W.cell? ⟨w.heap.size, 1, none⟩ = some (.int .i64 z2) ∧ W.cell? ⟨w.heap.size, 2, none⟩ = some (.slice z3.a z3.n z3.c) ∧ W.cell? ⟨w.heap.size, 3, none⟩ = some (.int .i64 z4) ∧ W.cell? ⟨w.heap.size, 4, none⟩ = some (.int .i64 z5)) (by kernel_rfl) (HBX.out _ HBOX4.out) (fun hHeld => ?_)
  rw [← HV4.out] at hHeld ⊢
  refine wpAnyH_take (i := 0) (oi := ?oi0l) (v := ?v0l) ?hi0l ?hs0l ?hf0l ?hr0l ?hQ0l ?hy0l ?hS0l ?h0l
  case hi0l => exact (by simp only [List.getElem?_toArray, List.getElem?_cons_zero]; rfl)
  case hs0l => kernel_rfl
  case hf0l => kernel_rfl
  case hr0l => kernel_rfl
  case hQ0l => exact fun _ _ _ h => h
  case hy0l =>
    refine Or.inl ⟨rfl, ?_⟩
    intro W hSw
    obtain ⟨q0, q1, q2, q3, q4⟩ := hSw
    go_simp
    try with_reducible rfl
  case hS0l => assumption
  try simp only [Act.put, List.setIfInBounds_toArray, List.set_cons_zero, List.set_cons_succ]
  refine wpAnyH_take (i := 1) (oi := ?oi1l) (v := ?v1l) ?hi1l ?hs1l ?hf1l ?hr1l ?hQ1l ?hy1l ?hS1l ?h1l
  case hi1l => exact (by simp only [List.getElem?_toArray, List.getElem?_cons_succ, List.getElem?_cons_zero]; rfl)
  case hs1l => kernel_rfl
  case hf1l => kernel_rfl
  case hr1l => kernel_rfl
  case hQ1l => exact fun _ _ _ h => h
  case hy1l =>
    refine Or.inl ⟨rfl, ?_⟩
    intro W hSw
    obtain ⟨q0, q1, q2, q3, q4⟩ := hSw
    go_simp
    try with_reducible rfl
  case hS1l => assumption
  try simp only [Act.put, List.setIfInBounds_toArray, List.set_cons_zero, List.set_cons_succ]
  refine wpAnyH_take (i := 2) (oi := ?oi2l) (v := ?v2l) ?hi2l ?hs2l ?hf2l ?hr2l ?hQ2l ?hy2l ?hS2l ?h2l
  case hi2l => exact (by simp only [List.getElem?_toArray, List.getElem?_cons_succ, List.getElem?_cons_zero]; rfl)
  case hs2l => kernel_rfl
  case hf2l => kernel_rfl
  case hr2l => kernel_rfl
  case hQ2l => exact fun _ _ _ h => h
  case hy2l =>
    refine Or.inl ⟨rfl, ?_⟩
    intro W hSw
    obtain ⟨q0, q1, q2, q3, q4⟩ := hSw
    go_simp
    try with_reducible rfl
  case hS2l => assumption
  try simp only [Act.put, List.setIfInBounds_toArray, List.set_cons_zero, List.set_cons_succ]
  refine wpAnyH_take (i := 3) (oi := ?oi3l) (v := ?v3l) ?hi3l ?hs3l ?hf3l ?hr3l ?hQ3l ?hy3l ?hS3l ?h3l
  case hi3l => exact (by simp only [List.getElem?_toArray, List.getElem?_cons_succ, List.getElem?_cons_zero]; rfl)
  case hs3l => kernel_rfl
  case hf3l => kernel_rfl
  case hr3l => kernel_rfl
  case hQ3l => exact fun _ _ _ h => h
  case hy3l =>
    refine Or.inl ⟨rfl, ?_⟩
    intro W hSw
    obtain ⟨q0, q1, q2, q3, q4⟩ := hSw
    go_simp
    try with_reducible rfl
  case hS3l => assumption
  try simp only [Act.put, List.setIfInBounds_toArray, List.set_cons_zero, List.set_cons_succ]
  refine wpAnyH_take (i := 5) (oi := ?oi5l) (v := ?v5l) ?hi5l ?hs5l ?hf5l ?hr5l ?hQ5l ?hy5l ?hS5l ?h5l
  case hi5l => exact (by simp only [List.getElem?_toArray, List.getElem?_cons_succ, List.getElem?_cons_zero]; rfl)
  case hs5l => kernel_rfl
  case hf5l => kernel_rfl
  case hr5l => kernel_rfl
  case hQ5l => exact fun _ _ _ h => h
  case hy5l =>
    refine Or.inl ⟨rfl, ?_⟩
    intro W hSw
    obtain ⟨q0, q1, q2, q3, q4⟩ := hSw
    go_simp
    try with_reducible rfl
  case hS5l => assumption
  try simp only [Act.put, List.setIfInBounds_toArray, List.set_cons_zero, List.set_cons_succ]
  refine wpAnyH_take (i := 6) (oi := ?oi6l) (v := ?v6l) ?hi6l ?hs6l ?hf6l ?hr6l ?hQ6l ?hy6l ?hS6l ?h6l
  case hi6l => exact (by simp only [List.getElem?_toArray, List.getElem?_cons_succ, List.getElem?_cons_zero]; rfl)
  case hs6l => kernel_rfl
  case hf6l => kernel_rfl
  case hr6l => kernel_rfl
  case hQ6l => exact fun _ _ _ h => h
  case hy6l =>
    refine Or.inl ⟨rfl, ?_⟩
    intro W hSw
    obtain ⟨q0, q1, q2, q3, q4⟩ := hSw
    go_simp
    try with_reducible rfl
  case hS6l => assumption
  try simp only [Act.put, List.setIfInBounds_toArray, List.set_cons_zero, List.set_cons_succ]
  refine wpAnyH_ready (rs := [4, 7]) (by kernel_rfl) (by simp) ?_
  refine AllReadyH.cons (o := _) rfl (fun K hK => ?_) (AllReadyH.cons (o := _) rfl (fun K hK => ?_) AllReadyH.nil)
  · have hc2 := HC2a.out
    go_simp
    clear hc2
    refine hK.out _ _ (HBX.out _ HBOXV.out) (fun hHeld => ?_)
    clear hK K
    try simp only [Act.put, List.setIfInBounds_toArray, List.set_cons_zero, List.set_cons_succ]
    refine wpAnyH_ready (rs := [7]) (by kernel_rfl) (by simp) ?_
    refine AllReadyH.cons (o := _) rfl (fun K hK => ?_) AllReadyH.nil
    go_simp
    refine hK.out _ _ (HBX.out _ (by rw [← HW5.out]; exact HBOX5.out)) (fun hHeld => ?_)
    clear hK K
    try simp only [Act.put, List.setIfInBounds_toArray, List.set_cons_zero, List.set_cons_succ]
    rw [← HW5.out] at hHeld ⊢
    refine wpAnyH_ready (rs := [8]) (by kernel_rfl) (by simp) ?_
    refine AllReadyH.cons (o := _) rfl (fun K hK => ?_) AllReadyH.nil
    go_simp
    refine HINZ.out.mono ?_
    rintro r w6 ⟨vt', rfl, hto6, hgr6⟩
    obtain ⟨A2, c2', rfl⟩ := own_form1 hto6
    have hne : ∀ k, vt.ownBlock = some k → R + 1 ≤ k := fun k hk => (ownlt HTO5.out k hk).1
    have hrow6 : w6.heap[R]? = some (.cells #[.int .i64 most, vi', vt] 89 (0, 0)) := (hgr6.block R (lt_of_block HROW5.out) (fun e => by have := hne R e.symm; omega)).trans HROW5.out
    have HBOX6 : Hid (w6.heap[w.heap.size]? = some (.cells (mC z1 z2 z3 z4 z5) 39 (0, 0))) := (hgr6.block _ (lt_of_block HBOX5.out) (fun e => absurd (HVT.out _ e.symm) (Nat.lt_irrefl _))).trans HBOX5.out
    have hio6 := own_after HIO5.out fun g hg => hgr6.block g (ownlt HIO5.out g hg).2 (fun e => own_apart HIO5.out HTO5.out (by decide) hg e.symm)
    have hrow7 := heap_setCell_same w6 R 2 _ 89 (.slice A2 (ids.length + 1) c2') hrow6
    have hoth7 : ∀ g, g ≠ R → (w6.setCell ⟨R, 2, none⟩ (.slice A2 (ids.length + 1) c2')).heap[g]? = w6.heap[g]? := fun g hg => Below.heap_setCell _ _ _ _ hg
    have HBOX7 : Hid ((w6.setCell ⟨R, 2, none⟩ (.slice A2 (ids.length + 1) c2')).heap[w.heap.size]? = some (.cells (mC z1 z2 z3 z4 z5) 39 (0, 0))) := (hoth7 _ (by have := HRW.out; omega)).trans HBOX6.out
    have HFIN : Hid (IsR (w6.setCell ⟨R, 2, none⟩ (.slice A2 (ids.length + 1) c2')) R most vi' (.slice A2 (ids.length + 1) c2') (ids.take p ++ [x] ++ ids.drop p) (ths.take p ++ [(z1, z2, z3, z4, z5)] ++ ths.drop p)) := by
      have hlen := HH.out.len
      refine ⟨hrow7, ?_, ?_, ?_, pl_up HH.out.up HP.out HX.out, ?_⟩
      · rw [un_ins, ins_len _ _ _ HP.out.1]
        exact own_after hio6 fun g hg => hoth7 g (by have := (ownlt hio6 g hg).1; omega)
      · rw [mz_ins, ins_len _ _ _ HP.out.1]
        exact own_after hto6 fun g hg => hoth7 g (by have := (ownlt hto6 g hg).1; omega)
      · rw [ins_len _ _ _ HP.out.1, ins_len _ _ _ (by have := HP.out.1; omega), hlen]
      · intro y hy
        simp only [List.mem_append, List.mem_singleton] at hy
        rcases hy with (hy | rfl) | hy
        · exact HH.out.ok y (List.mem_of_mem_take hy)
        · exact HOK.out
        · exact HH.out.ok y (List.mem_of_mem_drop hy)
    have HCH : Hid (ChR R vi vt w (w6.setCell ⟨R, 2, none⟩ (.slice A2 (ids.length + 1) c2'))) := by
      refine ⟨(HB5.out.grown hgr6 (Nat.le_of_lt (lt_of_block HROW5.out)) (fun k hk => by have := hne k hk; omega)).setCell (Nat.le_refl R) _, ?_, fun g a1 a2 a3 a4 => ?_⟩
      · rw [World.size_setCell]
        exact Nat.le_trans HS5.out hgr6.size
      · exact ((hoth7 g a2).trans (hgr6.block g (Nat.lt_of_lt_of_le a1 HS5.out) a4)).trans (HFR5.out g a1 a2 a3 a4)
    have d2 := cell_of_row w6 R 2 _ _ _ hrow6
    have f6 : ∀ i, w6.frozen? ⟨R, i, none⟩ = false := fun i => frozen_of_row w6 _ i _ _ hrow6
    simp at d2
    clear hto6 hgr6 hne hrow6 hio6 hrow7 hoth7
    refine hK.out _ _ (HBX.out _ HBOX6.out) (fun hHeld => ?_)
    clear hK K
    try simp only [Act.put, List.setIfInBounds_toArray, List.set_cons_zero, List.set_cons_succ]
    refine wpAnyH_take (i := 9) (oi := ?oi9la) (v := ?v9la) ?hi9la ?hs9la ?hf9la ?hr9la ?hQ9la ?hy9la ?hS9la ?h9la
    case hi9la => exact (by simp only [List.getElem?_toArray, List.getElem?_cons_succ, List.getElem?_cons_zero]; rfl)
    case hs9la => kernel_rfl
    case hf9la => kernel_rfl
    case hr9la => kernel_rfl
    case hQ9la => exact fun _ _ _ h => h
    case hy9la =>
      refine Or.inl ⟨rfl, ?_⟩
      intro W hSw
      obtain ⟨q0, q1, q2, q3, q4⟩ := hSw
      go_simp
      try with_reducible rfl
    case hS9la => assumption
    try simp only [Act.put, List.setIfInBounds_toArray, List.set_cons_zero, List.set_cons_succ]
    refine wpAnyH_take (i := 10) (oi := ?oi10la) (v := ?v10la) ?hi10la ?hs10la ?hf10la ?hr10la ?hQ10la ?hy10la ?hS10la ?h10la
    case hi10la => exact (by simp only [List.getElem?_toArray, List.getElem?_cons_succ, List.getElem?_cons_zero]; rfl)
    case hs10la => kernel_rfl
    case hf10la => kernel_rfl
    case hr10la => kernel_rfl
    case hQ10la => exact fun _ _ _ h => h
    case hy10la =>
      refine Or.inl ⟨rfl, ?_⟩
      intro W hSw
      obtain ⟨q0, q1, q2, q3, q4⟩ := hSw
      go_simp
      try with_reducible rfl
    case hS10la => assumption
    try simp only [Act.put, List.setIfInBounds_toArray, List.set_cons_zero, List.set_cons_succ]
    refine wpAnyH_ready (rs := [11]) (by kernel_rfl) (by simp) ?_
    refine AllReadyH.cons (o := _) rfl (fun K hK => ?_) AllReadyH.nil
    go_simp
    refine hK.out _ _ (HBX.out _ HBOX7.out) (fun hHeld => ?_)
    clear hK K
    try simp only [Act.put, List.setIfInBounds_toArray, List.set_cons_zero, List.set_cons_succ]
    refine wpAnyH_done (by kernel_rfl) ?_ _
    go_wp2_with fail
    go_ret
    exact ⟨rfl, HCH.out, vi', _, HFZ.out, HFIN.out⟩
  · go_simp
    refine hK.out _ _ (HBX.out _ (by rw [← HW5.out]; exact HBOX5.out)) (fun hHeld => ?_)
    clear hK K
    try simp only [Act.put, List.setIfInBounds_toArray, List.set_cons_zero, List.set_cons_succ]
    rw [← HW5.out] at hHeld ⊢
    refine wpAnyH_ready (rs := [4]) (by kernel_rfl) (by simp) ?_
    refine AllReadyH.cons (o := _) rfl (fun K hK => ?_) AllReadyH.nil
    have hc2 := HC2b.out
    go_simp
    clear hc2
    refine hK.out _ _ (HBX.out _ HBOX5.out) (fun hHeld => ?_)
    clear hK K
    try simp only [Act.put, List.setIfInBounds_toArray, List.set_cons_zero, List.set_cons_succ]
    refine wpAnyH_ready (rs := [8]) (by kernel_rfl) (by simp) ?_
    refine AllReadyH.cons (o := _) rfl (fun K hK => ?_) AllReadyH.nil
    go_simp
    refine HINZ.out.mono ?_
    rintro r w6 ⟨vt', rfl, hto6, hgr6⟩
    obtain ⟨A2, c2', rfl⟩ := own_form1 hto6
    have hne : ∀ k, vt.ownBlock = some k → R + 1 ≤ k := fun k hk => (ownlt HTO5.out k hk).1
    have hrow6 : w6.heap[R]? = some (.cells #[.int .i64 most, vi', vt] 89 (0, 0)) := (hgr6.block R (lt_of_block HROW5.out) (fun e => by have := hne R e.symm; omega)).trans HROW5.out
    have HBOX6 : Hid (w6.heap[w.heap.size]? = some (.cells (mC z1 z2 z3 z4 z5) 39 (0, 0))) := (hgr6.block _ (lt_of_block HBOX5.out) (fun e => absurd (HVT.out _ e.symm) (Nat.lt_irrefl _))).trans HBOX5.out
    have hio6 := own_after HIO5.out fun g hg => hgr6.block g (ownlt HIO5.out g hg).2 (fun e => own_apart HIO5.out HTO5.out (by decide) hg e.symm)
    have hrow7 := heap_setCell_same w6 R 2 _ 89 (.slice A2 (ids.length + 1) c2') hrow6
    have hoth7 : ∀ g, g ≠ R → (w6.setCell ⟨R, 2, none⟩ (.slice A2 (ids.length + 1) c2')).heap[g]? = w6.heap[g]? := fun g hg => Below.heap_setCell _ _ _ _ hg
    have HBOX7 : Hid ((w6.setCell ⟨R, 2, none⟩ (.slice A2 (ids.length + 1) c2')).heap[w.heap.size]? = some (.cells (mC z1 z2 z3 z4 z5) 39 (0, 0))) := (hoth7 _ (by have := HRW.out; omega)).trans HBOX6.out
    have HFIN : Hid (IsR (w6.setCell ⟨R, 2, none⟩ (.slice A2 (ids.length + 1) c2')) R most vi' (.slice A2 (ids.length + 1) c2') (ids.take p ++ [x] ++ ids.drop p) (ths.take p ++ [(z1, z2, z3, z4, z5)] ++ ths.drop p)) := by
      have hlen := HH.out.len
      refine ⟨hrow7, ?_, ?_, ?_, pl_up HH.out.up HP.out HX.out, ?_⟩
      · rw [un_ins, ins_len _ _ _ HP.out.1]
        exact own_after hio6 fun g hg => hoth7 g (by have := (ownlt hio6 g hg).1; omega)
      · rw [mz_ins, ins_len _ _ _ HP.out.1]
        exact own_after hto6 fun g hg => hoth7 g (by have := (ownlt hto6 g hg).1; omega)
      · rw [ins_len _ _ _ HP.out.1, ins_len _ _ _ (by have := HP.out.1; omega), hlen]
      · intro y hy
        simp only [List.mem_append, List.mem_singleton] at hy
        rcases hy with (hy | rfl) | hy
        · exact HH.out.ok y (List.mem_of_mem_take hy)
        · exact HOK.out
        · exact HH.out.ok y (List.mem_of_mem_drop hy)
    have HCH : Hid (ChR R vi vt w (w6.setCell ⟨R, 2, none⟩ (.slice A2 (ids.length + 1) c2'))) := by
      refine ⟨(HB5.out.grown hgr6 (Nat.le_of_lt (lt_of_block HROW5.out)) (fun k hk => by have := hne k hk; omega)).setCell (Nat.le_refl R) _, ?_, fun g a1 a2 a3 a4 => ?_⟩
      · rw [World.size_setCell]
        exact Nat.le_trans HS5.out hgr6.size
      · exact ((hoth7 g a2).trans (hgr6.block g (Nat.lt_of_lt_of_le a1 HS5.out) a4)).trans (HFR5.out g a1 a2 a3 a4)
    have d2 := cell_of_row w6 R 2 _ _ _ hrow6
    have f6 : ∀ i, w6.frozen? ⟨R, i, none⟩ = false := fun i => frozen_of_row w6 _ i _ _ hrow6
    simp at d2
    clear hto6 hgr6 hne hrow6 hio6 hrow7 hoth7
    refine hK.out _ _ (HBX.out _ HBOX6.out) (fun hHeld => ?_)
    clear hK K
    try simp only [Act.put, List.setIfInBounds_toArray, List.set_cons_zero, List.set_cons_succ]
    refine wpAnyH_take (i := 9) (oi := ?oi9lb) (v := ?v9lb) ?hi9lb ?hs9lb ?hf9lb ?hr9lb ?hQ9lb ?hy9lb ?hS9lb ?h9lb
    case hi9lb => exact (by simp only [List.getElem?_toArray, List.getElem?_cons_succ, List.getElem?_cons_zero]; rfl)
    case hs9lb => kernel_rfl
    case hf9lb => kernel_rfl
    case hr9lb => kernel_rfl
    case hQ9lb => exact fun _ _ _ h => h
    case hy9lb =>
      refine Or.inl ⟨rfl, ?_⟩
      intro W hSw
      obtain ⟨q0, q1, q2, q3, q4⟩ := hSw
      go_simp
      try with_reducible rfl
    case hS9lb => assumption
    try simp only [Act.put, List.setIfInBounds_toArray, List.set_cons_zero, List.set_cons_succ]
    refine wpAnyH_take (i := 10) (oi := ?oi10lb) (v := ?v10lb) ?hi10lb ?hs10lb ?hf10lb ?hr10lb ?hQ10lb ?hy10lb ?hS10lb ?h10lb
    case hi10lb => exact (by simp only [List.getElem?_toArray, List.getElem?_cons_succ, List.getElem?_cons_zero]; rfl)
    case hs10lb => kernel_rfl
    case hf10lb => kernel_rfl
    case hr10lb => kernel_rfl
    case hQ10lb => exact fun _ _ _ h => h
    case hy10lb =>
      refine Or.inl ⟨rfl, ?_⟩
      intro W hSw
      obtain ⟨q0, q1, q2, q3, q4⟩ := hSw
      go_simp
      try with_reducible rfl
    case hS10lb => assumption
    try simp only [Act.put, List.setIfInBounds_toArray, List.set_cons_zero, List.set_cons_succ]
    refine wpAnyH_ready (rs := [11]) (by kernel_rfl) (by simp) ?_
    refine AllReadyH.cons (o := _) rfl (fun K hK => ?_) AllReadyH.nil
    go_simp
    refine hK.out _ _ (HBX.out _ HBOX7.out) (fun hHeld => ?_)
    clear hK K
    try simp only [Act.put, List.setIfInBounds_toArray, List.set_cons_zero, List.set_cons_succ]
    refine wpAnyH_done (by kernel_rfl) ?_ _
    go_wp2_with fail
    go_ret
    exact ⟨rfl, HCH.out, vi', _, HFZ.out, HFIN.out⟩
end Go.Proofs.YtemjmnpclknfaaaGreat.T
