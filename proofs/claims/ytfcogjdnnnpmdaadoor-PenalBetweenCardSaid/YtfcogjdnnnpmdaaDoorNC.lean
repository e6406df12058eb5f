/- Penal: a look in between; PenalBetween's walk. -/
import Derived.Test.YtfcogjdnnnpmdaaDoorNB
namespace Go.Proofs.YtfcogjdnnnpmdaaDoor
open Go.RowKit
set_option maxRecDepth 20000

theorem lvl_lvl (n : Int) (h0 : 0 ≤ n) (h1 : n ≤ 6) : lvl n = n := lvl_id h0 h1
theorem dwn_mono (s a b : Int) (hab : a ≤ b) : dwn s a ≤ dwn s b := by
  unfold dwn btw
  by_cases h : a ≤ s
  · rw [if_pos h]
    split <;> omega
  · rw [if_neg h, if_neg (by omega)]
    omega
theorem dwn_step (s a b : Int) (hab : a ≤ b) (hs : inI s) (ha : inI a) : dwn (s + dwn s a * 10000) b = dwn s b - dwn s a := by
  have h1 := btw_bd s a hs ha
  have hd : dwn s a * 10000 ≤ btw s a := by unfold dwn; omega
  have hd0 := dwn_nonneg s a hs ha
  by_cases h : a ≤ s
  · have e : btw s a = 0 := h1.2.2.2 h
    have e2 : dwn s a = 0 := by unfold dwn; rw [e]; decide
    rw [e2]; simp
  · have e := h1.2.2.1 (by omega)
    generalize dwn s a = d at *
    unfold dwn btw
    rw [if_neg (show ¬ b ≤ s by omega)]
    by_cases h2 : b ≤ s + d * 10000
    · rw [if_pos h2]; omega
    · rw [if_neg h2]; omega
/-- A look in between changes nothing. -/
theorem at_at (l s u a b : Int) (hab : a ≤ b) (hs : inI s) (ha : inI a) (hb : inI b) :
    atL (atL l s a) (atS l s a) b = atL l s b ∧ atS (atL l s a) (atS l s a) b = atS l s b ∧ atU (atL l s a) (atS l s a) (atU l s u a) b = atU l s u b := by
  have hL := lvl_bd l
  have hm := dwn_mono s a b hab
  have hda := dwn_nonneg s a hs ha
  by_cases h : dwn s a < lvl l
  · have e1 : atL l s a = lvl l - dwn s a := by unfold atL; rw [if_pos h]
    have e2 : atS l s a = s + dwn s a * 10000 := by unfold atS; rw [if_pos h]
    have e3 : atU l s u a = u := by unfold atU; rw [if_pos h]
    rw [e1, e2, e3]
    have hst := dwn_step s a b hab hs ha
    have e4 : lvl (lvl l - dwn s a) = lvl l - dwn s a := lvl_id (by omega) (by omega)
    unfold atL atS atU
    rw [hst, e4]
    by_cases h2 : dwn s b < lvl l
    · rw [if_pos (show dwn s b - dwn s a < lvl l - dwn s a by omega), if_pos (show dwn s b - dwn s a < lvl l - dwn s a by omega), if_pos (show dwn s b - dwn s a < lvl l - dwn s a by omega), if_pos h2, if_pos h2, if_pos h2]
      refine ⟨by omega, ?_, rfl⟩
      rw [Int.sub_mul]
      omega
    · rw [if_neg (show ¬ dwn s b - dwn s a < lvl l - dwn s a by omega), if_neg (show ¬ dwn s b - dwn s a < lvl l - dwn s a by omega), if_neg (show ¬ dwn s b - dwn s a < lvl l - dwn s a by omega), if_neg h2, if_neg h2, if_neg h2]
      exact ⟨rfl, rfl, rfl⟩
  · have h2 : ¬ dwn s b < lvl l := by omega
    have e1 : atL l s a = 0 := by unfold atL; rw [if_neg h]
    have e2 : atS l s a = 0 := by unfold atS; rw [if_neg h]
    have e3 : atU l s u a = if u ≤ a then 0 else u := by unfold atU; rw [if_neg h]
    rw [e1, e2, e3]
    have e4 : lvl 0 = 0 := by decide
    have h5 := dwn_nonneg 0 b ⟨by omega, by omega⟩ hb
    unfold atL atS atU
    rw [e4]
    rw [if_neg (show ¬ dwn 0 b < 0 by omega), if_neg (show ¬ dwn 0 b < 0 by omega), if_neg (show ¬ dwn 0 b < 0 by omega), if_neg h2, if_neg h2, if_neg h2]
    refine ⟨rfl, rfl, ?_⟩
    by_cases g : u ≤ a
    · rw [if_pos g, if_pos (show u ≤ b by omega)]
      split <;> rfl
    · rw [if_neg g]
theorem atL_in (l s a : Int) (hs : inI s) (ha : inI a) : inI (atL l s a) := by
  have := atL_bd l s a (dwn_nonneg s a hs ha)
  exact ⟨by omega, by omega⟩
theorem atS_in (l s a : Int) (hs : inI s) (ha : inI a) : inI (atS l s a) := by
  have h1 := btw_bd s a hs ha
  have hd0 := dwn_nonneg s a hs ha
  have hd : dwn s a * 10000 ≤ btw s a := by unfold dwn; omega
  obtain ⟨g1, g2⟩ := hs
  obtain ⟨g3, g4⟩ := ha
  unfold atS
  split
  · unfold inI
    by_cases h : s < a
    · have := h1.2.2.1 h; omega
    · have := h1.2.2.2 (by omega); omega
  · exact ⟨by omega, by omega⟩

set_option linter.unusedSimpArgs false in
set_option maxHeartbeats 4000000 in
theorem between_walk (l s u t1 t2 : Int) (w : World) (hlw : Lw w) (hz : 0 < w.heap.size) (hl : inI l) (hs : inI s) (hu : inI u) (ht1 : inI t1) (ht2 : inI t2) :
    Calls Tryd.prog 6 #[mV l s u, .agg #[.int .i64 t1, .int .i64 t2]] w fun r w' => r = .returned (.bool true) ∧ Below w.heap.size w w' := by
  obtain ⟨a, b, hab, hmin, hmax, ha, hb⟩ : ∃ a b, a ≤ b ∧ (if t2 < t1 then t2 else t1) = a ∧ (if t1 < t2 then t2 else t1) = b ∧ inI a ∧ inI b := by
    by_cases h : t2 < t1
    · exact ⟨t2, t1, by omega, by rw [if_pos h], by rw [if_neg (by omega)], ht2, ht1⟩
    · by_cases h2 : t1 < t2
      · exact ⟨t1, t2, by omega, by rw [if_neg h], by rw [if_pos h2], ht1, ht2⟩
      · exact ⟨t1, t1, by omega, by rw [if_neg h], by rw [if_neg h2], ht1, ht1⟩
  obtain ⟨e1, e2, e3⟩ := at_at l s u a b hab hs ha hb
  obtain ⟨e4, e5, e6⟩ := at_at l s u a a (Int.le_refl _) hs ha ha
  have hyL := atL_in l s a hs ha
  have hyS := atS_in l s a hs ha
  have hyU := atU_in l s u a hu
  have hk : atU l s u a = 0 ∨ atU l s u a = u := by
    unfold atU
    split
    · exact .inr rfl
    · split
      · exact .inl rfl
      · exact .inr rfl
  have eh1 : hitL (atL l s a) (atS l s a) b = hitL l s b := by unfold hitL; rw [e1]
  have eh3 : hitU (atL l s a) (atS l s a) (atU l s u a) b = hitU l s u b := by unfold hitU; rw [e3, eh1]
  obtain ⟨y1, hy1⟩ : ∃ a', a' = atL l s a := ⟨_, rfl⟩
  obtain ⟨y2, hy2⟩ : ∃ a', a' = atS l s a := ⟨_, rfl⟩
  obtain ⟨y3, hy3⟩ : ∃ a', a' = atU l s u a := ⟨_, rfl⟩
  obtain ⟨b1, hb1⟩ : ∃ a', a' = atL l s b := ⟨_, rfl⟩
  obtain ⟨b2, hb2⟩ : ∃ a', a' = atS l s b := ⟨_, rfl⟩
  obtain ⟨b3, hb3⟩ : ∃ a', a' = atU l s u b := ⟨_, rfl⟩
  obtain ⟨h1, hh1⟩ : ∃ a', a' = hitL l s b := ⟨_, rfl⟩
  obtain ⟨h3, hh3⟩ : ∃ a', a' = hitU l s u b := ⟨_, rfl⟩
  obtain ⟨fb, hfb⟩ : ∃ a', a' = lft u b := ⟨_, rfl⟩
  rw [← hy1] at e1 e2 e3 e4 e5 e6 hyL eh1 eh3
  rw [← hy2] at e1 e2 e3 e4 e5 e6 hyS eh1 eh3
  rw [← hy3] at e3 e6 hyU eh3 hk
  have HA : Hid (∀ W, Calls Tryd.prog 10 #[mV l s u, .int .i64 a] W fun r w' => r = .returned (mV y1 y2 y3) ∧ Below W.heap.size W w') := fun W => by rw [hy1, hy2, hy3]; exact at_any l s u a W hl hs hu ha
  have HXB : Hid (∀ W, Calls Tryd.prog 10 #[mV l s u, .int .i64 b] W fun r w' => r = .returned (mV b1 b2 b3) ∧ Below W.heap.size W w') := fun W => by rw [hb1, hb2, hb3]; exact at_any l s u b W hl hs hu hb
  have HYB : Hid (∀ W, Calls Tryd.prog 10 #[mV y1 y2 y3, .int .i64 b] W fun r w' => r = .returned (mV b1 b2 b3) ∧ Below W.heap.size W w') := fun W => by
    have h := at_any y1 y2 y3 b W hyL hyS hyU hb
    rw [e1, e2, e3, ← hb1, ← hb2, ← hb3] at h
    exact h
  have HYA : Hid (∀ W, Calls Tryd.prog 10 #[mV y1 y2 y3, .int .i64 a] W fun r w' => r = .returned (mV y1 y2 y3) ∧ Below W.heap.size W w') := fun W => by
    have h := at_any y1 y2 y3 a W hyL hyS hyU ha
    rw [e4, e5, e6] at h
    exact h
  have HHX : Hid (∀ W, Below w.heap.size w W → Calls Tryd.prog 12 #[mV l s u, .int .i64 b] W fun r w' => r = .returned (mV h1 b h3) ∧ Below W.heap.size W w') := fun W hB => by rw [hh1, hh3]; exact hit_any l s u b W (hlw.below hB hz) (Nat.lt_of_lt_of_le hz hB.size) hl hs hu hb
  have HHY : Hid (∀ W, Below w.heap.size w W → Calls Tryd.prog 12 #[mV y1 y2 y3, .int .i64 b] W fun r w' => r = .returned (mV h1 b h3) ∧ Below W.heap.size W w') := fun W hB => by
    have h := hit_any y1 y2 y3 b W (hlw.below hB hz) (Nat.lt_of_lt_of_le hz hB.size) hyL hyS hyU hb
    rw [eh1, eh3, ← hh1, ← hh3] at h
    exact h
  have HFX : Hid (∀ W, Calls Tryd.prog 14 #[mV l s u, .int .i64 b] W fun r w' => r = .returned (.int .i64 fb) ∧ Below W.heap.size W w') := fun W => by rw [hfb]; exact left_any l s u b W hu hb
  have HFY : Hid (y3 = u → ∀ W, Calls Tryd.prog 14 #[mV y1 y2 y3, .int .i64 b] W fun r w' => r = .returned (.int .i64 fb) ∧ Below W.heap.size W w') := fun e W => by
    have h := left_any y1 y2 y3 b W hyU hb
    rw [hfb, ← e]
    exact h
  have HW : Hid (∀ W, Below w.heap.size w W → Calls Tryd.prog 16 #[] W fun r w' => r = .returned (.bool true) ∧ Below W.heap.size W w') := fun W hb => nawake W (hlw.below hb hz) (Nat.lt_of_lt_of_le hz hb.size)
  have HMIN := Lib.hid hmin
  have HMAX := Lib.hid hmax
  clear e1 e2 e3 e4 e5 e6 hyL hyS hyU eh1 eh3 hy1 hy2 hy3 hb1 hb2 hb3 hh1 hh3 hfb hlw hl hs hu ht1 ht2 ha hb hmin hmax hab
  obtain ⟨w0, hw0⟩ : ∃ w0, w0 = (w.alloc (.cells (mC l s u) 23)).alloc (.cells #[.int .i64 t1, .int .i64 t2] 55) := ⟨_, rfl⟩
  have HB0 : Hid (Below w.heap.size w w0) := by rw [hw0]; exact ((Below.refl _ _).alloc (Nat.le_refl _) _).alloc (by simp) _
  have hp0 : w0.heap[w.heap.size]? = some (.cells (mC l s u) 23 (0, 0)) := by rw [hw0]; exact (Below.heap_alloc _ _ _ (by simp)).trans (heap_alloc_new w _)
  have hq0 : w0.heap[w.heap.size + 1]? = some (.cells #[.int .i64 t1, .int .i64 t2] 55 (0, 0)) := by
    have := heap_alloc_new (w.alloc (.cells (mC l s u) 23)) (.cells #[.int .i64 t1, .int .i64 t2] 55)
    rw [World.size_alloc] at this
    rw [hw0]; exact this
  have HP0 := Lib.hid hp0
  have H0 := Lib.hid hw0
  have HBS0 : Hid (Below w0.heap.size w0 w0) := Below.refl _ _
  have HCT : Hid (∀ W, Below w0.heap.size w0 W → W.cell? ⟨w.heap.size + 1, 0, none⟩ = some (.int .i64 t1) ∧ W.cell? ⟨w.heap.size + 1, 1, none⟩ = some (.int .i64 t2)) := fun W hW => by
    have e1 := (hW.block _ (lt_of_block hq0)).trans hq0
    exact ⟨cell_of_row W _ 0 _ _ _ e1, cell_of_row W _ 1 _ _ _ e1⟩
  clear hw0 hp0 hq0
  go_enter Tryd.func6, Tryd.ntmps6
  go_upto_region 1 with (fail)
  rw [← H0.out]
  have HDr : Hid (Below w0.heap.size w0 w0.drew) := HBS0.out.drew
  refine wp_region_held_drew (S := fun W : World => W.cell? ⟨w.heap.size + 1, 0, none⟩ = some (.int .i64 t1) ∧ W.cell? ⟨w.heap.size + 1, 1, none⟩ = some (.int .i64 t2)) (by kernel_rfl) (HCT.out _ HDr.out) (fun hHeld => ?_)
  obtain ⟨Wr0, hW0⟩ : ∃ W0, W0 = w0.drew := ⟨_, rfl⟩
  rw [← hW0] at hHeld HDr ⊢
  clear hW0
  refine wpAnyH_take (i := 0) (oi := ?oi0r) (v := ?v0r) ?hi0r ?hs0r ?hf0r ?hr0r ?hQ0r ?hy0r ?hS0r ?h0r
  case hi0r => exact (by simp only [List.getElem?_toArray, List.getElem?_cons_zero]; rfl)
  case hs0r => kernel_rfl
  case hf0r => kernel_rfl
  case hr0r => kernel_rfl
  case hQ0r => exact fun _ _ _ h => h
  case hy0r =>
    refine Or.inl ⟨rfl, ?_⟩
    intro W hSw
    obtain ⟨q0, q1⟩ := hSw
    go_simp
    try with_reducible rfl
  case hS0r => assumption
  try simp only [Act.put, List.setIfInBounds_toArray, List.set_cons_zero, List.set_cons_succ]
  refine wpAnyH_take (i := 1) (oi := ?oi1r) (v := ?v1r) ?hi1r ?hs1r ?hf1r ?hr1r ?hQ1r ?hy1r ?hS1r ?h1r
  case hi1r => exact (by simp only [List.getElem?_toArray, List.getElem?_cons_succ, List.getElem?_cons_zero]; rfl)
  case hs1r => kernel_rfl
  case hf1r => kernel_rfl
  case hr1r => kernel_rfl
  case hQ1r => exact fun _ _ _ h => h
  case hy1r =>
    refine Or.inl ⟨rfl, ?_⟩
    intro W hSw
    obtain ⟨q0, q1⟩ := hSw
    go_simp
    try with_reducible rfl
  case hS1r => assumption
  try simp only [Act.put, List.setIfInBounds_toArray, List.set_cons_zero, List.set_cons_succ]
  refine wpAnyH_take (i := 2) (oi := ?oi2r) (v := ?v2r) ?hi2r ?hs2r ?hf2r ?hr2r ?hQ2r ?hy2r ?hS2r ?h2r
  case hi2r => exact (by simp only [List.getElem?_toArray, List.getElem?_cons_succ, List.getElem?_cons_zero]; rfl)
  case hs2r => kernel_rfl
  case hf2r => kernel_rfl
  case hr2r => kernel_rfl
  case hQ2r => exact fun _ _ _ h => h
  case hy2r =>
    refine Or.inl ⟨rfl, ?_⟩
    intro W hSw
    obtain ⟨q0, q1⟩ := hSw
    go_simp
    try with_reducible rfl
  case hS2r => assumption
  try simp only [Act.put, List.setIfInBounds_toArray, List.set_cons_zero, List.set_cons_succ]
  refine wpAnyH_take (i := 3) (oi := ?oi3r) (v := ?v3r) ?hi3r ?hs3r ?hf3r ?hr3r ?hQ3r ?hy3r ?hS3r ?h3r
  case hi3r => exact (by simp only [List.getElem?_toArray, List.getElem?_cons_succ, List.getElem?_cons_zero]; rfl)
  case hs3r => kernel_rfl
  case hf3r => kernel_rfl
  case hr3r => kernel_rfl
  case hQ3r => exact fun _ _ _ h => h
  case hy3r =>
    refine Or.inl ⟨rfl, ?_⟩
    intro W hSw
    obtain ⟨q0, q1⟩ := hSw
    go_simp
    try with_reducible rfl
  case hS3r => assumption
  try simp only [Act.put, List.setIfInBounds_toArray, List.set_cons_zero, List.set_cons_succ]
  refine wpAnyH_take (i := 4) (oi := ?oi4r) (v := (.int .i64 a)) ?hi4r ?hs4r ?hf4r ?hr4r ?hQ4r ?hy4r ?hS4r ?h4r
  case hi4r => exact (by simp only [List.getElem?_toArray, List.getElem?_cons_succ, List.getElem?_cons_zero]; rfl)
  case hs4r => kernel_rfl
  case hf4r => kernel_rfl
  case hr4r => kernel_rfl
  case hQ4r => exact fun _ _ _ h => h
  case hy4r =>
    refine Or.inl ⟨rfl, ?_⟩
    intro W hSw
    obtain ⟨q0, q1⟩ := hSw
    have z1 := HMIN.out
    go_simp
    all_goals first | with_reducible rfl | (simp; done) | (simp; omega) | omega
  case hS4r => assumption
  try simp only [Act.put, List.setIfInBounds_toArray, List.set_cons_zero, List.set_cons_succ]
  refine wpAnyH_take (i := 5) (oi := ?oi5r) (v := ?v5r) ?hi5r ?hs5r ?hf5r ?hr5r ?hQ5r ?hy5r ?hS5r ?h5r
  case hi5r => exact (by simp only [List.getElem?_toArray, List.getElem?_cons_succ, List.getElem?_cons_zero]; rfl)
  case hs5r => kernel_rfl
  case hf5r => kernel_rfl
  case hr5r => kernel_rfl
  case hQ5r => exact fun _ _ _ h => h
  case hy5r =>
    refine Or.inl ⟨rfl, ?_⟩
    intro W hSw
    obtain ⟨q0, q1⟩ := hSw
    go_simp
    try with_reducible rfl
  case hS5r => assumption
  try simp only [Act.put, List.setIfInBounds_toArray, List.set_cons_zero, List.set_cons_succ]
  refine wpAnyH_take (i := 6) (oi := ?oi6r) (v := ?v6r) ?hi6r ?hs6r ?hf6r ?hr6r ?hQ6r ?hy6r ?hS6r ?h6r
  case hi6r => exact (by simp only [List.getElem?_toArray, List.getElem?_cons_succ, List.getElem?_cons_zero]; rfl)
  case hs6r => kernel_rfl
  case hf6r => kernel_rfl
  case hr6r => kernel_rfl
  case hQ6r => exact fun _ _ _ h => h
  case hy6r =>
    refine Or.inl ⟨rfl, ?_⟩
    intro W hSw
    obtain ⟨q0, q1⟩ := hSw
    go_simp
    try with_reducible rfl
  case hS6r => assumption
  try simp only [Act.put, List.setIfInBounds_toArray, List.set_cons_zero, List.set_cons_succ]
  refine wpAnyH_take (i := 7) (oi := ?oi7r) (v := ?v7r) ?hi7r ?hs7r ?hf7r ?hr7r ?hQ7r ?hy7r ?hS7r ?h7r
  case hi7r => exact (by simp only [List.getElem?_toArray, List.getElem?_cons_succ, List.getElem?_cons_zero]; rfl)
  case hs7r => kernel_rfl
  case hf7r => kernel_rfl
  case hr7r => kernel_rfl
  case hQ7r => exact fun _ _ _ h => h
  case hy7r =>
    refine Or.inl ⟨rfl, ?_⟩
    intro W hSw
    obtain ⟨q0, q1⟩ := hSw
    go_simp
    try with_reducible rfl
  case hS7r => assumption
  try simp only [Act.put, List.setIfInBounds_toArray, List.set_cons_zero, List.set_cons_succ]
  refine wpAnyH_take (i := 8) (oi := ?oi8r) (v := ?v8r) ?hi8r ?hs8r ?hf8r ?hr8r ?hQ8r ?hy8r ?hS8r ?h8r
  case hi8r => exact (by simp only [List.getElem?_toArray, List.getElem?_cons_succ, List.getElem?_cons_zero]; rfl)
  case hs8r => kernel_rfl
  case hf8r => kernel_rfl
  case hr8r => kernel_rfl
  case hQ8r => exact fun _ _ _ h => h
  case hy8r =>
    refine Or.inl ⟨rfl, ?_⟩
    intro W hSw
    obtain ⟨q0, q1⟩ := hSw
    go_simp
    try with_reducible rfl
  case hS8r => assumption
  try simp only [Act.put, List.setIfInBounds_toArray, List.set_cons_zero, List.set_cons_succ]
  refine wpAnyH_take (i := 9) (oi := ?oi9r) (v := (.int .i64 b)) ?hi9r ?hs9r ?hf9r ?hr9r ?hQ9r ?hy9r ?hS9r ?h9r
  case hi9r => exact (by simp only [List.getElem?_toArray, List.getElem?_cons_succ, List.getElem?_cons_zero]; rfl)
  case hs9r => kernel_rfl
  case hf9r => kernel_rfl
  case hr9r => kernel_rfl
  case hQ9r => exact fun _ _ _ h => h
  case hy9r =>
    refine Or.inl ⟨rfl, ?_⟩
    intro W hSw
    obtain ⟨q0, q1⟩ := hSw
    have z1 := HMAX.out
    go_simp
    all_goals first | with_reducible rfl | (simp; done) | (simp; omega) | omega
  case hS9r => assumption
  try simp only [Act.put, List.setIfInBounds_toArray, List.set_cons_zero, List.set_cons_succ]
  refine wpAnyH_take (i := 10) (oi := ?oi10r) (v := ?v10r) ?hi10r ?hs10r ?hf10r ?hr10r ?hQ10r ?hy10r ?hS10r ?h10r
  case hi10r => exact (by simp only [List.getElem?_toArray, List.getElem?_cons_succ, List.getElem?_cons_zero]; rfl)
  case hs10r => kernel_rfl
  case hf10r => kernel_rfl
  case hr10r => kernel_rfl
  case hQ10r => exact fun _ _ _ h => h
  case hy10r =>
    refine Or.inl ⟨rfl, ?_⟩
    intro W hSw
    obtain ⟨q0, q1⟩ := hSw
    go_simp
    try with_reducible rfl
  case hS10r => assumption
  try simp only [Act.put, List.setIfInBounds_toArray, List.set_cons_zero, List.set_cons_succ]
  refine wpAnyH_take (i := 11) (oi := ?oi11r) (v := ?v11r) ?hi11r ?hs11r ?hf11r ?hr11r ?hQ11r ?hy11r ?hS11r ?h11r
  case hi11r => exact (by simp only [List.getElem?_toArray, List.getElem?_cons_succ, List.getElem?_cons_zero]; rfl)
  case hs11r => kernel_rfl
  case hf11r => kernel_rfl
  case hr11r => kernel_rfl
  case hQ11r => exact fun _ _ _ h => h
  case hy11r =>
    refine Or.inl ⟨rfl, ?_⟩
    intro W hSw
    obtain ⟨q0, q1⟩ := hSw
    go_simp
    try with_reducible rfl
  case hS11r => assumption
  try simp only [Act.put, List.setIfInBounds_toArray, List.set_cons_zero, List.set_cons_succ]
  refine wpAnyH_done (by kernel_rfl) ?_ _
  obtain ⟨w1, hw1⟩ : ∃ W, W = Wr0 := ⟨_, rfl⟩
  rw [← hw1] at HDr ⊢
  clear hw1 hHeld
  have HP1 : Hid (w1.heap[w.heap.size]? = some (.cells (mC l s u) 23 (0, 0))) := (HDr.out.block _ (lt_of_block HP0.out)).trans HP0.out
  have HB1 : Hid (Below w.heap.size w w1) := HB0.out.trans (HDr.out.mono HB0.out.size)
  have c0 : w1.cell? ⟨w.heap.size, 0, none⟩ = some (.int .i64 l) := by rw [cell_of_row _ _ 0 _ _ _ HP1.out]; rfl
  have c1 : w1.cell? ⟨w.heap.size, 1, none⟩ = some (.int .i64 s) := by rw [cell_of_row _ _ 1 _ _ _ HP1.out]; rfl
  have c2 : w1.cell? ⟨w.heap.size, 2, none⟩ = some (.int .i64 u) := by rw [cell_of_row _ _ 2 _ _ _ HP1.out]; rfl
  go_wp2_with fail
  refine (own_any l s u _).mono ?_
  rintro e w2 ⟨rfl, hb2⟩
  have HB2 : Hid (Below w.heap.size w w2) := HB1.out.trans (hb2.mono HB1.out.size)
  clear hb2 c0 c1 c2
  go_upto_region 3 with (fail)
  obtain ⟨w3, hw3⟩ : ∃ w3, w3 = w2.alloc (.cells (mC l s u) 24) := ⟨_, rfl⟩
  rw [← hw3]
  obtain ⟨X, hX⟩ : ∃ X, X = w2.heap.size := ⟨_, rfl⟩
  have HQ3 : Hid (w3.heap[X]? = some (.cells (mC l s u) 24 (0, 0))) := by rw [hw3, hX]; exact heap_alloc_new w2 _
  have HB3 : Hid (Below w.heap.size w w3) := by rw [hw3]; exact HB2.out.alloc HB2.out.size _
  rw [← hX]
  clear hw3 hX
  have c0 : w3.cell? ⟨X, 0, none⟩ = some (.int .i64 l) := by rw [cell_of_row _ _ 0 _ _ _ HQ3.out]; rfl
  have c1 : w3.cell? ⟨X, 1, none⟩ = some (.int .i64 s) := by rw [cell_of_row _ _ 1 _ _ _ HQ3.out]; rfl
  have c2 : w3.cell? ⟨X, 2, none⟩ = some (.int .i64 u) := by rw [cell_of_row _ _ 2 _ _ _ HQ3.out]; rfl
  go_wp2_with fail
  refine (HA.out _).mono ?_
  rintro e w5 ⟨rfl, hb5⟩
  have HQ5 : Hid (w5.heap[X]? = some (.cells (mC l s u) 24 (0, 0))) := (hb5.block _ (lt_of_block HQ3.out)).trans HQ3.out
  have HB5 : Hid (Below w.heap.size w w5) := HB3.out.trans (hb5.mono HB3.out.size)
  clear hb5 c0 c1 c2
  go_upto_region 4 with (fail)
  obtain ⟨w6, hw6⟩ : ∃ w6, w6 = w5.alloc (.cells (mC y1 y2 y3) 24) := ⟨_, rfl⟩
  rw [← hw6]
  obtain ⟨Y, hY⟩ : ∃ Y, Y = w5.heap.size := ⟨_, rfl⟩
  have hq6 : w6.heap[Y]? = some (.cells (mC y1 y2 y3) 24 (0, 0)) := by rw [hw6, hY]; exact heap_alloc_new w5 _
  have hp6 : w6.heap[X]? = some (.cells (mC l s u) 24 (0, 0)) := by rw [hw6]; exact (Below.heap_alloc _ _ _ (lt_of_block HQ5.out)).trans HQ5.out
  have HB6 : Hid (Below w.heap.size w w6) := by rw [hw6]; exact HB5.out.alloc HB5.out.size _
  have HBS : Hid (Below w6.heap.size w6 w6) := Below.refl _ _
  rw [← hY]
  clear hw6 hY
  have HCE : Hid (∀ W, Below w6.heap.size w6 W → W.cell? ⟨Y, 0, none⟩ = some (.int .i64 y1) ∧ W.cell? ⟨Y, 1, none⟩ = some (.int .i64 y2) ∧ W.cell? ⟨Y, 2, none⟩ = some (.int .i64 y3) ∧ W.cell? ⟨X, 0, none⟩ = some (.int .i64 l) ∧ W.cell? ⟨X, 1, none⟩ = some (.int .i64 s) ∧ W.cell? ⟨X, 2, none⟩ = some (.int .i64 u)) := fun W hW => by
    have e1 := (hW.block _ (lt_of_block hq6)).trans hq6
    have e2 := (hW.block _ (lt_of_block hp6)).trans hp6
    exact ⟨cell_of_row W _ 0 _ _ _ e1, cell_of_row W _ 1 _ _ _ e1, cell_of_row W _ 2 _ _ _ e1, cell_of_row W _ 0 _ _ _ e2, cell_of_row W _ 1 _ _ _ e2, cell_of_row W _ 2 _ _ _ e2⟩
  have HBW : Hid (∀ W, Below w6.heap.size w6 W → Below w.heap.size w W) := fun W hW => HB6.out.trans (hW.mono HB6.out.size)
  clear hq6 hp6
  by_cases hy0 : y3 = 0
  · have HG : Hid ((y3 == 0) = true) := by show _ = _; rw [hy0]; rfl
    clear hk hy0
    have HDp : Hid (Below w6.heap.size w6 w6.drew) := HBS.out.drew
    refine wp_region_held_drew (S := fun W : World => W.cell? ⟨Y, 0, none⟩ = some (.int .i64 y1) ∧ W.cell? ⟨Y, 1, none⟩ = some (.int .i64 y2) ∧ W.cell? ⟨Y, 2, none⟩ = some (.int .i64 y3) ∧ W.cell? ⟨X, 0, none⟩ = some (.int .i64 l) ∧ W.cell? ⟨X, 1, none⟩ = some (.int .i64 s) ∧ W.cell? ⟨X, 2, none⟩ = some (.int .i64 u)) (by kernel_rfl) (HCE.out _ HDp.out) (fun hHeld => ?_)
    obtain ⟨Wp0, hW0⟩ : ∃ W0, W0 = w6.drew := ⟨_, rfl⟩
    rw [← hW0] at hHeld HDp ⊢
    clear hW0
    refine wpAnyH_take (i := 0) (oi := ?oi0p) (v := ?v0p) ?hi0p ?hs0p ?hf0p ?hr0p ?hQ0p ?hy0p ?hS0p ?h0p
    case hi0p => exact (by simp only [List.getElem?_toArray, List.getElem?_cons_zero]; rfl)
    case hs0p => kernel_rfl
    case hf0p => kernel_rfl
    case hr0p => kernel_rfl
    case hQ0p => exact fun _ _ _ h => h
    case hy0p =>
      refine Or.inl ⟨rfl, ?_⟩
      intro W hSw
      obtain ⟨q0, q1, q2, q3, q4, q5⟩ := hSw
      go_simp
      try with_reducible rfl
    case hS0p => assumption
    try simp only [Act.put, List.setIfInBounds_toArray, List.set_cons_zero, List.set_cons_succ]
    refine wpAnyH_take (i := 1) (oi := ?oi1p) (v := ?v1p) ?hi1p ?hs1p ?hf1p ?hr1p ?hQ1p ?hy1p ?hS1p ?h1p
    case hi1p => exact (by simp only [List.getElem?_toArray, List.getElem?_cons_succ, List.getElem?_cons_zero]; rfl)
    case hs1p => kernel_rfl
    case hf1p => kernel_rfl
    case hr1p => kernel_rfl
    case hQ1p => exact fun _ _ _ h => h
    case hy1p =>
      refine Or.inl ⟨rfl, ?_⟩
      intro W hSw
      obtain ⟨q0, q1, q2, q3, q4, q5⟩ := hSw
      go_simp
      try with_reducible rfl
    case hS1p => assumption
    try simp only [Act.put, List.setIfInBounds_toArray, List.set_cons_zero, List.set_cons_succ]
    refine wpAnyH_take (i := 3) (oi := ?oi3p) (v := ?v3p) ?hi3p ?hs3p ?hf3p ?hr3p ?hQ3p ?hy3p ?hS3p ?h3p
    case hi3p => exact (by simp only [List.getElem?_toArray, List.getElem?_cons_succ, List.getElem?_cons_zero]; rfl)
    case hs3p => kernel_rfl
    case hf3p => kernel_rfl
    case hr3p => kernel_rfl
    case hQ3p => exact fun _ _ _ h => h
    case hy3p =>
      refine Or.inl ⟨rfl, ?_⟩
      intro W hSw
      obtain ⟨q0, q1, q2, q3, q4, q5⟩ := hSw
      go_simp
      try with_reducible rfl
    case hS3p => assumption
    try simp only [Act.put, List.setIfInBounds_toArray, List.set_cons_zero, List.set_cons_succ]
    refine wpAnyH_take (i := 4) (oi := ?oi4p) (v := ?v4p) ?hi4p ?hs4p ?hf4p ?hr4p ?hQ4p ?hy4p ?hS4p ?h4p
    case hi4p => exact (by simp only [List.getElem?_toArray, List.getElem?_cons_succ, List.getElem?_cons_zero]; rfl)
    case hs4p => kernel_rfl
    case hf4p => kernel_rfl
    case hr4p => kernel_rfl
    case hQ4p => exact fun _ _ _ h => h
    case hy4p =>
      refine Or.inl ⟨rfl, ?_⟩
      intro W hSw
      obtain ⟨q0, q1, q2, q3, q4, q5⟩ := hSw
      go_simp
      try with_reducible rfl
    case hS4p => assumption
    try simp only [Act.put, List.setIfInBounds_toArray, List.set_cons_zero, List.set_cons_succ]
    refine wpAnyH_ready (rs := [2]) (by kernel_rfl) (by simp) ?_
    refine AllReadyH.cons (o := _) rfl (fun K hK => ?_) AllReadyH.nil
    go_simp
    refine (HYB.out Wp0).mono ?_
    rintro r Wp1 ⟨rfl, hbq⟩
    have HBp1 := Lib.hid (HDp.out.trans (hbq.mono HDp.out.size))
    clear hbq
    refine hK.out _ _ (HCE.out _ HBp1.out) (fun hHeld => ?_)
    clear hK K
    try simp only [Act.put, List.setIfInBounds_toArray, List.set_cons_zero, List.set_cons_succ]
    refine wpAnyH_ready (rs := [5]) (by kernel_rfl) (by simp) ?_
    refine AllReadyH.cons (o := _) rfl (fun K hK => ?_) AllReadyH.nil
    go_simp
    refine (HXB.out Wp1).mono ?_
    rintro r Wp2 ⟨rfl, hbq⟩
    have HBp2 := Lib.hid (HBp1.out.trans (hbq.mono HBp1.out.size))
    clear hbq
    refine hK.out _ _ (HCE.out _ HBp2.out) (fun hHeld => ?_)
    clear hK K
    try simp only [Act.put, List.setIfInBounds_toArray, List.set_cons_zero, List.set_cons_succ]
    refine wpAnyH_take (i := 6) (oi := ?oi6p) (v := (.bool true)) ?hi6p ?hs6p ?hf6p ?hr6p ?hQ6p ?hy6p ?hS6p ?h6p
    case hi6p => exact (by simp only [List.getElem?_toArray, List.getElem?_cons_succ, List.getElem?_cons_zero]; rfl)
    case hs6p => kernel_rfl
    case hf6p => kernel_rfl
    case hr6p => kernel_rfl
    case hQ6p => exact fun _ _ _ h => h
    case hy6p =>
      refine Or.inl ⟨rfl, ?_⟩
      intro W hSw
      obtain ⟨q0, q1, q2, q3, q4, q5⟩ := hSw
      go_simp
      all_goals first | with_reducible rfl | (simp; done) | (simp; omega) | omega
    case hS6p => assumption
    try simp only [Act.put, List.setIfInBounds_toArray, List.set_cons_zero, List.set_cons_succ]
    refine wpAnyH_take (i := 7) (oi := ?oi7p) (v := ?v7p) ?hi7p ?hs7p ?hf7p ?hr7p ?hQ7p ?hy7p ?hS7p ?h7p
    case hi7p => exact (by simp only [List.getElem?_toArray, List.getElem?_cons_succ, List.getElem?_cons_zero]; rfl)
    case hs7p => kernel_rfl
    case hf7p => kernel_rfl
    case hr7p => kernel_rfl
    case hQ7p => exact fun _ _ _ h => h
    case hy7p =>
      refine Or.inl ⟨rfl, ?_⟩
      intro W hSw
      obtain ⟨q0, q1, q2, q3, q4, q5⟩ := hSw
      go_simp
      try with_reducible rfl
    case hS7p => assumption
    try simp only [Act.put, List.setIfInBounds_toArray, List.set_cons_zero, List.set_cons_succ]
    refine wpAnyH_take (i := 8) (oi := ?oi8p) (v := ?v8p) ?hi8p ?hs8p ?hf8p ?hr8p ?hQ8p ?hy8p ?hS8p ?h8p
    case hi8p => exact (by simp only [List.getElem?_toArray, List.getElem?_cons_succ, List.getElem?_cons_zero]; rfl)
    case hs8p => kernel_rfl
    case hf8p => kernel_rfl
    case hr8p => kernel_rfl
    case hQ8p => exact fun _ _ _ h => h
    case hy8p =>
      refine Or.inl ⟨rfl, ?_⟩
      intro W hSw
      obtain ⟨q0, q1, q2, q3, q4, q5⟩ := hSw
      go_simp
      try with_reducible rfl
    case hS8p => assumption
    try simp only [Act.put, List.setIfInBounds_toArray, List.set_cons_zero, List.set_cons_succ]
    refine wpAnyH_take (i := 9) (oi := ?oi9p) (v := ?v9p) ?hi9p ?hs9p ?hf9p ?hr9p ?hQ9p ?hy9p ?hS9p ?h9p
    case hi9p => exact (by simp only [List.getElem?_toArray, List.getElem?_cons_succ, List.getElem?_cons_zero]; rfl)
    case hs9p => kernel_rfl
    case hf9p => kernel_rfl
    case hr9p => kernel_rfl
    case hQ9p => exact fun _ _ _ h => h
    case hy9p =>
      refine Or.inl ⟨rfl, ?_⟩
      intro W hSw
      obtain ⟨q0, q1, q2, q3, q4, q5⟩ := hSw
      go_simp
      try with_reducible rfl
    case hS9p => assumption
    try simp only [Act.put, List.setIfInBounds_toArray, List.set_cons_zero, List.set_cons_succ]
    refine wpAnyH_take (i := 11) (oi := ?oi11p) (v := ?v11p) ?hi11p ?hs11p ?hf11p ?hr11p ?hQ11p ?hy11p ?hS11p ?h11p
    case hi11p => exact (by simp only [List.getElem?_toArray, List.getElem?_cons_succ, List.getElem?_cons_zero]; rfl)
    case hs11p => kernel_rfl
    case hf11p => kernel_rfl
    case hr11p => kernel_rfl
    case hQ11p => exact fun _ _ _ h => h
    case hy11p =>
      refine Or.inl ⟨rfl, ?_⟩
      intro W hSw
      obtain ⟨q0, q1, q2, q3, q4, q5⟩ := hSw
      go_simp
      try with_reducible rfl
    case hS11p => assumption
    try simp only [Act.put, List.setIfInBounds_toArray, List.set_cons_zero, List.set_cons_succ]
    refine wpAnyH_ready (rs := [10]) (by kernel_rfl) (by simp) ?_
    refine AllReadyH.cons (o := _) rfl (fun K hK => ?_) AllReadyH.nil
    go_simp
    refine (HYA.out Wp2).mono ?_
    rintro r Wp3 ⟨rfl, hbq⟩
    have HBp3 := Lib.hid (HBp2.out.trans (hbq.mono HBp2.out.size))
    clear hbq
    refine hK.out _ _ (HCE.out _ HBp3.out) (fun hHeld => ?_)
    clear hK K
    try simp only [Act.put, List.setIfInBounds_toArray, List.set_cons_zero, List.set_cons_succ]
    refine wpAnyH_take (i := 12) (oi := ?oi12p) (v := (.bool true)) ?hi12p ?hs12p ?hf12p ?hr12p ?hQ12p ?hy12p ?hS12p ?h12p
    case hi12p => exact (by simp only [List.getElem?_toArray, List.getElem?_cons_succ, List.getElem?_cons_zero]; rfl)
    case hs12p => kernel_rfl
    case hf12p => kernel_rfl
    case hr12p => kernel_rfl
    case hQ12p => exact fun _ _ _ h => h
    case hy12p =>
      refine Or.inl ⟨rfl, ?_⟩
      intro W hSw
      obtain ⟨q0, q1, q2, q3, q4, q5⟩ := hSw
      go_simp
      all_goals first | with_reducible rfl | (simp; done) | (simp; omega) | omega
    case hS12p => assumption
    try simp only [Act.put, List.setIfInBounds_toArray, List.set_cons_zero, List.set_cons_succ]
    refine wpAnyH_take (i := 13) (oi := ?oi13p) (v := (.bool true)) ?hi13p ?hs13p ?hf13p ?hr13p ?hQ13p ?hy13p ?hS13p ?h13p
    case hi13p => exact (by simp only [List.getElem?_toArray, List.getElem?_cons_succ, List.getElem?_cons_zero]; rfl)
    case hs13p => kernel_rfl
    case hf13p => kernel_rfl
    case hr13p => kernel_rfl
    case hQ13p => exact fun _ _ _ h => h
    case hy13p =>
      refine Or.inl ⟨rfl, ?_⟩
      intro W hSw
      obtain ⟨q0, q1, q2, q3, q4, q5⟩ := hSw
      go_simp
      try with_reducible rfl
    case hS13p => assumption
    try simp only [Act.put, List.setIfInBounds_toArray, List.set_cons_zero, List.set_cons_succ]
    refine wpAnyH_take (i := 14) (oi := ?oi14p) (v := ?v14p) ?hi14p ?hs14p ?hf14p ?hr14p ?hQ14p ?hy14p ?hS14p ?h14p
    case hi14p => exact (by simp only [List.getElem?_toArray, List.getElem?_cons_succ, List.getElem?_cons_zero]; rfl)
    case hs14p => kernel_rfl
    case hf14p => kernel_rfl
    case hr14p => kernel_rfl
    case hQ14p => exact fun _ _ _ h => h
    case hy14p =>
      refine Or.inl ⟨rfl, ?_⟩
      intro W hSw
      obtain ⟨q0, q1, q2, q3, q4, q5⟩ := hSw
      go_simp
      try with_reducible rfl
    case hS14p => assumption
    try simp only [Act.put, List.setIfInBounds_toArray, List.set_cons_zero, List.set_cons_succ]
    refine wpAnyH_take (i := 15) (oi := ?oi15p) (v := ?v15p) ?hi15p ?hs15p ?hf15p ?hr15p ?hQ15p ?hy15p ?hS15p ?h15p
    case hi15p => exact (by simp only [List.getElem?_toArray, List.getElem?_cons_succ, List.getElem?_cons_zero]; rfl)
    case hs15p => kernel_rfl
    case hf15p => kernel_rfl
    case hr15p => kernel_rfl
    case hQ15p => exact fun _ _ _ h => h
    case hy15p =>
      refine Or.inl ⟨rfl, ?_⟩
      intro W hSw
      obtain ⟨q0, q1, q2, q3, q4, q5⟩ := hSw
      go_simp
      try with_reducible rfl
    case hS15p => assumption
    try simp only [Act.put, List.setIfInBounds_toArray, List.set_cons_zero, List.set_cons_succ]
    refine wpAnyH_take (i := 16) (oi := ?oi16p) (v := ?v16p) ?hi16p ?hs16p ?hf16p ?hr16p ?hQ16p ?hy16p ?hS16p ?h16p
    case hi16p => exact (by simp only [List.getElem?_toArray, List.getElem?_cons_succ, List.getElem?_cons_zero]; rfl)
    case hs16p => kernel_rfl
    case hf16p => kernel_rfl
    case hr16p => kernel_rfl
    case hQ16p => exact fun _ _ _ h => h
    case hy16p =>
      refine Or.inl ⟨rfl, ?_⟩
      intro W hSw
      obtain ⟨q0, q1, q2, q3, q4, q5⟩ := hSw
      go_simp
      try with_reducible rfl
    case hS16p => assumption
    try simp only [Act.put, List.setIfInBounds_toArray, List.set_cons_zero, List.set_cons_succ]
    refine wpAnyH_take (i := 18) (oi := ?oi18p) (v := ?v18p) ?hi18p ?hs18p ?hf18p ?hr18p ?hQ18p ?hy18p ?hS18p ?h18p
    case hi18p => exact (by simp only [List.getElem?_toArray, List.getElem?_cons_succ, List.getElem?_cons_zero]; rfl)
    case hs18p => kernel_rfl
    case hf18p => kernel_rfl
    case hr18p => kernel_rfl
    case hQ18p => exact fun _ _ _ h => h
    case hy18p =>
      refine Or.inl ⟨rfl, ?_⟩
      intro W hSw
      obtain ⟨q0, q1, q2, q3, q4, q5⟩ := hSw
      go_simp
      try with_reducible rfl
    case hS18p => assumption
    try simp only [Act.put, List.setIfInBounds_toArray, List.set_cons_zero, List.set_cons_succ]
    refine wpAnyH_take (i := 19) (oi := ?oi19p) (v := ?v19p) ?hi19p ?hs19p ?hf19p ?hr19p ?hQ19p ?hy19p ?hS19p ?h19p
    case hi19p => exact (by simp only [List.getElem?_toArray, List.getElem?_cons_succ, List.getElem?_cons_zero]; rfl)
    case hs19p => kernel_rfl
    case hf19p => kernel_rfl
    case hr19p => kernel_rfl
    case hQ19p => exact fun _ _ _ h => h
    case hy19p =>
      refine Or.inl ⟨rfl, ?_⟩
      intro W hSw
      obtain ⟨q0, q1, q2, q3, q4, q5⟩ := hSw
      go_simp
      try with_reducible rfl
    case hS19p => assumption
    try simp only [Act.put, List.setIfInBounds_toArray, List.set_cons_zero, List.set_cons_succ]
    refine wpAnyH_ready (rs := [17]) (by kernel_rfl) (by simp) ?_
    refine AllReadyH.cons (o := _) rfl (fun K hK => ?_) AllReadyH.nil
    go_simp
    refine (HHY.out Wp3 (HBW.out _ HBp3.out)).mono ?_
    rintro r Wp4 ⟨rfl, hbq⟩
    have HBp4 := Lib.hid (HBp3.out.trans (hbq.mono HBp3.out.size))
    clear hbq
    refine hK.out _ _ (HCE.out _ HBp4.out) (fun hHeld => ?_)
    clear hK K
    try simp only [Act.put, List.setIfInBounds_toArray, List.set_cons_zero, List.set_cons_succ]
    refine wpAnyH_ready (rs := [20]) (by kernel_rfl) (by simp) ?_
    refine AllReadyH.cons (o := _) rfl (fun K hK => ?_) AllReadyH.nil
    go_simp
    refine (HHX.out Wp4 (HBW.out _ HBp4.out)).mono ?_
    rintro r Wp5 ⟨rfl, hbq⟩
    have HBp5 := Lib.hid (HBp4.out.trans (hbq.mono HBp4.out.size))
    clear hbq
    refine hK.out _ _ (HCE.out _ HBp5.out) (fun hHeld => ?_)
    clear hK K
    try simp only [Act.put, List.setIfInBounds_toArray, List.set_cons_zero, List.set_cons_succ]
    refine wpAnyH_take (i := 21) (oi := ?oi21p) (v := (.bool true)) ?hi21p ?hs21p ?hf21p ?hr21p ?hQ21p ?hy21p ?hS21p ?h21p
    case hi21p => exact (by simp only [List.getElem?_toArray, List.getElem?_cons_succ, List.getElem?_cons_zero]; rfl)
    case hs21p => kernel_rfl
    case hf21p => kernel_rfl
    case hr21p => kernel_rfl
    case hQ21p => exact fun _ _ _ h => h
    case hy21p =>
      refine Or.inl ⟨rfl, ?_⟩
      intro W hSw
      obtain ⟨q0, q1, q2, q3, q4, q5⟩ := hSw
      go_simp
      all_goals first | with_reducible rfl | (simp; done) | (simp; omega) | omega
    case hS21p => assumption
    try simp only [Act.put, List.setIfInBounds_toArray, List.set_cons_zero, List.set_cons_succ]
    refine wpAnyH_take (i := 22) (oi := ?oi22p) (v := (.bool true)) ?hi22p ?hs22p ?hf22p ?hr22p ?hQ22p ?hy22p ?hS22p ?h22p
    case hi22p => exact (by simp only [List.getElem?_toArray, List.getElem?_cons_succ, List.getElem?_cons_zero]; rfl)
    case hs22p => kernel_rfl
    case hf22p => kernel_rfl
    case hr22p => kernel_rfl
    case hQ22p => exact fun _ _ _ h => h
    case hy22p =>
      refine Or.inl ⟨rfl, ?_⟩
      intro W hSw
      obtain ⟨q0, q1, q2, q3, q4, q5⟩ := hSw
      go_simp
      try with_reducible rfl
    case hS22p => assumption
    try simp only [Act.put, List.setIfInBounds_toArray, List.set_cons_zero, List.set_cons_succ]
    refine wpAnyH_take (i := 23) (oi := ?oi23p) (v := ?v23p) ?hi23p ?hs23p ?hf23p ?hr23p ?hQ23p ?hy23p ?hS23p ?h23p
    case hi23p => exact (by simp only [List.getElem?_toArray, List.getElem?_cons_succ, List.getElem?_cons_zero]; rfl)
    case hs23p => kernel_rfl
    case hf23p => kernel_rfl
    case hr23p => kernel_rfl
    case hQ23p => exact fun _ _ _ h => h
    case hy23p =>
      refine Or.inl ⟨rfl, ?_⟩
      intro W hSw
      obtain ⟨q0, q1, q2, q3, q4, q5⟩ := hSw
      go_simp
      try with_reducible rfl
    case hS23p => assumption
    try simp only [Act.put, List.setIfInBounds_toArray, List.set_cons_zero, List.set_cons_succ]
    refine wpAnyH_take (i := 24) (oi := ?oi24p) (v := ?v24p) ?hi24p ?hs24p ?hf24p ?hr24p ?hQ24p ?hy24p ?hS24p ?h24p
    case hi24p => exact (by simp only [List.getElem?_toArray, List.getElem?_cons_succ, List.getElem?_cons_zero]; rfl)
    case hs24p => kernel_rfl
    case hf24p => kernel_rfl
    case hr24p => kernel_rfl
    case hQ24p => exact fun _ _ _ h => h
    case hy24p =>
      refine Or.inl ⟨rfl, ?_⟩
      intro W hSw
      obtain ⟨q0, q1, q2, q3, q4, q5⟩ := hSw
      go_simp
      try with_reducible rfl
    case hS24p => assumption
    try simp only [Act.put, List.setIfInBounds_toArray, List.set_cons_zero, List.set_cons_succ]
    refine wpAnyH_take (i := 25) (oi := ?oi25p) (v := ?v25p) ?hi25p ?hs25p ?hf25p ?hr25p ?hQ25p ?hy25p ?hS25p ?h25p
    case hi25p => exact (by simp only [List.getElem?_toArray, List.getElem?_cons_succ, List.getElem?_cons_zero]; rfl)
    case hs25p => kernel_rfl
    case hf25p => kernel_rfl
    case hr25p => kernel_rfl
    case hQ25p => exact fun _ _ _ h => h
    case hy25p =>
      refine Or.inl ⟨rfl, ?_⟩
      intro W hSw
      obtain ⟨q0, q1, q2, q3, q4, q5⟩ := hSw
      go_simp
      try with_reducible rfl
    case hS25p => assumption
    try simp only [Act.put, List.setIfInBounds_toArray, List.set_cons_zero, List.set_cons_succ]
    refine wpAnyH_take (i := 26) (oi := ?oi26p) (v := (.bool true)) ?hi26p ?hs26p ?hf26p ?hr26p ?hQ26p ?hy26p ?hS26p ?h26p
    case hi26p => exact (by simp only [List.getElem?_toArray, List.getElem?_cons_succ, List.getElem?_cons_zero]; rfl)
    case hs26p => kernel_rfl
    case hf26p => kernel_rfl
    case hr26p => kernel_rfl
    case hQ26p => exact fun _ _ _ h => h
    case hy26p =>
      refine Or.inl ⟨rfl, ?_⟩
      intro W hSw
      obtain ⟨q0, q1, q2, q3, q4, q5⟩ := hSw
      have z1 := HG.out
      go_simp
      all_goals first | with_reducible rfl | (simp; done) | (simp; omega) | omega
    case hS26p => assumption
    try simp only [Act.put, List.setIfInBounds_toArray, List.set_cons_zero, List.set_cons_succ]
    refine wpAnyH_take (i := 27) (oi := ?oi27p) (v := ?v27p) ?hi27p ?hs27p ?hf27p ?hr27p ?hQ27p ?hy27p ?hS27p ?h27p
    case hi27p => exact (by simp only [List.getElem?_toArray, List.getElem?_cons_succ, List.getElem?_cons_zero]; rfl)
    case hs27p => kernel_rfl
    case hf27p => kernel_rfl
    case hr27p => kernel_rfl
    case hQ27p => exact fun _ _ _ h => h
    case hy27p =>
      refine Or.inl ⟨rfl, ?_⟩
      intro W hSw
      obtain ⟨q0, q1, q2, q3, q4, q5⟩ := hSw
      go_simp
      try with_reducible rfl
    case hS27p => assumption
    try simp only [Act.put, List.setIfInBounds_toArray, List.set_cons_zero, List.set_cons_succ]
    refine wpAnyH_take (i := 28) (oi := ?oi28p) (v := undef) ?hi28p ?hs28p ?hf28p ?hr28p ?hQ28p ?hy28p ?hS28p ?h28p
    case hi28p => exact (by simp only [List.getElem?_toArray, List.getElem?_cons_succ, List.getElem?_cons_zero]; rfl)
    case hs28p => kernel_rfl
    case hf28p => kernel_rfl
    case hr28p => kernel_rfl
    case hQ28p => exact fun _ _ _ h => h
    case hy28p =>
      exact Or.inr ⟨rfl, rfl⟩
    case hS28p => assumption
    try simp only [Act.put, List.setIfInBounds_toArray, List.set_cons_zero, List.set_cons_succ]
    refine wpAnyH_take (i := 29) (oi := ?oi29p) (v := undef) ?hi29p ?hs29p ?hf29p ?hr29p ?hQ29p ?hy29p ?hS29p ?h29p
    case hi29p => exact (by simp only [List.getElem?_toArray, List.getElem?_cons_succ, List.getElem?_cons_zero]; rfl)
    case hs29p => kernel_rfl
    case hf29p => kernel_rfl
    case hr29p => kernel_rfl
    case hQ29p => exact fun _ _ _ h => h
    case hy29p =>
      exact Or.inr ⟨rfl, rfl⟩
    case hS29p => assumption
    try simp only [Act.put, List.setIfInBounds_toArray, List.set_cons_zero, List.set_cons_succ]
    refine wpAnyH_take (i := 30) (oi := ?oi30p) (v := undef) ?hi30p ?hs30p ?hf30p ?hr30p ?hQ30p ?hy30p ?hS30p ?h30p
    case hi30p => exact (by simp only [List.getElem?_toArray, List.getElem?_cons_succ, List.getElem?_cons_zero]; rfl)
    case hs30p => kernel_rfl
    case hf30p => kernel_rfl
    case hr30p => kernel_rfl
    case hQ30p => exact fun _ _ _ h => h
    case hy30p =>
      exact Or.inr ⟨rfl, rfl⟩
    case hS30p => assumption
    try simp only [Act.put, List.setIfInBounds_toArray, List.set_cons_zero, List.set_cons_succ]
    refine wpAnyH_take (i := 31) (oi := ?oi31p) (v := undef) ?hi31p ?hs31p ?hf31p ?hr31p ?hQ31p ?hy31p ?hS31p ?h31p
    case hi31p => exact (by simp only [List.getElem?_toArray, List.getElem?_cons_succ, List.getElem?_cons_zero]; rfl)
    case hs31p => kernel_rfl
    case hf31p => kernel_rfl
    case hr31p => kernel_rfl
    case hQ31p => exact fun _ _ _ h => h
    case hy31p =>
      exact Or.inr ⟨rfl, rfl⟩
    case hS31p => assumption
    try simp only [Act.put, List.setIfInBounds_toArray, List.set_cons_zero, List.set_cons_succ]
    refine wpAnyH_take (i := 32) (oi := ?oi32p) (v := undef) ?hi32p ?hs32p ?hf32p ?hr32p ?hQ32p ?hy32p ?hS32p ?h32p
    case hi32p => exact (by simp only [List.getElem?_toArray, List.getElem?_cons_succ, List.getElem?_cons_zero]; rfl)
    case hs32p => kernel_rfl
    case hf32p => kernel_rfl
    case hr32p => kernel_rfl
    case hQ32p => exact fun _ _ _ h => h
    case hy32p =>
      exact Or.inr ⟨rfl, rfl⟩
    case hS32p => assumption
    try simp only [Act.put, List.setIfInBounds_toArray, List.set_cons_zero, List.set_cons_succ]
    refine wpAnyH_take (i := 33) (oi := ?oi33p) (v := undef) ?hi33p ?hs33p ?hf33p ?hr33p ?hQ33p ?hy33p ?hS33p ?h33p
    case hi33p => exact (by simp only [List.getElem?_toArray, List.getElem?_cons_succ, List.getElem?_cons_zero]; rfl)
    case hs33p => kernel_rfl
    case hf33p => kernel_rfl
    case hr33p => kernel_rfl
    case hQ33p => exact fun _ _ _ h => h
    case hy33p =>
      exact Or.inr ⟨rfl, rfl⟩
    case hS33p => assumption
    try simp only [Act.put, List.setIfInBounds_toArray, List.set_cons_zero, List.set_cons_succ]
    refine wpAnyH_take (i := 34) (oi := ?oi34p) (v := undef) ?hi34p ?hs34p ?hf34p ?hr34p ?hQ34p ?hy34p ?hS34p ?h34p
    case hi34p => exact (by simp only [List.getElem?_toArray, List.getElem?_cons_succ, List.getElem?_cons_zero]; rfl)
    case hs34p => kernel_rfl
    case hf34p => kernel_rfl
    case hr34p => kernel_rfl
    case hQ34p => exact fun _ _ _ h => h
    case hy34p =>
      exact Or.inr ⟨rfl, rfl⟩
    case hS34p => assumption
    try simp only [Act.put, List.setIfInBounds_toArray, List.set_cons_zero, List.set_cons_succ]
    refine wpAnyH_take (i := 35) (oi := ?oi35p) (v := (.bool true)) ?hi35p ?hs35p ?hf35p ?hr35p ?hQ35p ?hy35p ?hS35p ?h35p
    case hi35p => exact (by simp only [List.getElem?_toArray, List.getElem?_cons_succ, List.getElem?_cons_zero]; rfl)
    case hs35p => kernel_rfl
    case hf35p => kernel_rfl
    case hr35p => kernel_rfl
    case hQ35p => exact fun _ _ _ h => h
    case hy35p =>
      refine Or.inl ⟨rfl, ?_⟩
      intro W hSw
      obtain ⟨q0, q1, q2, q3, q4, q5⟩ := hSw
      go_simp
      try with_reducible rfl
    case hS35p => assumption
    try simp only [Act.put, List.setIfInBounds_toArray, List.set_cons_zero, List.set_cons_succ]
    refine wpAnyH_take (i := 36) (oi := ?oi36p) (v := (.bool true)) ?hi36p ?hs36p ?hf36p ?hr36p ?hQ36p ?hy36p ?hS36p ?h36p
    case hi36p => exact (by simp only [List.getElem?_toArray, List.getElem?_cons_succ, List.getElem?_cons_zero]; rfl)
    case hs36p => kernel_rfl
    case hf36p => kernel_rfl
    case hr36p => kernel_rfl
    case hQ36p => exact fun _ _ _ h => h
    case hy36p =>
      refine Or.inl ⟨rfl, ?_⟩
      intro W hSw
      obtain ⟨q0, q1, q2, q3, q4, q5⟩ := hSw
      go_simp
      try with_reducible rfl
    case hS36p => assumption
    try simp only [Act.put, List.setIfInBounds_toArray, List.set_cons_zero, List.set_cons_succ]
    refine wpAnyH_take (i := 37) (oi := ?oi37p) (v := ?v37p) ?hi37p ?hs37p ?hf37p ?hr37p ?hQ37p ?hy37p ?hS37p ?h37p
    case hi37p => exact (by simp only [List.getElem?_toArray, List.getElem?_cons_succ, List.getElem?_cons_zero]; rfl)
    case hs37p => kernel_rfl
    case hf37p => kernel_rfl
    case hr37p => kernel_rfl
    case hQ37p => exact fun _ _ _ h => h
    case hy37p =>
      refine Or.inl ⟨rfl, ?_⟩
      intro W hSw
      obtain ⟨q0, q1, q2, q3, q4, q5⟩ := hSw
      go_simp
      try with_reducible rfl
    case hS37p => assumption
    try simp only [Act.put, List.setIfInBounds_toArray, List.set_cons_zero, List.set_cons_succ]
    refine wpAnyH_ready (rs := [38]) (by kernel_rfl) (by simp) ?_
    refine AllReadyH.cons (o := _) rfl (fun K hK => ?_) AllReadyH.nil
    go_simp
    refine (HW.out Wp5 (HBW.out _ HBp5.out)).mono ?_
    rintro r Wp6 ⟨rfl, hbq⟩
    have HBp6 := Lib.hid (HBp5.out.trans (hbq.mono HBp5.out.size))
    clear hbq
    refine hK.out _ _ (HCE.out _ HBp6.out) (fun hHeld => ?_)
    clear hK K
    try simp only [Act.put, List.setIfInBounds_toArray, List.set_cons_zero, List.set_cons_succ]
    refine wpAnyH_take (i := 39) (oi := ?oi39p) (v := (.bool true)) ?hi39p ?hs39p ?hf39p ?hr39p ?hQ39p ?hy39p ?hS39p ?h39p
    case hi39p => exact (by simp only [List.getElem?_toArray, List.getElem?_cons_succ, List.getElem?_cons_zero]; rfl)
    case hs39p => kernel_rfl
    case hf39p => kernel_rfl
    case hr39p => kernel_rfl
    case hQ39p => exact fun _ _ _ h => h
    case hy39p =>
      refine Or.inl ⟨rfl, ?_⟩
      intro W hSw
      obtain ⟨q0, q1, q2, q3, q4, q5⟩ := hSw
      go_simp
      try with_reducible rfl
    case hS39p => assumption
    try simp only [Act.put, List.setIfInBounds_toArray, List.set_cons_zero, List.set_cons_succ]
    refine wpAnyH_take (i := 40) (oi := ?oi40p) (v := ?v40p) ?hi40p ?hs40p ?hf40p ?hr40p ?hQ40p ?hy40p ?hS40p ?h40p
    case hi40p => exact (by simp only [List.getElem?_toArray, List.getElem?_cons_succ, List.getElem?_cons_zero]; rfl)
    case hs40p => kernel_rfl
    case hf40p => kernel_rfl
    case hr40p => kernel_rfl
    case hQ40p => exact fun _ _ _ h => h
    case hy40p =>
      refine Or.inl ⟨rfl, ?_⟩
      intro W hSw
      obtain ⟨q0, q1, q2, q3, q4, q5⟩ := hSw
      go_simp
      try with_reducible rfl
    case hS40p => assumption
    try simp only [Act.put, List.setIfInBounds_toArray, List.set_cons_zero, List.set_cons_succ]
    refine wpAnyH_done (by kernel_rfl) ?_ _
    try go_wp2
    go_ret
    exact ⟨rfl, HBW.out _ HBp6.out⟩
  · have HG : Hid ((y3 == 0) = false) := by show _ = _; simpa using hy0
    have HFY2 := Lib.hid (HFY.out (hk.resolve_left hy0))
    clear hk hy0
    have HDq : Hid (Below w6.heap.size w6 w6.drew) := HBS.out.drew
    refine wp_region_held_drew (S := fun W : World => W.cell? ⟨Y, 0, none⟩ = some (.int .i64 y1) ∧ W.cell? ⟨Y, 1, none⟩ = some (.int .i64 y2) ∧ W.cell? ⟨Y, 2, none⟩ = some (.int .i64 y3) ∧ W.cell? ⟨X, 0, none⟩ = some (.int .i64 l) ∧ W.cell? ⟨X, 1, none⟩ = some (.int .i64 s) ∧ W.cell? ⟨X, 2, none⟩ = some (.int .i64 u)) (by kernel_rfl) (HCE.out _ HDq.out) (fun hHeld => ?_)
    obtain ⟨Wq0, hW0⟩ : ∃ W0, W0 = w6.drew := ⟨_, rfl⟩
    rw [← hW0] at hHeld HDq ⊢
    clear hW0
    refine wpAnyH_take (i := 0) (oi := ?oi0q) (v := ?v0q) ?hi0q ?hs0q ?hf0q ?hr0q ?hQ0q ?hy0q ?hS0q ?h0q
    case hi0q => exact (by simp only [List.getElem?_toArray, List.getElem?_cons_zero]; rfl)
    case hs0q => kernel_rfl
    case hf0q => kernel_rfl
    case hr0q => kernel_rfl
    case hQ0q => exact fun _ _ _ h => h
    case hy0q =>
      refine Or.inl ⟨rfl, ?_⟩
      intro W hSw
      obtain ⟨q0, q1, q2, q3, q4, q5⟩ := hSw
      go_simp
      try with_reducible rfl
    case hS0q => assumption
    try simp only [Act.put, List.setIfInBounds_toArray, List.set_cons_zero, List.set_cons_succ]
    refine wpAnyH_take (i := 1) (oi := ?oi1q) (v := ?v1q) ?hi1q ?hs1q ?hf1q ?hr1q ?hQ1q ?hy1q ?hS1q ?h1q
    case hi1q => exact (by simp only [List.getElem?_toArray, List.getElem?_cons_succ, List.getElem?_cons_zero]; rfl)
    case hs1q => kernel_rfl
    case hf1q => kernel_rfl
    case hr1q => kernel_rfl
    case hQ1q => exact fun _ _ _ h => h
    case hy1q =>
      refine Or.inl ⟨rfl, ?_⟩
      intro W hSw
      obtain ⟨q0, q1, q2, q3, q4, q5⟩ := hSw
      go_simp
      try with_reducible rfl
    case hS1q => assumption
    try simp only [Act.put, List.setIfInBounds_toArray, List.set_cons_zero, List.set_cons_succ]
    refine wpAnyH_take (i := 3) (oi := ?oi3q) (v := ?v3q) ?hi3q ?hs3q ?hf3q ?hr3q ?hQ3q ?hy3q ?hS3q ?h3q
    case hi3q => exact (by simp only [List.getElem?_toArray, List.getElem?_cons_succ, List.getElem?_cons_zero]; rfl)
    case hs3q => kernel_rfl
    case hf3q => kernel_rfl
    case hr3q => kernel_rfl
    case hQ3q => exact fun _ _ _ h => h
    case hy3q =>
      refine Or.inl ⟨rfl, ?_⟩
      intro W hSw
      obtain ⟨q0, q1, q2, q3, q4, q5⟩ := hSw
      go_simp
      try with_reducible rfl
    case hS3q => assumption
    try simp only [Act.put, List.setIfInBounds_toArray, List.set_cons_zero, List.set_cons_succ]
    refine wpAnyH_take (i := 4) (oi := ?oi4q) (v := ?v4q) ?hi4q ?hs4q ?hf4q ?hr4q ?hQ4q ?hy4q ?hS4q ?h4q
    case hi4q => exact (by simp only [List.getElem?_toArray, List.getElem?_cons_succ, List.getElem?_cons_zero]; rfl)
    case hs4q => kernel_rfl
    case hf4q => kernel_rfl
    case hr4q => kernel_rfl
    case hQ4q => exact fun _ _ _ h => h
    case hy4q =>
      refine Or.inl ⟨rfl, ?_⟩
      intro W hSw
      obtain ⟨q0, q1, q2, q3, q4, q5⟩ := hSw
      go_simp
      try with_reducible rfl
    case hS4q => assumption
    try simp only [Act.put, List.setIfInBounds_toArray, List.set_cons_zero, List.set_cons_succ]
    refine wpAnyH_ready (rs := [2]) (by kernel_rfl) (by simp) ?_
    refine AllReadyH.cons (o := _) rfl (fun K hK => ?_) AllReadyH.nil
    go_simp
    refine (HYB.out Wq0).mono ?_
    rintro r Wq1 ⟨rfl, hbq⟩
    have HBq1 := Lib.hid (HDq.out.trans (hbq.mono HDq.out.size))
    clear hbq
    refine hK.out _ _ (HCE.out _ HBq1.out) (fun hHeld => ?_)
    clear hK K
    try simp only [Act.put, List.setIfInBounds_toArray, List.set_cons_zero, List.set_cons_succ]
    refine wpAnyH_ready (rs := [5]) (by kernel_rfl) (by simp) ?_
    refine AllReadyH.cons (o := _) rfl (fun K hK => ?_) AllReadyH.nil
    go_simp
    refine (HXB.out Wq1).mono ?_
    rintro r Wq2 ⟨rfl, hbq⟩
    have HBq2 := Lib.hid (HBq1.out.trans (hbq.mono HBq1.out.size))
    clear hbq
    refine hK.out _ _ (HCE.out _ HBq2.out) (fun hHeld => ?_)
    clear hK K
    try simp only [Act.put, List.setIfInBounds_toArray, List.set_cons_zero, List.set_cons_succ]
    refine wpAnyH_take (i := 6) (oi := ?oi6q) (v := (.bool true)) ?hi6q ?hs6q ?hf6q ?hr6q ?hQ6q ?hy6q ?hS6q ?h6q
    case hi6q => exact (by simp only [List.getElem?_toArray, List.getElem?_cons_succ, List.getElem?_cons_zero]; rfl)
    case hs6q => kernel_rfl
    case hf6q => kernel_rfl
    case hr6q => kernel_rfl
    case hQ6q => exact fun _ _ _ h => h
    case hy6q =>
      refine Or.inl ⟨rfl, ?_⟩
      intro W hSw
      obtain ⟨q0, q1, q2, q3, q4, q5⟩ := hSw
      go_simp
      all_goals first | with_reducible rfl | (simp; done) | (simp; omega) | omega
    case hS6q => assumption
    try simp only [Act.put, List.setIfInBounds_toArray, List.set_cons_zero, List.set_cons_succ]
    refine wpAnyH_take (i := 7) (oi := ?oi7q) (v := ?v7q) ?hi7q ?hs7q ?hf7q ?hr7q ?hQ7q ?hy7q ?hS7q ?h7q
    case hi7q => exact (by simp only [List.getElem?_toArray, List.getElem?_cons_succ, List.getElem?_cons_zero]; rfl)
    case hs7q => kernel_rfl
    case hf7q => kernel_rfl
    case hr7q => kernel_rfl
    case hQ7q => exact fun _ _ _ h => h
    case hy7q =>
      refine Or.inl ⟨rfl, ?_⟩
      intro W hSw
      obtain ⟨q0, q1, q2, q3, q4, q5⟩ := hSw
      go_simp
      try with_reducible rfl
    case hS7q => assumption
    try simp only [Act.put, List.setIfInBounds_toArray, List.set_cons_zero, List.set_cons_succ]
    refine wpAnyH_take (i := 8) (oi := ?oi8q) (v := ?v8q) ?hi8q ?hs8q ?hf8q ?hr8q ?hQ8q ?hy8q ?hS8q ?h8q
    case hi8q => exact (by simp only [List.getElem?_toArray, List.getElem?_cons_succ, List.getElem?_cons_zero]; rfl)
    case hs8q => kernel_rfl
    case hf8q => kernel_rfl
    case hr8q => kernel_rfl
    case hQ8q => exact fun _ _ _ h => h
    case hy8q =>
      refine Or.inl ⟨rfl, ?_⟩
      intro W hSw
      obtain ⟨q0, q1, q2, q3, q4, q5⟩ := hSw
      go_simp
      try with_reducible rfl
    case hS8q => assumption
    try simp only [Act.put, List.setIfInBounds_toArray, List.set_cons_zero, List.set_cons_succ]
    refine wpAnyH_take (i := 9) (oi := ?oi9q) (v := ?v9q) ?hi9q ?hs9q ?hf9q ?hr9q ?hQ9q ?hy9q ?hS9q ?h9q
    case hi9q => exact (by simp only [List.getElem?_toArray, List.getElem?_cons_succ, List.getElem?_cons_zero]; rfl)
    case hs9q => kernel_rfl
    case hf9q => kernel_rfl
    case hr9q => kernel_rfl
    case hQ9q => exact fun _ _ _ h => h
    case hy9q =>
      refine Or.inl ⟨rfl, ?_⟩
      intro W hSw
      obtain ⟨q0, q1, q2, q3, q4, q5⟩ := hSw
      go_simp
      try with_reducible rfl
    case hS9q => assumption
    try simp only [Act.put, List.setIfInBounds_toArray, List.set_cons_zero, List.set_cons_succ]
    refine wpAnyH_take (i := 11) (oi := ?oi11q) (v := ?v11q) ?hi11q ?hs11q ?hf11q ?hr11q ?hQ11q ?hy11q ?hS11q ?h11q
    case hi11q => exact (by simp only [List.getElem?_toArray, List.getElem?_cons_succ, List.getElem?_cons_zero]; rfl)
    case hs11q => kernel_rfl
    case hf11q => kernel_rfl
    case hr11q => kernel_rfl
    case hQ11q => exact fun _ _ _ h => h
    case hy11q =>
      refine Or.inl ⟨rfl, ?_⟩
      intro W hSw
      obtain ⟨q0, q1, q2, q3, q4, q5⟩ := hSw
      go_simp
      try with_reducible rfl
    case hS11q => assumption
    try simp only [Act.put, List.setIfInBounds_toArray, List.set_cons_zero, List.set_cons_succ]
    refine wpAnyH_ready (rs := [10]) (by kernel_rfl) (by simp) ?_
    refine AllReadyH.cons (o := _) rfl (fun K hK => ?_) AllReadyH.nil
    go_simp
    refine (HYA.out Wq2).mono ?_
    rintro r Wq3 ⟨rfl, hbq⟩
    have HBq3 := Lib.hid (HBq2.out.trans (hbq.mono HBq2.out.size))
    clear hbq
    refine hK.out _ _ (HCE.out _ HBq3.out) (fun hHeld => ?_)
    clear hK K
    try simp only [Act.put, List.setIfInBounds_toArray, List.set_cons_zero, List.set_cons_succ]
    refine wpAnyH_take (i := 12) (oi := ?oi12q) (v := (.bool true)) ?hi12q ?hs12q ?hf12q ?hr12q ?hQ12q ?hy12q ?hS12q ?h12q
    case hi12q => exact (by simp only [List.getElem?_toArray, List.getElem?_cons_succ, List.getElem?_cons_zero]; rfl)
    case hs12q => kernel_rfl
    case hf12q => kernel_rfl
    case hr12q => kernel_rfl
    case hQ12q => exact fun _ _ _ h => h
    case hy12q =>
      refine Or.inl ⟨rfl, ?_⟩
      intro W hSw
      obtain ⟨q0, q1, q2, q3, q4, q5⟩ := hSw
      go_simp
      all_goals first | with_reducible rfl | (simp; done) | (simp; omega) | omega
    case hS12q => assumption
    try simp only [Act.put, List.setIfInBounds_toArray, List.set_cons_zero, List.set_cons_succ]
    refine wpAnyH_take (i := 13) (oi := ?oi13q) (v := (.bool true)) ?hi13q ?hs13q ?hf13q ?hr13q ?hQ13q ?hy13q ?hS13q ?h13q
    case hi13q => exact (by simp only [List.getElem?_toArray, List.getElem?_cons_succ, List.getElem?_cons_zero]; rfl)
    case hs13q => kernel_rfl
    case hf13q => kernel_rfl
    case hr13q => kernel_rfl
    case hQ13q => exact fun _ _ _ h => h
    case hy13q =>
      refine Or.inl ⟨rfl, ?_⟩
      intro W hSw
      obtain ⟨q0, q1, q2, q3, q4, q5⟩ := hSw
      go_simp
      try with_reducible rfl
    case hS13q => assumption
    try simp only [Act.put, List.setIfInBounds_toArray, List.set_cons_zero, List.set_cons_succ]
    refine wpAnyH_take (i := 14) (oi := ?oi14q) (v := ?v14q) ?hi14q ?hs14q ?hf14q ?hr14q ?hQ14q ?hy14q ?hS14q ?h14q
    case hi14q => exact (by simp only [List.getElem?_toArray, List.getElem?_cons_succ, List.getElem?_cons_zero]; rfl)
    case hs14q => kernel_rfl
    case hf14q => kernel_rfl
    case hr14q => kernel_rfl
    case hQ14q => exact fun _ _ _ h => h
    case hy14q =>
      refine Or.inl ⟨rfl, ?_⟩
      intro W hSw
      obtain ⟨q0, q1, q2, q3, q4, q5⟩ := hSw
      go_simp
      try with_reducible rfl
    case hS14q => assumption
    try simp only [Act.put, List.setIfInBounds_toArray, List.set_cons_zero, List.set_cons_succ]
    refine wpAnyH_take (i := 15) (oi := ?oi15q) (v := ?v15q) ?hi15q ?hs15q ?hf15q ?hr15q ?hQ15q ?hy15q ?hS15q ?h15q
    case hi15q => exact (by simp only [List.getElem?_toArray, List.getElem?_cons_succ, List.getElem?_cons_zero]; rfl)
    case hs15q => kernel_rfl
    case hf15q => kernel_rfl
    case hr15q => kernel_rfl
    case hQ15q => exact fun _ _ _ h => h
    case hy15q =>
      refine Or.inl ⟨rfl, ?_⟩
      intro W hSw
      obtain ⟨q0, q1, q2, q3, q4, q5⟩ := hSw
      go_simp
      try with_reducible rfl
    case hS15q => assumption
    try simp only [Act.put, List.setIfInBounds_toArray, List.set_cons_zero, List.set_cons_succ]
    refine wpAnyH_take (i := 16) (oi := ?oi16q) (v := ?v16q) ?hi16q ?hs16q ?hf16q ?hr16q ?hQ16q ?hy16q ?hS16q ?h16q
    case hi16q => exact (by simp only [List.getElem?_toArray, List.getElem?_cons_succ, List.getElem?_cons_zero]; rfl)
    case hs16q => kernel_rfl
    case hf16q => kernel_rfl
    case hr16q => kernel_rfl
    case hQ16q => exact fun _ _ _ h => h
    case hy16q =>
      refine Or.inl ⟨rfl, ?_⟩
      intro W hSw
      obtain ⟨q0, q1, q2, q3, q4, q5⟩ := hSw
      go_simp
      try with_reducible rfl
    case hS16q => assumption
    try simp only [Act.put, List.setIfInBounds_toArray, List.set_cons_zero, List.set_cons_succ]
    refine wpAnyH_take (i := 18) (oi := ?oi18q) (v := ?v18q) ?hi18q ?hs18q ?hf18q ?hr18q ?hQ18q ?hy18q ?hS18q ?h18q
    case hi18q => exact (by simp only [List.getElem?_toArray, List.getElem?_cons_succ, List.getElem?_cons_zero]; rfl)
    case hs18q => kernel_rfl
    case hf18q => kernel_rfl
    case hr18q => kernel_rfl
    case hQ18q => exact fun _ _ _ h => h
    case hy18q =>
      refine Or.inl ⟨rfl, ?_⟩
      intro W hSw
      obtain ⟨q0, q1, q2, q3, q4, q5⟩ := hSw
      go_simp
      try with_reducible rfl
    case hS18q => assumption
    try simp only [Act.put, List.setIfInBounds_toArray, List.set_cons_zero, List.set_cons_succ]
    refine wpAnyH_take (i := 19) (oi := ?oi19q) (v := ?v19q) ?hi19q ?hs19q ?hf19q ?hr19q ?hQ19q ?hy19q ?hS19q ?h19q
    case hi19q => exact (by simp only [List.getElem?_toArray, List.getElem?_cons_succ, List.getElem?_cons_zero]; rfl)
    case hs19q => kernel_rfl
    case hf19q => kernel_rfl
    case hr19q => kernel_rfl
    case hQ19q => exact fun _ _ _ h => h
    case hy19q =>
      refine Or.inl ⟨rfl, ?_⟩
      intro W hSw
      obtain ⟨q0, q1, q2, q3, q4, q5⟩ := hSw
      go_simp
      try with_reducible rfl
    case hS19q => assumption
    try simp only [Act.put, List.setIfInBounds_toArray, List.set_cons_zero, List.set_cons_succ]
    refine wpAnyH_ready (rs := [17]) (by kernel_rfl) (by simp) ?_
    refine AllReadyH.cons (o := _) rfl (fun K hK => ?_) AllReadyH.nil
    go_simp
    refine (HHY.out Wq3 (HBW.out _ HBq3.out)).mono ?_
    rintro r Wq4 ⟨rfl, hbq⟩
    have HBq4 := Lib.hid (HBq3.out.trans (hbq.mono HBq3.out.size))
    clear hbq
    refine hK.out _ _ (HCE.out _ HBq4.out) (fun hHeld => ?_)
    clear hK K
    try simp only [Act.put, List.setIfInBounds_toArray, List.set_cons_zero, List.set_cons_succ]
    refine wpAnyH_ready (rs := [20]) (by kernel_rfl) (by simp) ?_
    refine AllReadyH.cons (o := _) rfl (fun K hK => ?_) AllReadyH.nil
    go_simp
    refine (HHX.out Wq4 (HBW.out _ HBq4.out)).mono ?_
    rintro r Wq5 ⟨rfl, hbq⟩
    have HBq5 := Lib.hid (HBq4.out.trans (hbq.mono HBq4.out.size))
    clear hbq
    refine hK.out _ _ (HCE.out _ HBq5.out) (fun hHeld => ?_)
    clear hK K
    try simp only [Act.put, List.setIfInBounds_toArray, List.set_cons_zero, List.set_cons_succ]
    refine wpAnyH_take (i := 21) (oi := ?oi21q) (v := (.bool true)) ?hi21q ?hs21q ?hf21q ?hr21q ?hQ21q ?hy21q ?hS21q ?h21q
    case hi21q => exact (by simp only [List.getElem?_toArray, List.getElem?_cons_succ, List.getElem?_cons_zero]; rfl)
    case hs21q => kernel_rfl
    case hf21q => kernel_rfl
    case hr21q => kernel_rfl
    case hQ21q => exact fun _ _ _ h => h
    case hy21q =>
      refine Or.inl ⟨rfl, ?_⟩
      intro W hSw
      obtain ⟨q0, q1, q2, q3, q4, q5⟩ := hSw
      go_simp
      all_goals first | with_reducible rfl | (simp; done) | (simp; omega) | omega
    case hS21q => assumption
    try simp only [Act.put, List.setIfInBounds_toArray, List.set_cons_zero, List.set_cons_succ]
    refine wpAnyH_take (i := 22) (oi := ?oi22q) (v := (.bool true)) ?hi22q ?hs22q ?hf22q ?hr22q ?hQ22q ?hy22q ?hS22q ?h22q
    case hi22q => exact (by simp only [List.getElem?_toArray, List.getElem?_cons_succ, List.getElem?_cons_zero]; rfl)
    case hs22q => kernel_rfl
    case hf22q => kernel_rfl
    case hr22q => kernel_rfl
    case hQ22q => exact fun _ _ _ h => h
    case hy22q =>
      refine Or.inl ⟨rfl, ?_⟩
      intro W hSw
      obtain ⟨q0, q1, q2, q3, q4, q5⟩ := hSw
      go_simp
      try with_reducible rfl
    case hS22q => assumption
    try simp only [Act.put, List.setIfInBounds_toArray, List.set_cons_zero, List.set_cons_succ]
    refine wpAnyH_take (i := 23) (oi := ?oi23q) (v := ?v23q) ?hi23q ?hs23q ?hf23q ?hr23q ?hQ23q ?hy23q ?hS23q ?h23q
    case hi23q => exact (by simp only [List.getElem?_toArray, List.getElem?_cons_succ, List.getElem?_cons_zero]; rfl)
    case hs23q => kernel_rfl
    case hf23q => kernel_rfl
    case hr23q => kernel_rfl
    case hQ23q => exact fun _ _ _ h => h
    case hy23q =>
      refine Or.inl ⟨rfl, ?_⟩
      intro W hSw
      obtain ⟨q0, q1, q2, q3, q4, q5⟩ := hSw
      go_simp
      try with_reducible rfl
    case hS23q => assumption
    try simp only [Act.put, List.setIfInBounds_toArray, List.set_cons_zero, List.set_cons_succ]
    refine wpAnyH_take (i := 24) (oi := ?oi24q) (v := ?v24q) ?hi24q ?hs24q ?hf24q ?hr24q ?hQ24q ?hy24q ?hS24q ?h24q
    case hi24q => exact (by simp only [List.getElem?_toArray, List.getElem?_cons_succ, List.getElem?_cons_zero]; rfl)
    case hs24q => kernel_rfl
    case hf24q => kernel_rfl
    case hr24q => kernel_rfl
    case hQ24q => exact fun _ _ _ h => h
    case hy24q =>
      refine Or.inl ⟨rfl, ?_⟩
      intro W hSw
      obtain ⟨q0, q1, q2, q3, q4, q5⟩ := hSw
      go_simp
      try with_reducible rfl
    case hS24q => assumption
    try simp only [Act.put, List.setIfInBounds_toArray, List.set_cons_zero, List.set_cons_succ]
    refine wpAnyH_take (i := 25) (oi := ?oi25q) (v := ?v25q) ?hi25q ?hs25q ?hf25q ?hr25q ?hQ25q ?hy25q ?hS25q ?h25q
    case hi25q => exact (by simp only [List.getElem?_toArray, List.getElem?_cons_succ, List.getElem?_cons_zero]; rfl)
    case hs25q => kernel_rfl
    case hf25q => kernel_rfl
    case hr25q => kernel_rfl
    case hQ25q => exact fun _ _ _ h => h
    case hy25q =>
      refine Or.inl ⟨rfl, ?_⟩
      intro W hSw
      obtain ⟨q0, q1, q2, q3, q4, q5⟩ := hSw
      go_simp
      try with_reducible rfl
    case hS25q => assumption
    try simp only [Act.put, List.setIfInBounds_toArray, List.set_cons_zero, List.set_cons_succ]
    refine wpAnyH_take (i := 26) (oi := ?oi26q) (v := (.bool false)) ?hi26q ?hs26q ?hf26q ?hr26q ?hQ26q ?hy26q ?hS26q ?h26q
    case hi26q => exact (by simp only [List.getElem?_toArray, List.getElem?_cons_succ, List.getElem?_cons_zero]; rfl)
    case hs26q => kernel_rfl
    case hf26q => kernel_rfl
    case hr26q => kernel_rfl
    case hQ26q => exact fun _ _ _ h => h
    case hy26q =>
      refine Or.inl ⟨rfl, ?_⟩
      intro W hSw
      obtain ⟨q0, q1, q2, q3, q4, q5⟩ := hSw
      have z1 := HG.out
      go_simp
      all_goals first | with_reducible rfl | (simp; done) | (simp; omega) | omega
    case hS26q => assumption
    try simp only [Act.put, List.setIfInBounds_toArray, List.set_cons_zero, List.set_cons_succ]
    refine wpAnyH_take (i := 27) (oi := ?oi27q) (v := ?v27q) ?hi27q ?hs27q ?hf27q ?hr27q ?hQ27q ?hy27q ?hS27q ?h27q
    case hi27q => exact (by simp only [List.getElem?_toArray, List.getElem?_cons_succ, List.getElem?_cons_zero]; rfl)
    case hs27q => kernel_rfl
    case hf27q => kernel_rfl
    case hr27q => kernel_rfl
    case hQ27q => exact fun _ _ _ h => h
    case hy27q =>
      refine Or.inl ⟨rfl, ?_⟩
      intro W hSw
      obtain ⟨q0, q1, q2, q3, q4, q5⟩ := hSw
      go_simp
      try with_reducible rfl
    case hS27q => assumption
    try simp only [Act.put, List.setIfInBounds_toArray, List.set_cons_zero, List.set_cons_succ]
    refine wpAnyH_take (i := 28) (oi := ?oi28q) (v := ?v28q) ?hi28q ?hs28q ?hf28q ?hr28q ?hQ28q ?hy28q ?hS28q ?h28q
    case hi28q => exact (by simp only [List.getElem?_toArray, List.getElem?_cons_succ, List.getElem?_cons_zero]; rfl)
    case hs28q => kernel_rfl
    case hf28q => kernel_rfl
    case hr28q => kernel_rfl
    case hQ28q => exact fun _ _ _ h => h
    case hy28q =>
      refine Or.inl ⟨rfl, ?_⟩
      intro W hSw
      obtain ⟨q0, q1, q2, q3, q4, q5⟩ := hSw
      go_simp
      try with_reducible rfl
    case hS28q => assumption
    try simp only [Act.put, List.setIfInBounds_toArray, List.set_cons_zero, List.set_cons_succ]
    refine wpAnyH_take (i := 29) (oi := ?oi29q) (v := ?v29q) ?hi29q ?hs29q ?hf29q ?hr29q ?hQ29q ?hy29q ?hS29q ?h29q
    case hi29q => exact (by simp only [List.getElem?_toArray, List.getElem?_cons_succ, List.getElem?_cons_zero]; rfl)
    case hs29q => kernel_rfl
    case hf29q => kernel_rfl
    case hr29q => kernel_rfl
    case hQ29q => exact fun _ _ _ h => h
    case hy29q =>
      refine Or.inl ⟨rfl, ?_⟩
      intro W hSw
      obtain ⟨q0, q1, q2, q3, q4, q5⟩ := hSw
      go_simp
      try with_reducible rfl
    case hS29q => assumption
    try simp only [Act.put, List.setIfInBounds_toArray, List.set_cons_zero, List.set_cons_succ]
    refine wpAnyH_take (i := 31) (oi := ?oi31q) (v := ?v31q) ?hi31q ?hs31q ?hf31q ?hr31q ?hQ31q ?hy31q ?hS31q ?h31q
    case hi31q => exact (by simp only [List.getElem?_toArray, List.getElem?_cons_succ, List.getElem?_cons_zero]; rfl)
    case hs31q => kernel_rfl
    case hf31q => kernel_rfl
    case hr31q => kernel_rfl
    case hQ31q => exact fun _ _ _ h => h
    case hy31q =>
      refine Or.inl ⟨rfl, ?_⟩
      intro W hSw
      obtain ⟨q0, q1, q2, q3, q4, q5⟩ := hSw
      go_simp
      try with_reducible rfl
    case hS31q => assumption
    try simp only [Act.put, List.setIfInBounds_toArray, List.set_cons_zero, List.set_cons_succ]
    refine wpAnyH_take (i := 32) (oi := ?oi32q) (v := ?v32q) ?hi32q ?hs32q ?hf32q ?hr32q ?hQ32q ?hy32q ?hS32q ?h32q
    case hi32q => exact (by simp only [List.getElem?_toArray, List.getElem?_cons_succ, List.getElem?_cons_zero]; rfl)
    case hs32q => kernel_rfl
    case hf32q => kernel_rfl
    case hr32q => kernel_rfl
    case hQ32q => exact fun _ _ _ h => h
    case hy32q =>
      refine Or.inl ⟨rfl, ?_⟩
      intro W hSw
      obtain ⟨q0, q1, q2, q3, q4, q5⟩ := hSw
      go_simp
      try with_reducible rfl
    case hS32q => assumption
    try simp only [Act.put, List.setIfInBounds_toArray, List.set_cons_zero, List.set_cons_succ]
    refine wpAnyH_ready (rs := [30]) (by kernel_rfl) (by simp) ?_
    refine AllReadyH.cons (o := _) rfl (fun K hK => ?_) AllReadyH.nil
    go_simp
    refine (HFY2.out Wq5).mono ?_
    rintro r Wq6 ⟨rfl, hbq⟩
    have HBq6 := Lib.hid (HBq5.out.trans (hbq.mono HBq5.out.size))
    clear hbq
    refine hK.out _ _ (HCE.out _ HBq6.out) (fun hHeld => ?_)
    clear hK K
    try simp only [Act.put, List.setIfInBounds_toArray, List.set_cons_zero, List.set_cons_succ]
    refine wpAnyH_ready (rs := [33]) (by kernel_rfl) (by simp) ?_
    refine AllReadyH.cons (o := _) rfl (fun K hK => ?_) AllReadyH.nil
    go_simp
    refine (HFX.out Wq6).mono ?_
    rintro r Wq7 ⟨rfl, hbq⟩
    have HBq7 := Lib.hid (HBq6.out.trans (hbq.mono HBq6.out.size))
    clear hbq
    refine hK.out _ _ (HCE.out _ HBq7.out) (fun hHeld => ?_)
    clear hK K
    try simp only [Act.put, List.setIfInBounds_toArray, List.set_cons_zero, List.set_cons_succ]
    refine wpAnyH_take (i := 34) (oi := ?oi34q) (v := (.bool true)) ?hi34q ?hs34q ?hf34q ?hr34q ?hQ34q ?hy34q ?hS34q ?h34q
    case hi34q => exact (by simp only [List.getElem?_toArray, List.getElem?_cons_succ, List.getElem?_cons_zero]; rfl)
    case hs34q => kernel_rfl
    case hf34q => kernel_rfl
    case hr34q => kernel_rfl
    case hQ34q => exact fun _ _ _ h => h
    case hy34q =>
      refine Or.inl ⟨rfl, ?_⟩
      intro W hSw
      obtain ⟨q0, q1, q2, q3, q4, q5⟩ := hSw
      go_simp
      all_goals first | with_reducible rfl | (simp; done) | (simp; omega) | omega
    case hS34q => assumption
    try simp only [Act.put, List.setIfInBounds_toArray, List.set_cons_zero, List.set_cons_succ]
    refine wpAnyH_take (i := 35) (oi := ?oi35q) (v := (.bool true)) ?hi35q ?hs35q ?hf35q ?hr35q ?hQ35q ?hy35q ?hS35q ?h35q
    case hi35q => exact (by simp only [List.getElem?_toArray, List.getElem?_cons_succ, List.getElem?_cons_zero]; rfl)
    case hs35q => kernel_rfl
    case hf35q => kernel_rfl
    case hr35q => kernel_rfl
    case hQ35q => exact fun _ _ _ h => h
    case hy35q =>
      refine Or.inl ⟨rfl, ?_⟩
      intro W hSw
      obtain ⟨q0, q1, q2, q3, q4, q5⟩ := hSw
      go_simp
      try with_reducible rfl
    case hS35q => assumption
    try simp only [Act.put, List.setIfInBounds_toArray, List.set_cons_zero, List.set_cons_succ]
    refine wpAnyH_take (i := 36) (oi := ?oi36q) (v := (.bool true)) ?hi36q ?hs36q ?hf36q ?hr36q ?hQ36q ?hy36q ?hS36q ?h36q
    case hi36q => exact (by simp only [List.getElem?_toArray, List.getElem?_cons_succ, List.getElem?_cons_zero]; rfl)
    case hs36q => kernel_rfl
    case hf36q => kernel_rfl
    case hr36q => kernel_rfl
    case hQ36q => exact fun _ _ _ h => h
    case hy36q =>
      refine Or.inl ⟨rfl, ?_⟩
      intro W hSw
      obtain ⟨q0, q1, q2, q3, q4, q5⟩ := hSw
      go_simp
      try with_reducible rfl
    case hS36q => assumption
    try simp only [Act.put, List.setIfInBounds_toArray, List.set_cons_zero, List.set_cons_succ]
    refine wpAnyH_take (i := 37) (oi := ?oi37q) (v := ?v37q) ?hi37q ?hs37q ?hf37q ?hr37q ?hQ37q ?hy37q ?hS37q ?h37q
    case hi37q => exact (by simp only [List.getElem?_toArray, List.getElem?_cons_succ, List.getElem?_cons_zero]; rfl)
    case hs37q => kernel_rfl
    case hf37q => kernel_rfl
    case hr37q => kernel_rfl
    case hQ37q => exact fun _ _ _ h => h
    case hy37q =>
      refine Or.inl ⟨rfl, ?_⟩
      intro W hSw
      obtain ⟨q0, q1, q2, q3, q4, q5⟩ := hSw
      go_simp
      try with_reducible rfl
    case hS37q => assumption
    try simp only [Act.put, List.setIfInBounds_toArray, List.set_cons_zero, List.set_cons_succ]
    refine wpAnyH_ready (rs := [38]) (by kernel_rfl) (by simp) ?_
    refine AllReadyH.cons (o := _) rfl (fun K hK => ?_) AllReadyH.nil
    go_simp
    refine (HW.out Wq7 (HBW.out _ HBq7.out)).mono ?_
    rintro r Wq8 ⟨rfl, hbq⟩
    have HBq8 := Lib.hid (HBq7.out.trans (hbq.mono HBq7.out.size))
    clear hbq
    refine hK.out _ _ (HCE.out _ HBq8.out) (fun hHeld => ?_)
    clear hK K
    try simp only [Act.put, List.setIfInBounds_toArray, List.set_cons_zero, List.set_cons_succ]
    refine wpAnyH_take (i := 39) (oi := ?oi39q) (v := (.bool true)) ?hi39q ?hs39q ?hf39q ?hr39q ?hQ39q ?hy39q ?hS39q ?h39q
    case hi39q => exact (by simp only [List.getElem?_toArray, List.getElem?_cons_succ, List.getElem?_cons_zero]; rfl)
    case hs39q => kernel_rfl
    case hf39q => kernel_rfl
    case hr39q => kernel_rfl
    case hQ39q => exact fun _ _ _ h => h
    case hy39q =>
      refine Or.inl ⟨rfl, ?_⟩
      intro W hSw
      obtain ⟨q0, q1, q2, q3, q4, q5⟩ := hSw
      go_simp
      try with_reducible rfl
    case hS39q => assumption
    try simp only [Act.put, List.setIfInBounds_toArray, List.set_cons_zero, List.set_cons_succ]
    refine wpAnyH_take (i := 40) (oi := ?oi40q) (v := ?v40q) ?hi40q ?hs40q ?hf40q ?hr40q ?hQ40q ?hy40q ?hS40q ?h40q
    case hi40q => exact (by simp only [List.getElem?_toArray, List.getElem?_cons_succ, List.getElem?_cons_zero]; rfl)
    case hs40q => kernel_rfl
    case hf40q => kernel_rfl
    case hr40q => kernel_rfl
    case hQ40q => exact fun _ _ _ h => h
    case hy40q =>
      refine Or.inl ⟨rfl, ?_⟩
      intro W hSw
      obtain ⟨q0, q1, q2, q3, q4, q5⟩ := hSw
      go_simp
      try with_reducible rfl
    case hS40q => assumption
    try simp only [Act.put, List.setIfInBounds_toArray, List.set_cons_zero, List.set_cons_succ]
    refine wpAnyH_done (by kernel_rfl) ?_ _
    try go_wp2
    go_ret
    exact ⟨rfl, HBW.out _ HBq8.out⟩
end Go.Proofs.YtfcogjdnnnpmdaaDoor
