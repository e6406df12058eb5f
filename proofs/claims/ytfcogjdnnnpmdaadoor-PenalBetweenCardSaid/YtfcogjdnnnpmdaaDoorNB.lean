/- Penal: PenalHarder's walk. -/
import Derived.Test.YtfcogjdnnnpmdaaDoorN8
namespace Go.Proofs.YtfcogjdnnnpmdaaDoor
open Go.RowKit
set_option maxRecDepth 20000

/-- How much of a ban is left. -/
def lft (u now : Int) : Int := min (btw now u) 9223372036854775807
theorem harder_facts (l s u now : Int) (_hl : inI l) (hs : inI s) (hu : inI u) (hn : inI now) :
    atU l s u now ≤ hitU l s u now ∧ (60 ≤ lft (hitU l s u now) now ∨ hitU l s u now = 9223372036854775807) ∧ lft (hitU l s u now) now ≤ max (lft (atU l s u now) now) 86400 := by
  have hL := atL_bd l s now (dwn_nonneg s now hs hn)
  have hA := atU_in l s u now hu
  unfold hitU
  generalize atU l s u now = U at *
  have hM : 1 ≤ hitL l s now ∧ hitL l s now ≤ 6 := by unfold hitL upL; split <;> omega
  generalize hitL l s now = M at *
  have hlad := ladAt_bd (M - 1).toNat (by omega)
  unfold ban
  generalize ladAt (M - 1).toNat = d at *
  obtain ⟨h1, h2⟩ := hA
  obtain ⟨h3, h4⟩ := hn
  unfold lft btw sadd
  refine ⟨by omega, ?_, ?_⟩
  · by_cases g : 9223372036854775807 - d < now
    · right; rw [if_pos g]; omega
    · left
      rw [if_neg g, if_neg (by omega)]
      omega
  · by_cases g : 9223372036854775807 - d < now
    · rw [if_pos g]
      by_cases g2 : max U 9223372036854775807 ≤ now
      · rw [if_pos g2]; omega
      · rw [if_neg g2]; omega
    · rw [if_neg g]
      by_cases g2 : max U (now + d) ≤ now
      · rw [if_pos g2]; omega
      · rw [if_neg g2]
        by_cases g3 : U ≤ now
        · rw [if_pos g3]; omega
        · rw [if_neg g3]; omega

set_option linter.unusedSimpArgs false in
set_option maxHeartbeats 4000000 in
theorem harder_walk (l s u now : Int) (w : World) (hlw : Lw w) (hz : 0 < w.heap.size) (hl : inI l) (hs : inI s) (hu : inI u) (hn : -9223372036854775808 ≤ now ∧ now ≤ 9223372036854775807) :
    Calls Tryd.prog 7 #[mV l s u, .int .i64 now] w fun r w' => r = .returned (.bool true) ∧ Below w.heap.size w w' := by
  have hn' : inI now := hn
  obtain ⟨k1, k2, k3⟩ := harder_facts l s u now hl hs hu hn'
  have hLb := atL_bd l s now (dwn_nonneg s now hs hn')
  have hAI := atU_in l s u now hu
  obtain ⟨a1, ha1⟩ : ∃ a, a = atL l s now := ⟨_, rfl⟩
  obtain ⟨a2, ha2⟩ : ∃ a, a = atS l s now := ⟨_, rfl⟩
  obtain ⟨a3, ha3⟩ : ∃ a, a = atU l s u now := ⟨_, rfl⟩
  obtain ⟨h1, hh1⟩ : ∃ a, a = hitL l s now := ⟨_, rfl⟩
  obtain ⟨h3, hh3⟩ : ∃ a, a = hitU l s u now := ⟨_, rfl⟩
  have hH3 : inI h3 := by
    rw [hh3]
    unfold hitU ban
    have hM : 1 ≤ hitL l s now ∧ hitL l s now ≤ 6 := by unfold hitL upL; split <;> omega
    have hlad := ladAt_bd (hitL l s now - 1).toNat (by omega)
    have := (sadd_bd now (ladAt (hitL l s now - 1).toNat) hn' (by omega) (by omega)).1
    obtain ⟨e1, e2⟩ := this
    obtain ⟨e3, e4⟩ := hAI
    exact ⟨by omega, by omega⟩
  rw [← ha3] at k1 k3 hAI
  rw [← ha1] at hLb
  rw [← hh3] at k1 k2 k3
  have hup : (if 6 < a1 + 1 then 6 else a1 + 1) = h1 := by rw [hh1, ha1]; rfl
  have HA : Hid (∀ W, Calls Tryd.prog 10 #[mV l s u, .int .i64 now] W fun r w' => r = .returned (mV a1 a2 a3) ∧ Below W.heap.size W w') := fun W => by rw [ha1, ha2, ha3]; exact at_any l s u now W hl hs hu hn'
  have HH : Hid (∀ W, Below w.heap.size w W → Calls Tryd.prog 12 #[mV l s u, .int .i64 now] W fun r w' => r = .returned (mV h1 now h3) ∧ Below W.heap.size W w') := fun W hb => by rw [hh1, hh3]; exact hit_any l s u now W (hlw.below hb hz) (Nat.lt_of_lt_of_le hz hb.size) hl hs hu hn'
  obtain ⟨fy, hfy⟩ : ∃ a, a = lft h3 now := ⟨_, rfl⟩
  obtain ⟨fx, hfx⟩ : ∃ a, a = lft a3 now := ⟨_, rfl⟩
  have HFY : Hid (∀ W, Calls Tryd.prog 14 #[mV h1 now h3, .int .i64 now] W fun r w' => r = .returned (.int .i64 fy) ∧ Below W.heap.size W w') := fun W => by rw [hfy]; exact left_any h1 now h3 now W hH3 hn'
  have HFX : Hid (∀ W, Calls Tryd.prog 14 #[mV a1 a2 a3, .int .i64 now] W fun r w' => r = .returned (.int .i64 fx) ∧ Below W.heap.size W w') := fun W => by rw [hfx]; exact left_any a1 a2 a3 now W hAI hn'
  rw [← hfy] at k2 k3
  rw [← hfx] at k3
  have HW : Hid (∀ W, Below w.heap.size w W → Calls Tryd.prog 16 #[] W fun r w' => r = .returned (.bool true) ∧ Below W.heap.size W w') := fun W hb => nawake W (hlw.below hb hz) (Nat.lt_of_lt_of_le hz hb.size)
  obtain ⟨mx, hmx⟩ : ∃ m, (if fx < 86400 then 86400 else fx) = m := ⟨_, rfl⟩
  have k4 : fy ≤ mx := by rw [← hmx]; split <;> omega
  have HMX := Lib.hid hmx
  have HUP := Lib.hid hup
  have HK1 : Hid (a3 ≤ h3) := k1
  have HK4 : Hid (fy ≤ mx) := k4
  have HWR : Hid (IntKind.i64.wrap (a1 + 1) = a1 + 1) := IntWalk.i64_in _ (by omega)
  clear ha1 ha2 ha3 hh1 hh3 hfy hfx hlw hl hs hu hn hn' hmx hup k1 k3 k4 hAI hH3 hLb
  obtain ⟨w0, hw0⟩ : ∃ w0, w0 = w.alloc (.cells (mC l s u) 23) := ⟨_, rfl⟩
  have hb0 : Below w.heap.size w w0 := by rw [hw0]; exact (Below.refl _ _).alloc (Nat.le_refl _) _
  have hp0 : w0.heap[w.heap.size]? = some (.cells (mC l s u) 23 (0, 0)) := by rw [hw0]; exact heap_alloc_new w _
  have HB0 := Lib.hid hb0
  have HP0 := Lib.hid hp0
  have H0 := Lib.hid hw0
  have c0 := cell_of_row w0 w.heap.size 0 _ _ _ hp0
  have c1 := cell_of_row w0 w.heap.size 1 _ _ _ hp0
  have c2 := cell_of_row w0 w.heap.size 2 _ _ _ hp0
  simp at c0 c1 c2
  clear hw0 hb0 hp0
  go_enter Tryd.func7, Tryd.ntmps7
  go_upto_region 1 with (fail)
  rw [← H0.out]
  go_wp2_with fail
  refine (own_any l s u _).mono ?_
  rintro e w1 ⟨rfl, hb1⟩
  have HP1 : Hid (w1.heap[w.heap.size]? = some (.cells (mC l s u) 23 (0, 0))) := (hb1.block _ (lt_of_block HP0.out)).trans HP0.out
  have HB1 : Hid (Below w.heap.size w w1) := HB0.out.trans (hb1.mono HB0.out.size)
  clear hb1 c0 c1 c2
  go_wp2_with fail
  refine (HA.out _).mono ?_
  rintro e w2 ⟨rfl, hb2⟩
  have HP2 : Hid (w2.heap[w.heap.size]? = some (.cells (mC l s u) 23 (0, 0))) := (hb2.block _ (lt_of_block HP1.out)).trans HP1.out
  have HB2 : Hid (Below w.heap.size w w2) := HB1.out.trans (hb2.mono HB1.out.size)
  clear hb2
  go_upto_region 2 with (fail)
  obtain ⟨w3, hw3⟩ : ∃ w3, w3 = w2.alloc (.cells (mC a1 a2 a3) 24) := ⟨_, rfl⟩
  rw [← hw3]
  obtain ⟨X, hX⟩ : ∃ X, X = w2.heap.size := ⟨_, rfl⟩
  have HQ3 : Hid (w3.heap[X]? = some (.cells (mC a1 a2 a3) 24 (0, 0))) := by rw [hw3, hX]; exact heap_alloc_new w2 _
  have HP3 : Hid (w3.heap[w.heap.size]? = some (.cells (mC l s u) 23 (0, 0))) := by rw [hw3]; exact (Below.heap_alloc _ _ _ (lt_of_block HP2.out)).trans HP2.out
  have HB3 : Hid (Below w.heap.size w w3) := by rw [hw3]; exact HB2.out.alloc HB2.out.size _
  rw [← hX]
  clear hw3 hX
  have c0 : w3.cell? ⟨w.heap.size, 0, none⟩ = some (.int .i64 l) := by rw [cell_of_row _ _ 0 _ _ _ HP3.out]; rfl
  have c1 : w3.cell? ⟨w.heap.size, 1, none⟩ = some (.int .i64 s) := by rw [cell_of_row _ _ 1 _ _ _ HP3.out]; rfl
  have c2 : w3.cell? ⟨w.heap.size, 2, none⟩ = some (.int .i64 u) := by rw [cell_of_row _ _ 2 _ _ _ HP3.out]; rfl
  go_wp2_with fail
  refine (own_any l s u _).mono ?_
  rintro e w4 ⟨rfl, hb4⟩
  have HQ4 : Hid (w4.heap[X]? = some (.cells (mC a1 a2 a3) 24 (0, 0))) := (hb4.block _ (lt_of_block HQ3.out)).trans HQ3.out
  have HB4 : Hid (Below w.heap.size w w4) := HB3.out.trans (hb4.mono HB3.out.size)
  clear hb4 c0 c1 c2
  go_wp2_with fail
  refine (HH.out _ HB4.out).mono ?_
  rintro e w5 ⟨rfl, hb5⟩
  have HQ5 : Hid (w5.heap[X]? = some (.cells (mC a1 a2 a3) 24 (0, 0))) := (hb5.block _ (lt_of_block HQ4.out)).trans HQ4.out
  have HB5 : Hid (Below w.heap.size w w5) := HB4.out.trans (hb5.mono HB4.out.size)
  clear hb5
  go_upto_region 4 with (fail)
  obtain ⟨w6, hw6⟩ : ∃ w6, w6 = w5.alloc (.cells (mC h1 now h3) 24) := ⟨_, rfl⟩
  rw [← hw6]
  obtain ⟨Y, hY⟩ : ∃ Y, Y = w5.heap.size := ⟨_, rfl⟩
  have hq6 : w6.heap[Y]? = some (.cells (mC h1 now h3) 24 (0, 0)) := by rw [hw6, hY]; exact heap_alloc_new w5 _
  have hp6 : w6.heap[X]? = some (.cells (mC a1 a2 a3) 24 (0, 0)) := by rw [hw6]; exact (Below.heap_alloc _ _ _ (lt_of_block HQ5.out)).trans HQ5.out
  have HB6 : Hid (Below w.heap.size w w6) := by rw [hw6]; exact HB5.out.alloc HB5.out.size _
  have HBS : Hid (Below w6.heap.size w6 w6) := Below.refl _ _
  rw [← hY]
  clear hw6 hY
  have HCE : Hid (∀ W, Below w6.heap.size w6 W → W.cell? ⟨Y, 0, none⟩ = some (.int .i64 h1) ∧ W.cell? ⟨Y, 1, none⟩ = some (.int .i64 now) ∧ W.cell? ⟨Y, 2, none⟩ = some (.int .i64 h3) ∧ W.cell? ⟨X, 0, none⟩ = some (.int .i64 a1) ∧ W.cell? ⟨X, 1, none⟩ = some (.int .i64 a2) ∧ W.cell? ⟨X, 2, none⟩ = some (.int .i64 a3)) := fun W hW => by
    have e1 := (hW.block _ (lt_of_block hq6)).trans hq6
    have e2 := (hW.block _ (lt_of_block hp6)).trans hp6
    exact ⟨cell_of_row W _ 0 _ _ _ e1, cell_of_row W _ 1 _ _ _ e1, cell_of_row W _ 2 _ _ _ e1, cell_of_row W _ 0 _ _ _ e2, cell_of_row W _ 1 _ _ _ e2, cell_of_row W _ 2 _ _ _ e2⟩
  have HBW : Hid (∀ W, Below w6.heap.size w6 W → Below w.heap.size w W) := fun W hW => HB6.out.trans (hW.mono HB6.out.size)
  clear hq6 hp6
  by_cases h60 : 60 ≤ fy
  · have HG : Hid (60 ≤ fy) := h60
    clear k2
    have HDp : Hid (Below w6.heap.size w6 w6.drew) := HBS.out.drew
    refine wp_region_held_drew (S := fun W : World => W.cell? ⟨Y, 0, none⟩ = some (.int .i64 h1) ∧ W.cell? ⟨Y, 1, none⟩ = some (.int .i64 now) ∧ W.cell? ⟨Y, 2, none⟩ = some (.int .i64 h3) ∧ W.cell? ⟨X, 0, none⟩ = some (.int .i64 a1) ∧ W.cell? ⟨X, 1, none⟩ = some (.int .i64 a2) ∧ W.cell? ⟨X, 2, none⟩ = some (.int .i64 a3)) (by kernel_rfl) (HCE.out _ HDp.out) (fun hHeld => ?_)
    obtain ⟨Wp0, hW0⟩ : ∃ W0, W0 = w6.drew := ⟨_, rfl⟩
    rw [← hW0] at hHeld HDp ⊢
    clear hW0
    refine wpAnyH_take (i := 0) (oi := ?oi0p) (v := ?v0p) ?hi0p ?hs0p ?hf0p ?hr0p ?hQ0p ?hy0p ?hS0p ?h0p
    case hi0p => exact (by simp only [List.getElem?_toArray, List.getElem?_cons_zero]; rfl)
    case hs0p => kernel_rfl
    case hf0p => kernel_rfl
    case hr0p => kernel_rfl
    case hQ0p => exact fun _ _ _ h => h
    case hy0p =>
      refine Or.inl ⟨rfl, ?_⟩
      intro W hSw
      obtain ⟨y0, y1, y2, y3, y4, y5⟩ := hSw
      go_simp
      try with_reducible rfl
    case hS0p => assumption
    try simp only [Act.put, List.setIfInBounds_toArray, List.set_cons_zero, List.set_cons_succ]
    refine wpAnyH_take (i := 1) (oi := ?oi1p) (v := ?v1p) ?hi1p ?hs1p ?hf1p ?hr1p ?hQ1p ?hy1p ?hS1p ?h1p
    case hi1p => exact (by simp only [List.getElem?_toArray, List.getElem?_cons_succ, List.getElem?_cons_zero]; rfl)
    case hs1p => kernel_rfl
    case hf1p => kernel_rfl
    case hr1p => kernel_rfl
    case hQ1p => exact fun _ _ _ h => h
    case hy1p =>
      refine Or.inl ⟨rfl, ?_⟩
      intro W hSw
      obtain ⟨y0, y1, y2, y3, y4, y5⟩ := hSw
      go_simp
      try with_reducible rfl
    case hS1p => assumption
    try simp only [Act.put, List.setIfInBounds_toArray, List.set_cons_zero, List.set_cons_succ]
    refine wpAnyH_take (i := 2) (oi := ?oi2p) (v := ?v2p) ?hi2p ?hs2p ?hf2p ?hr2p ?hQ2p ?hy2p ?hS2p ?h2p
    case hi2p => exact (by simp only [List.getElem?_toArray, List.getElem?_cons_succ, List.getElem?_cons_zero]; rfl)
    case hs2p => kernel_rfl
    case hf2p => kernel_rfl
    case hr2p => kernel_rfl
    case hQ2p => exact fun _ _ _ h => h
    case hy2p =>
      refine Or.inl ⟨rfl, ?_⟩
      intro W hSw
      obtain ⟨y0, y1, y2, y3, y4, y5⟩ := hSw
      go_simp
      try with_reducible rfl
    case hS2p => assumption
    try simp only [Act.put, List.setIfInBounds_toArray, List.set_cons_zero, List.set_cons_succ]
    refine wpAnyH_take (i := 3) (oi := ?oi3p) (v := ?v3p) ?hi3p ?hs3p ?hf3p ?hr3p ?hQ3p ?hy3p ?hS3p ?h3p
    case hi3p => exact (by simp only [List.getElem?_toArray, List.getElem?_cons_succ, List.getElem?_cons_zero]; rfl)
    case hs3p => kernel_rfl
    case hf3p => kernel_rfl
    case hr3p => kernel_rfl
    case hQ3p => exact fun _ _ _ h => h
    case hy3p =>
      refine Or.inl ⟨rfl, ?_⟩
      intro W hSw
      obtain ⟨y0, y1, y2, y3, y4, y5⟩ := hSw
      go_simp
      try with_reducible rfl
    case hS3p => assumption
    try simp only [Act.put, List.setIfInBounds_toArray, List.set_cons_zero, List.set_cons_succ]
    refine wpAnyH_take (i := 4) (oi := ?oi4p) (v := (.bool true)) ?hi4p ?hs4p ?hf4p ?hr4p ?hQ4p ?hy4p ?hS4p ?h4p
    case hi4p => exact (by simp only [List.getElem?_toArray, List.getElem?_cons_succ, List.getElem?_cons_zero]; rfl)
    case hs4p => kernel_rfl
    case hf4p => kernel_rfl
    case hr4p => kernel_rfl
    case hQ4p => exact fun _ _ _ h => h
    case hy4p =>
      refine Or.inl ⟨rfl, ?_⟩
      intro W hSw
      obtain ⟨y0, y1, y2, y3, y4, y5⟩ := hSw
      have z1 := HK1.out
      go_simp
      all_goals first | with_reducible rfl | (simp; done) | (simp; omega) | omega
    case hS4p => assumption
    try simp only [Act.put, List.setIfInBounds_toArray, List.set_cons_zero, List.set_cons_succ]
    refine wpAnyH_take (i := 5) (oi := ?oi5p) (v := ?v5p) ?hi5p ?hs5p ?hf5p ?hr5p ?hQ5p ?hy5p ?hS5p ?h5p
    case hi5p => exact (by simp only [List.getElem?_toArray, List.getElem?_cons_succ, List.getElem?_cons_zero]; rfl)
    case hs5p => kernel_rfl
    case hf5p => kernel_rfl
    case hr5p => kernel_rfl
    case hQ5p => exact fun _ _ _ h => h
    case hy5p =>
      refine Or.inl ⟨rfl, ?_⟩
      intro W hSw
      obtain ⟨y0, y1, y2, y3, y4, y5⟩ := hSw
      go_simp
      try with_reducible rfl
    case hS5p => assumption
    try simp only [Act.put, List.setIfInBounds_toArray, List.set_cons_zero, List.set_cons_succ]
    refine wpAnyH_take (i := 6) (oi := ?oi6p) (v := ?v6p) ?hi6p ?hs6p ?hf6p ?hr6p ?hQ6p ?hy6p ?hS6p ?h6p
    case hi6p => exact (by simp only [List.getElem?_toArray, List.getElem?_cons_succ, List.getElem?_cons_zero]; rfl)
    case hs6p => kernel_rfl
    case hf6p => kernel_rfl
    case hr6p => kernel_rfl
    case hQ6p => exact fun _ _ _ h => h
    case hy6p =>
      refine Or.inl ⟨rfl, ?_⟩
      intro W hSw
      obtain ⟨y0, y1, y2, y3, y4, y5⟩ := hSw
      go_simp
      try with_reducible rfl
    case hS6p => assumption
    try simp only [Act.put, List.setIfInBounds_toArray, List.set_cons_zero, List.set_cons_succ]
    refine wpAnyH_take (i := 7) (oi := ?oi7p) (v := ?v7p) ?hi7p ?hs7p ?hf7p ?hr7p ?hQ7p ?hy7p ?hS7p ?h7p
    case hi7p => exact (by simp only [List.getElem?_toArray, List.getElem?_cons_succ, List.getElem?_cons_zero]; rfl)
    case hs7p => kernel_rfl
    case hf7p => kernel_rfl
    case hr7p => kernel_rfl
    case hQ7p => exact fun _ _ _ h => h
    case hy7p =>
      refine Or.inl ⟨rfl, ?_⟩
      intro W hSw
      obtain ⟨y0, y1, y2, y3, y4, y5⟩ := hSw
      go_simp
      try with_reducible rfl
    case hS7p => assumption
    try simp only [Act.put, List.setIfInBounds_toArray, List.set_cons_zero, List.set_cons_succ]
    refine wpAnyH_take (i := 8) (oi := ?oi8p) (v := ?v8p) ?hi8p ?hs8p ?hf8p ?hr8p ?hQ8p ?hy8p ?hS8p ?h8p
    case hi8p => exact (by simp only [List.getElem?_toArray, List.getElem?_cons_succ, List.getElem?_cons_zero]; rfl)
    case hs8p => kernel_rfl
    case hf8p => kernel_rfl
    case hr8p => kernel_rfl
    case hQ8p => exact fun _ _ _ h => h
    case hy8p =>
      refine Or.inl ⟨rfl, ?_⟩
      intro W hSw
      obtain ⟨y0, y1, y2, y3, y4, y5⟩ := hSw
      go_simp
      try with_reducible rfl
    case hS8p => assumption
    try simp only [Act.put, List.setIfInBounds_toArray, List.set_cons_zero, List.set_cons_succ]
    refine wpAnyH_take (i := 9) (oi := ?oi9p) (v := ?v9p) ?hi9p ?hs9p ?hf9p ?hr9p ?hQ9p ?hy9p ?hS9p ?h9p
    case hi9p => exact (by simp only [List.getElem?_toArray, List.getElem?_cons_succ, List.getElem?_cons_zero]; rfl)
    case hs9p => kernel_rfl
    case hf9p => kernel_rfl
    case hr9p => kernel_rfl
    case hQ9p => exact fun _ _ _ h => h
    case hy9p =>
      refine Or.inl ⟨rfl, ?_⟩
      intro W hSw
      obtain ⟨y0, y1, y2, y3, y4, y5⟩ := hSw
      go_simp
      try with_reducible rfl
    case hS9p => assumption
    try simp only [Act.put, List.setIfInBounds_toArray, List.set_cons_zero, List.set_cons_succ]
    refine wpAnyH_take (i := 10) (oi := ?oi10p) (v := (.int .i64 (a1 + 1))) ?hi10p ?hs10p ?hf10p ?hr10p ?hQ10p ?hy10p ?hS10p ?h10p
    case hi10p => exact (by simp only [List.getElem?_toArray, List.getElem?_cons_succ, List.getElem?_cons_zero]; rfl)
    case hs10p => kernel_rfl
    case hf10p => kernel_rfl
    case hr10p => kernel_rfl
    case hQ10p => exact fun _ _ _ h => h
    case hy10p =>
      refine Or.inl ⟨rfl, ?_⟩
      intro W hSw
      obtain ⟨y0, y1, y2, y3, y4, y5⟩ := hSw
      have z1 := HWR.out
      go_simp
      try with_reducible rfl
    case hS10p => assumption
    try simp only [Act.put, List.setIfInBounds_toArray, List.set_cons_zero, List.set_cons_succ]
    refine wpAnyH_take (i := 11) (oi := ?oi11p) (v := (.int .i64 h1)) ?hi11p ?hs11p ?hf11p ?hr11p ?hQ11p ?hy11p ?hS11p ?h11p
    case hi11p => exact (by simp only [List.getElem?_toArray, List.getElem?_cons_succ, List.getElem?_cons_zero]; rfl)
    case hs11p => kernel_rfl
    case hf11p => kernel_rfl
    case hr11p => kernel_rfl
    case hQ11p => exact fun _ _ _ h => h
    case hy11p =>
      refine Or.inl ⟨rfl, ?_⟩
      intro W hSw
      obtain ⟨y0, y1, y2, y3, y4, y5⟩ := hSw
      have z1 := HUP.out
      go_simp
      all_goals first | with_reducible rfl | (simp; done) | (simp; omega) | omega
    case hS11p => assumption
    try simp only [Act.put, List.setIfInBounds_toArray, List.set_cons_zero, List.set_cons_succ]
    refine wpAnyH_take (i := 12) (oi := ?oi12p) (v := (.bool true)) ?hi12p ?hs12p ?hf12p ?hr12p ?hQ12p ?hy12p ?hS12p ?h12p
    case hi12p => exact (by simp only [List.getElem?_toArray, List.getElem?_cons_succ, List.getElem?_cons_zero]; rfl)
    case hs12p => kernel_rfl
    case hf12p => kernel_rfl
    case hr12p => kernel_rfl
    case hQ12p => exact fun _ _ _ h => h
    case hy12p =>
      refine Or.inl ⟨rfl, ?_⟩
      intro W hSw
      obtain ⟨y0, y1, y2, y3, y4, y5⟩ := hSw
      go_simp
      all_goals first | with_reducible rfl | (simp; done) | (simp; omega) | omega
    case hS12p => assumption
    try simp only [Act.put, List.setIfInBounds_toArray, List.set_cons_zero, List.set_cons_succ]
    refine wpAnyH_take (i := 13) (oi := ?oi13p) (v := (.bool true)) ?hi13p ?hs13p ?hf13p ?hr13p ?hQ13p ?hy13p ?hS13p ?h13p
    case hi13p => exact (by simp only [List.getElem?_toArray, List.getElem?_cons_succ, List.getElem?_cons_zero]; rfl)
    case hs13p => kernel_rfl
    case hf13p => kernel_rfl
    case hr13p => kernel_rfl
    case hQ13p => exact fun _ _ _ h => h
    case hy13p =>
      refine Or.inl ⟨rfl, ?_⟩
      intro W hSw
      obtain ⟨y0, y1, y2, y3, y4, y5⟩ := hSw
      go_simp
      try with_reducible rfl
    case hS13p => assumption
    try simp only [Act.put, List.setIfInBounds_toArray, List.set_cons_zero, List.set_cons_succ]
    refine wpAnyH_take (i := 14) (oi := ?oi14p) (v := ?v14p) ?hi14p ?hs14p ?hf14p ?hr14p ?hQ14p ?hy14p ?hS14p ?h14p
    case hi14p => exact (by simp only [List.getElem?_toArray, List.getElem?_cons_succ, List.getElem?_cons_zero]; rfl)
    case hs14p => kernel_rfl
    case hf14p => kernel_rfl
    case hr14p => kernel_rfl
    case hQ14p => exact fun _ _ _ h => h
    case hy14p =>
      refine Or.inl ⟨rfl, ?_⟩
      intro W hSw
      obtain ⟨y0, y1, y2, y3, y4, y5⟩ := hSw
      go_simp
      try with_reducible rfl
    case hS14p => assumption
    try simp only [Act.put, List.setIfInBounds_toArray, List.set_cons_zero, List.set_cons_succ]
    refine wpAnyH_take (i := 15) (oi := ?oi15p) (v := ?v15p) ?hi15p ?hs15p ?hf15p ?hr15p ?hQ15p ?hy15p ?hS15p ?h15p
    case hi15p => exact (by simp only [List.getElem?_toArray, List.getElem?_cons_succ, List.getElem?_cons_zero]; rfl)
    case hs15p => kernel_rfl
    case hf15p => kernel_rfl
    case hr15p => kernel_rfl
    case hQ15p => exact fun _ _ _ h => h
    case hy15p =>
      refine Or.inl ⟨rfl, ?_⟩
      intro W hSw
      obtain ⟨y0, y1, y2, y3, y4, y5⟩ := hSw
      go_simp
      try with_reducible rfl
    case hS15p => assumption
    try simp only [Act.put, List.setIfInBounds_toArray, List.set_cons_zero, List.set_cons_succ]
    refine wpAnyH_take (i := 16) (oi := ?oi16p) (v := ?v16p) ?hi16p ?hs16p ?hf16p ?hr16p ?hQ16p ?hy16p ?hS16p ?h16p
    case hi16p => exact (by simp only [List.getElem?_toArray, List.getElem?_cons_succ, List.getElem?_cons_zero]; rfl)
    case hs16p => kernel_rfl
    case hf16p => kernel_rfl
    case hr16p => kernel_rfl
    case hQ16p => exact fun _ _ _ h => h
    case hy16p =>
      refine Or.inl ⟨rfl, ?_⟩
      intro W hSw
      obtain ⟨y0, y1, y2, y3, y4, y5⟩ := hSw
      go_simp
      try with_reducible rfl
    case hS16p => assumption
    try simp only [Act.put, List.setIfInBounds_toArray, List.set_cons_zero, List.set_cons_succ]
    refine wpAnyH_take (i := 17) (oi := ?oi17p) (v := ?v17p) ?hi17p ?hs17p ?hf17p ?hr17p ?hQ17p ?hy17p ?hS17p ?h17p
    case hi17p => exact (by simp only [List.getElem?_toArray, List.getElem?_cons_succ, List.getElem?_cons_zero]; rfl)
    case hs17p => kernel_rfl
    case hf17p => kernel_rfl
    case hr17p => kernel_rfl
    case hQ17p => exact fun _ _ _ h => h
    case hy17p =>
      refine Or.inl ⟨rfl, ?_⟩
      intro W hSw
      obtain ⟨y0, y1, y2, y3, y4, y5⟩ := hSw
      go_simp
      try with_reducible rfl
    case hS17p => assumption
    try simp only [Act.put, List.setIfInBounds_toArray, List.set_cons_zero, List.set_cons_succ]
    refine wpAnyH_take (i := 18) (oi := ?oi18p) (v := (.bool true)) ?hi18p ?hs18p ?hf18p ?hr18p ?hQ18p ?hy18p ?hS18p ?h18p
    case hi18p => exact (by simp only [List.getElem?_toArray, List.getElem?_cons_succ, List.getElem?_cons_zero]; rfl)
    case hs18p => kernel_rfl
    case hf18p => kernel_rfl
    case hr18p => kernel_rfl
    case hQ18p => exact fun _ _ _ h => h
    case hy18p =>
      refine Or.inl ⟨rfl, ?_⟩
      intro W hSw
      obtain ⟨y0, y1, y2, y3, y4, y5⟩ := hSw
      go_simp
      all_goals first | with_reducible rfl | (simp; done) | (simp; omega) | omega
    case hS18p => assumption
    try simp only [Act.put, List.setIfInBounds_toArray, List.set_cons_zero, List.set_cons_succ]
    refine wpAnyH_take (i := 19) (oi := ?oi19p) (v := (.bool true)) ?hi19p ?hs19p ?hf19p ?hr19p ?hQ19p ?hy19p ?hS19p ?h19p
    case hi19p => exact (by simp only [List.getElem?_toArray, List.getElem?_cons_succ, List.getElem?_cons_zero]; rfl)
    case hs19p => kernel_rfl
    case hf19p => kernel_rfl
    case hr19p => kernel_rfl
    case hQ19p => exact fun _ _ _ h => h
    case hy19p =>
      refine Or.inl ⟨rfl, ?_⟩
      intro W hSw
      obtain ⟨y0, y1, y2, y3, y4, y5⟩ := hSw
      go_simp
      try with_reducible rfl
    case hS19p => assumption
    try simp only [Act.put, List.setIfInBounds_toArray, List.set_cons_zero, List.set_cons_succ]
    refine wpAnyH_take (i := 20) (oi := ?oi20p) (v := ?v20p) ?hi20p ?hs20p ?hf20p ?hr20p ?hQ20p ?hy20p ?hS20p ?h20p
    case hi20p => exact (by simp only [List.getElem?_toArray, List.getElem?_cons_succ, List.getElem?_cons_zero]; rfl)
    case hs20p => kernel_rfl
    case hf20p => kernel_rfl
    case hr20p => kernel_rfl
    case hQ20p => exact fun _ _ _ h => h
    case hy20p =>
      refine Or.inl ⟨rfl, ?_⟩
      intro W hSw
      obtain ⟨y0, y1, y2, y3, y4, y5⟩ := hSw
      go_simp
      try with_reducible rfl
    case hS20p => assumption
    try simp only [Act.put, List.setIfInBounds_toArray, List.set_cons_zero, List.set_cons_succ]
    refine wpAnyH_take (i := 21) (oi := ?oi21p) (v := ?v21p) ?hi21p ?hs21p ?hf21p ?hr21p ?hQ21p ?hy21p ?hS21p ?h21p
    case hi21p => exact (by simp only [List.getElem?_toArray, List.getElem?_cons_succ, List.getElem?_cons_zero]; rfl)
    case hs21p => kernel_rfl
    case hf21p => kernel_rfl
    case hr21p => kernel_rfl
    case hQ21p => exact fun _ _ _ h => h
    case hy21p =>
      refine Or.inl ⟨rfl, ?_⟩
      intro W hSw
      obtain ⟨y0, y1, y2, y3, y4, y5⟩ := hSw
      go_simp
      try with_reducible rfl
    case hS21p => assumption
    try simp only [Act.put, List.setIfInBounds_toArray, List.set_cons_zero, List.set_cons_succ]
    refine wpAnyH_take (i := 22) (oi := ?oi22p) (v := ?v22p) ?hi22p ?hs22p ?hf22p ?hr22p ?hQ22p ?hy22p ?hS22p ?h22p
    case hi22p => exact (by simp only [List.getElem?_toArray, List.getElem?_cons_succ, List.getElem?_cons_zero]; rfl)
    case hs22p => kernel_rfl
    case hf22p => kernel_rfl
    case hr22p => kernel_rfl
    case hQ22p => exact fun _ _ _ h => h
    case hy22p =>
      refine Or.inl ⟨rfl, ?_⟩
      intro W hSw
      obtain ⟨y0, y1, y2, y3, y4, y5⟩ := hSw
      go_simp
      try with_reducible rfl
    case hS22p => assumption
    try simp only [Act.put, List.setIfInBounds_toArray, List.set_cons_zero, List.set_cons_succ]
    refine wpAnyH_ready (rs := [23]) (by kernel_rfl) (by simp) ?_
    refine AllReadyH.cons (o := _) rfl (fun K hK => ?_) AllReadyH.nil
    go_simp
    refine (HFY.out Wp0).mono ?_
    rintro r Wp1 ⟨rfl, hbq⟩
    have HBp1 := Lib.hid (HDp.out.trans (hbq.mono HDp.out.size))
    clear hbq
    refine hK.out _ _ (HCE.out _ HBp1.out) (fun hHeld => ?_)
    clear hK K
    try simp only [Act.put, List.setIfInBounds_toArray, List.set_cons_zero, List.set_cons_succ]
    refine wpAnyH_take (i := 24) (oi := ?oi24p) (v := (.bool true)) ?hi24p ?hs24p ?hf24p ?hr24p ?hQ24p ?hy24p ?hS24p ?h24p
    case hi24p => exact (by simp only [List.getElem?_toArray, List.getElem?_cons_succ, List.getElem?_cons_zero]; rfl)
    case hs24p => kernel_rfl
    case hf24p => kernel_rfl
    case hr24p => kernel_rfl
    case hQ24p => exact fun _ _ _ h => h
    case hy24p =>
      refine Or.inl ⟨rfl, ?_⟩
      intro W hSw
      obtain ⟨y0, y1, y2, y3, y4, y5⟩ := hSw
      have z1 := HG.out
      go_simp
      all_goals first | with_reducible rfl | (simp; done) | (simp; omega) | omega
    case hS24p => assumption
    try simp only [Act.put, List.setIfInBounds_toArray, List.set_cons_zero, List.set_cons_succ]
    refine wpAnyH_take (i := 25) (oi := ?oi25p) (v := ?v25p) ?hi25p ?hs25p ?hf25p ?hr25p ?hQ25p ?hy25p ?hS25p ?h25p
    case hi25p => exact (by simp only [List.getElem?_toArray, List.getElem?_cons_succ, List.getElem?_cons_zero]; rfl)
    case hs25p => kernel_rfl
    case hf25p => kernel_rfl
    case hr25p => kernel_rfl
    case hQ25p => exact fun _ _ _ h => h
    case hy25p =>
      refine Or.inl ⟨rfl, ?_⟩
      intro W hSw
      obtain ⟨y0, y1, y2, y3, y4, y5⟩ := hSw
      go_simp
      try with_reducible rfl
    case hS25p => assumption
    try simp only [Act.put, List.setIfInBounds_toArray, List.set_cons_zero, List.set_cons_succ]
    refine wpAnyH_take (i := 26) (oi := ?oi26p) (v := undef) ?hi26p ?hs26p ?hf26p ?hr26p ?hQ26p ?hy26p ?hS26p ?h26p
    case hi26p => exact (by simp only [List.getElem?_toArray, List.getElem?_cons_succ, List.getElem?_cons_zero]; rfl)
    case hs26p => kernel_rfl
    case hf26p => kernel_rfl
    case hr26p => kernel_rfl
    case hQ26p => exact fun _ _ _ h => h
    case hy26p =>
      exact Or.inr ⟨rfl, rfl⟩
    case hS26p => assumption
    try simp only [Act.put, List.setIfInBounds_toArray, List.set_cons_zero, List.set_cons_succ]
    refine wpAnyH_take (i := 27) (oi := ?oi27p) (v := undef) ?hi27p ?hs27p ?hf27p ?hr27p ?hQ27p ?hy27p ?hS27p ?h27p
    case hi27p => exact (by simp only [List.getElem?_toArray, List.getElem?_cons_succ, List.getElem?_cons_zero]; rfl)
    case hs27p => kernel_rfl
    case hf27p => kernel_rfl
    case hr27p => kernel_rfl
    case hQ27p => exact fun _ _ _ h => h
    case hy27p =>
      exact Or.inr ⟨rfl, rfl⟩
    case hS27p => assumption
    try simp only [Act.put, List.setIfInBounds_toArray, List.set_cons_zero, List.set_cons_succ]
    refine wpAnyH_take (i := 28) (oi := ?oi28p) (v := undef) ?hi28p ?hs28p ?hf28p ?hr28p ?hQ28p ?hy28p ?hS28p ?h28p
    case hi28p => exact (by simp only [List.getElem?_toArray, List.getElem?_cons_succ, List.getElem?_cons_zero]; rfl)
    case hs28p => kernel_rfl
    case hf28p => kernel_rfl
    case hr28p => kernel_rfl
    case hQ28p => exact fun _ _ _ h => h
    case hy28p =>
      exact Or.inr ⟨rfl, rfl⟩
    case hS28p => assumption
    try simp only [Act.put, List.setIfInBounds_toArray, List.set_cons_zero, List.set_cons_succ]
    refine wpAnyH_take (i := 29) (oi := ?oi29p) (v := (.bool true)) ?hi29p ?hs29p ?hf29p ?hr29p ?hQ29p ?hy29p ?hS29p ?h29p
    case hi29p => exact (by simp only [List.getElem?_toArray, List.getElem?_cons_succ, List.getElem?_cons_zero]; rfl)
    case hs29p => kernel_rfl
    case hf29p => kernel_rfl
    case hr29p => kernel_rfl
    case hQ29p => exact fun _ _ _ h => h
    case hy29p =>
      refine Or.inl ⟨rfl, ?_⟩
      intro W hSw
      obtain ⟨y0, y1, y2, y3, y4, y5⟩ := hSw
      go_simp
      try with_reducible rfl
    case hS29p => assumption
    try simp only [Act.put, List.setIfInBounds_toArray, List.set_cons_zero, List.set_cons_succ]
    refine wpAnyH_take (i := 30) (oi := ?oi30p) (v := (.bool true)) ?hi30p ?hs30p ?hf30p ?hr30p ?hQ30p ?hy30p ?hS30p ?h30p
    case hi30p => exact (by simp only [List.getElem?_toArray, List.getElem?_cons_succ, List.getElem?_cons_zero]; rfl)
    case hs30p => kernel_rfl
    case hf30p => kernel_rfl
    case hr30p => kernel_rfl
    case hQ30p => exact fun _ _ _ h => h
    case hy30p =>
      refine Or.inl ⟨rfl, ?_⟩
      intro W hSw
      obtain ⟨y0, y1, y2, y3, y4, y5⟩ := hSw
      go_simp
      try with_reducible rfl
    case hS30p => assumption
    try simp only [Act.put, List.setIfInBounds_toArray, List.set_cons_zero, List.set_cons_succ]
    refine wpAnyH_take (i := 31) (oi := ?oi31p) (v := ?v31p) ?hi31p ?hs31p ?hf31p ?hr31p ?hQ31p ?hy31p ?hS31p ?h31p
    case hi31p => exact (by simp only [List.getElem?_toArray, List.getElem?_cons_succ, List.getElem?_cons_zero]; rfl)
    case hs31p => kernel_rfl
    case hf31p => kernel_rfl
    case hr31p => kernel_rfl
    case hQ31p => exact fun _ _ _ h => h
    case hy31p =>
      refine Or.inl ⟨rfl, ?_⟩
      intro W hSw
      obtain ⟨y0, y1, y2, y3, y4, y5⟩ := hSw
      go_simp
      try with_reducible rfl
    case hS31p => assumption
    try simp only [Act.put, List.setIfInBounds_toArray, List.set_cons_zero, List.set_cons_succ]
    refine wpAnyH_take (i := 32) (oi := ?oi32p) (v := ?v32p) ?hi32p ?hs32p ?hf32p ?hr32p ?hQ32p ?hy32p ?hS32p ?h32p
    case hi32p => exact (by simp only [List.getElem?_toArray, List.getElem?_cons_succ, List.getElem?_cons_zero]; rfl)
    case hs32p => kernel_rfl
    case hf32p => kernel_rfl
    case hr32p => kernel_rfl
    case hQ32p => exact fun _ _ _ h => h
    case hy32p =>
      refine Or.inl ⟨rfl, ?_⟩
      intro W hSw
      obtain ⟨y0, y1, y2, y3, y4, y5⟩ := hSw
      go_simp
      try with_reducible rfl
    case hS32p => assumption
    try simp only [Act.put, List.setIfInBounds_toArray, List.set_cons_zero, List.set_cons_succ]
    refine wpAnyH_take (i := 33) (oi := ?oi33p) (v := ?v33p) ?hi33p ?hs33p ?hf33p ?hr33p ?hQ33p ?hy33p ?hS33p ?h33p
    case hi33p => exact (by simp only [List.getElem?_toArray, List.getElem?_cons_succ, List.getElem?_cons_zero]; rfl)
    case hs33p => kernel_rfl
    case hf33p => kernel_rfl
    case hr33p => kernel_rfl
    case hQ33p => exact fun _ _ _ h => h
    case hy33p =>
      refine Or.inl ⟨rfl, ?_⟩
      intro W hSw
      obtain ⟨y0, y1, y2, y3, y4, y5⟩ := hSw
      go_simp
      try with_reducible rfl
    case hS33p => assumption
    try simp only [Act.put, List.setIfInBounds_toArray, List.set_cons_zero, List.set_cons_succ]
    refine wpAnyH_take (i := 35) (oi := ?oi35p) (v := ?v35p) ?hi35p ?hs35p ?hf35p ?hr35p ?hQ35p ?hy35p ?hS35p ?h35p
    case hi35p => exact (by simp only [List.getElem?_toArray, List.getElem?_cons_succ, List.getElem?_cons_zero]; rfl)
    case hs35p => kernel_rfl
    case hf35p => kernel_rfl
    case hr35p => kernel_rfl
    case hQ35p => exact fun _ _ _ h => h
    case hy35p =>
      refine Or.inl ⟨rfl, ?_⟩
      intro W hSw
      obtain ⟨y0, y1, y2, y3, y4, y5⟩ := hSw
      go_simp
      try with_reducible rfl
    case hS35p => assumption
    try simp only [Act.put, List.setIfInBounds_toArray, List.set_cons_zero, List.set_cons_succ]
    refine wpAnyH_take (i := 36) (oi := ?oi36p) (v := ?v36p) ?hi36p ?hs36p ?hf36p ?hr36p ?hQ36p ?hy36p ?hS36p ?h36p
    case hi36p => exact (by simp only [List.getElem?_toArray, List.getElem?_cons_succ, List.getElem?_cons_zero]; rfl)
    case hs36p => kernel_rfl
    case hf36p => kernel_rfl
    case hr36p => kernel_rfl
    case hQ36p => exact fun _ _ _ h => h
    case hy36p =>
      refine Or.inl ⟨rfl, ?_⟩
      intro W hSw
      obtain ⟨y0, y1, y2, y3, y4, y5⟩ := hSw
      go_simp
      try with_reducible rfl
    case hS36p => assumption
    try simp only [Act.put, List.setIfInBounds_toArray, List.set_cons_zero, List.set_cons_succ]
    refine wpAnyH_take (i := 38) (oi := ?oi38p) (v := ?v38p) ?hi38p ?hs38p ?hf38p ?hr38p ?hQ38p ?hy38p ?hS38p ?h38p
    case hi38p => exact (by simp only [List.getElem?_toArray, List.getElem?_cons_succ, List.getElem?_cons_zero]; rfl)
    case hs38p => kernel_rfl
    case hf38p => kernel_rfl
    case hr38p => kernel_rfl
    case hQ38p => exact fun _ _ _ h => h
    case hy38p =>
      refine Or.inl ⟨rfl, ?_⟩
      intro W hSw
      obtain ⟨y0, y1, y2, y3, y4, y5⟩ := hSw
      go_simp
      try with_reducible rfl
    case hS38p => assumption
    try simp only [Act.put, List.setIfInBounds_toArray, List.set_cons_zero, List.set_cons_succ]
    refine wpAnyH_ready (rs := [34]) (by kernel_rfl) (by simp) ?_
    refine AllReadyH.cons (o := _) rfl (fun K hK => ?_) AllReadyH.nil
    go_simp
    refine (HFY.out Wp1).mono ?_
    rintro r Wp2 ⟨rfl, hbq⟩
    have HBp2 := Lib.hid (HBp1.out.trans (hbq.mono HBp1.out.size))
    clear hbq
    refine hK.out _ _ (HCE.out _ HBp2.out) (fun hHeld => ?_)
    clear hK K
    try simp only [Act.put, List.setIfInBounds_toArray, List.set_cons_zero, List.set_cons_succ]
    refine wpAnyH_ready (rs := [37]) (by kernel_rfl) (by simp) ?_
    refine AllReadyH.cons (o := _) rfl (fun K hK => ?_) AllReadyH.nil
    go_simp
    refine (HFX.out Wp2).mono ?_
    rintro r Wp3 ⟨rfl, hbq⟩
    have HBp3 := Lib.hid (HBp2.out.trans (hbq.mono HBp2.out.size))
    clear hbq
    refine hK.out _ _ (HCE.out _ HBp3.out) (fun hHeld => ?_)
    clear hK K
    try simp only [Act.put, List.setIfInBounds_toArray, List.set_cons_zero, List.set_cons_succ]
    refine wpAnyH_take (i := 39) (oi := ?oi39p) (v := (.int .i64 mx)) ?hi39p ?hs39p ?hf39p ?hr39p ?hQ39p ?hy39p ?hS39p ?h39p
    case hi39p => exact (by simp only [List.getElem?_toArray, List.getElem?_cons_succ, List.getElem?_cons_zero]; rfl)
    case hs39p => kernel_rfl
    case hf39p => kernel_rfl
    case hr39p => kernel_rfl
    case hQ39p => exact fun _ _ _ h => h
    case hy39p =>
      refine Or.inl ⟨rfl, ?_⟩
      intro W hSw
      obtain ⟨y0, y1, y2, y3, y4, y5⟩ := hSw
      have z1 := HMX.out
      go_simp
      all_goals first | with_reducible rfl | (simp; done) | (simp; omega) | omega
    case hS39p => assumption
    try simp only [Act.put, List.setIfInBounds_toArray, List.set_cons_zero, List.set_cons_succ]
    refine wpAnyH_take (i := 40) (oi := ?oi40p) (v := (.bool true)) ?hi40p ?hs40p ?hf40p ?hr40p ?hQ40p ?hy40p ?hS40p ?h40p
    case hi40p => exact (by simp only [List.getElem?_toArray, List.getElem?_cons_succ, List.getElem?_cons_zero]; rfl)
    case hs40p => kernel_rfl
    case hf40p => kernel_rfl
    case hr40p => kernel_rfl
    case hQ40p => exact fun _ _ _ h => h
    case hy40p =>
      refine Or.inl ⟨rfl, ?_⟩
      intro W hSw
      obtain ⟨y0, y1, y2, y3, y4, y5⟩ := hSw
      have z1 := HK4.out
      go_simp
      all_goals first | with_reducible rfl | (simp; done) | (simp; omega) | omega
    case hS40p => assumption
    try simp only [Act.put, List.setIfInBounds_toArray, List.set_cons_zero, List.set_cons_succ]
    refine wpAnyH_take (i := 41) (oi := ?oi41p) (v := (.bool true)) ?hi41p ?hs41p ?hf41p ?hr41p ?hQ41p ?hy41p ?hS41p ?h41p
    case hi41p => exact (by simp only [List.getElem?_toArray, List.getElem?_cons_succ, List.getElem?_cons_zero]; rfl)
    case hs41p => kernel_rfl
    case hf41p => kernel_rfl
    case hr41p => kernel_rfl
    case hQ41p => exact fun _ _ _ h => h
    case hy41p =>
      refine Or.inl ⟨rfl, ?_⟩
      intro W hSw
      obtain ⟨y0, y1, y2, y3, y4, y5⟩ := hSw
      go_simp
      try with_reducible rfl
    case hS41p => assumption
    try simp only [Act.put, List.setIfInBounds_toArray, List.set_cons_zero, List.set_cons_succ]
    refine wpAnyH_take (i := 42) (oi := ?oi42p) (v := ?v42p) ?hi42p ?hs42p ?hf42p ?hr42p ?hQ42p ?hy42p ?hS42p ?h42p
    case hi42p => exact (by simp only [List.getElem?_toArray, List.getElem?_cons_succ, List.getElem?_cons_zero]; rfl)
    case hs42p => kernel_rfl
    case hf42p => kernel_rfl
    case hr42p => kernel_rfl
    case hQ42p => exact fun _ _ _ h => h
    case hy42p =>
      refine Or.inl ⟨rfl, ?_⟩
      intro W hSw
      obtain ⟨y0, y1, y2, y3, y4, y5⟩ := hSw
      go_simp
      try with_reducible rfl
    case hS42p => assumption
    try simp only [Act.put, List.setIfInBounds_toArray, List.set_cons_zero, List.set_cons_succ]
    refine wpAnyH_ready (rs := [43]) (by kernel_rfl) (by simp) ?_
    refine AllReadyH.cons (o := _) rfl (fun K hK => ?_) AllReadyH.nil
    go_simp
    refine (HW.out Wp3 (HBW.out _ HBp3.out)).mono ?_
    rintro r Wp4 ⟨rfl, hbq⟩
    have HBp4 := Lib.hid (HBp3.out.trans (hbq.mono HBp3.out.size))
    clear hbq
    refine hK.out _ _ (HCE.out _ HBp4.out) (fun hHeld => ?_)
    clear hK K
    try simp only [Act.put, List.setIfInBounds_toArray, List.set_cons_zero, List.set_cons_succ]
    refine wpAnyH_take (i := 44) (oi := ?oi44p) (v := (.bool true)) ?hi44p ?hs44p ?hf44p ?hr44p ?hQ44p ?hy44p ?hS44p ?h44p
    case hi44p => exact (by simp only [List.getElem?_toArray, List.getElem?_cons_succ, List.getElem?_cons_zero]; rfl)
    case hs44p => kernel_rfl
    case hf44p => kernel_rfl
    case hr44p => kernel_rfl
    case hQ44p => exact fun _ _ _ h => h
    case hy44p =>
      refine Or.inl ⟨rfl, ?_⟩
      intro W hSw
      obtain ⟨y0, y1, y2, y3, y4, y5⟩ := hSw
      go_simp
      try with_reducible rfl
    case hS44p => assumption
    try simp only [Act.put, List.setIfInBounds_toArray, List.set_cons_zero, List.set_cons_succ]
    refine wpAnyH_take (i := 45) (oi := ?oi45p) (v := ?v45p) ?hi45p ?hs45p ?hf45p ?hr45p ?hQ45p ?hy45p ?hS45p ?h45p
    case hi45p => exact (by simp only [List.getElem?_toArray, List.getElem?_cons_succ, List.getElem?_cons_zero]; rfl)
    case hs45p => kernel_rfl
    case hf45p => kernel_rfl
    case hr45p => kernel_rfl
    case hQ45p => exact fun _ _ _ h => h
    case hy45p =>
      refine Or.inl ⟨rfl, ?_⟩
      intro W hSw
      obtain ⟨y0, y1, y2, y3, y4, y5⟩ := hSw
      go_simp
      try with_reducible rfl
    case hS45p => assumption
    try simp only [Act.put, List.setIfInBounds_toArray, List.set_cons_zero, List.set_cons_succ]
    refine wpAnyH_done (by kernel_rfl) ?_ _
    try go_wp2
    go_ret
    exact ⟨rfl, HBW.out _ HBp4.out⟩
  · have HG : Hid (¬ 60 ≤ fy) := h60
    have HG2 : Hid ((h3 == 9223372036854775807) = true) := by
      show _ = _
      rcases k2 with k | k
      · exact absurd k h60
      · rw [k]; rfl
    clear k2
    have HDq : Hid (Below w6.heap.size w6 w6.drew) := HBS.out.drew
    refine wp_region_held_drew (S := fun W : World => W.cell? ⟨Y, 0, none⟩ = some (.int .i64 h1) ∧ W.cell? ⟨Y, 1, none⟩ = some (.int .i64 now) ∧ W.cell? ⟨Y, 2, none⟩ = some (.int .i64 h3) ∧ W.cell? ⟨X, 0, none⟩ = some (.int .i64 a1) ∧ W.cell? ⟨X, 1, none⟩ = some (.int .i64 a2) ∧ W.cell? ⟨X, 2, none⟩ = some (.int .i64 a3)) (by kernel_rfl) (HCE.out _ HDq.out) (fun hHeld => ?_)
    obtain ⟨Wq0, hW0⟩ : ∃ W0, W0 = w6.drew := ⟨_, rfl⟩
    rw [← hW0] at hHeld HDq ⊢
    clear hW0
    refine wpAnyH_take (i := 0) (oi := ?oi0q) (v := ?v0q) ?hi0q ?hs0q ?hf0q ?hr0q ?hQ0q ?hy0q ?hS0q ?h0q
    case hi0q => exact (by simp only [List.getElem?_toArray, List.getElem?_cons_zero]; rfl)
    case hs0q => kernel_rfl
    case hf0q => kernel_rfl
    case hr0q => kernel_rfl
    case hQ0q => exact fun _ _ _ h => h
    case hy0q =>
      refine Or.inl ⟨rfl, ?_⟩
      intro W hSw
      obtain ⟨y0, y1, y2, y3, y4, y5⟩ := hSw
      go_simp
      try with_reducible rfl
    case hS0q => assumption
    try simp only [Act.put, List.setIfInBounds_toArray, List.set_cons_zero, List.set_cons_succ]
    refine wpAnyH_take (i := 1) (oi := ?oi1q) (v := ?v1q) ?hi1q ?hs1q ?hf1q ?hr1q ?hQ1q ?hy1q ?hS1q ?h1q
    case hi1q => exact (by simp only [List.getElem?_toArray, List.getElem?_cons_succ, List.getElem?_cons_zero]; rfl)
    case hs1q => kernel_rfl
    case hf1q => kernel_rfl
    case hr1q => kernel_rfl
    case hQ1q => exact fun _ _ _ h => h
    case hy1q =>
      refine Or.inl ⟨rfl, ?_⟩
      intro W hSw
      obtain ⟨y0, y1, y2, y3, y4, y5⟩ := hSw
      go_simp
      try with_reducible rfl
    case hS1q => assumption
    try simp only [Act.put, List.setIfInBounds_toArray, List.set_cons_zero, List.set_cons_succ]
    refine wpAnyH_take (i := 2) (oi := ?oi2q) (v := ?v2q) ?hi2q ?hs2q ?hf2q ?hr2q ?hQ2q ?hy2q ?hS2q ?h2q
    case hi2q => exact (by simp only [List.getElem?_toArray, List.getElem?_cons_succ, List.getElem?_cons_zero]; rfl)
    case hs2q => kernel_rfl
    case hf2q => kernel_rfl
    case hr2q => kernel_rfl
    case hQ2q => exact fun _ _ _ h => h
    case hy2q =>
      refine Or.inl ⟨rfl, ?_⟩
      intro W hSw
      obtain ⟨y0, y1, y2, y3, y4, y5⟩ := hSw
      go_simp
      try with_reducible rfl
    case hS2q => assumption
    try simp only [Act.put, List.setIfInBounds_toArray, List.set_cons_zero, List.set_cons_succ]
    refine wpAnyH_take (i := 3) (oi := ?oi3q) (v := ?v3q) ?hi3q ?hs3q ?hf3q ?hr3q ?hQ3q ?hy3q ?hS3q ?h3q
    case hi3q => exact (by simp only [List.getElem?_toArray, List.getElem?_cons_succ, List.getElem?_cons_zero]; rfl)
    case hs3q => kernel_rfl
    case hf3q => kernel_rfl
    case hr3q => kernel_rfl
    case hQ3q => exact fun _ _ _ h => h
    case hy3q =>
      refine Or.inl ⟨rfl, ?_⟩
      intro W hSw
      obtain ⟨y0, y1, y2, y3, y4, y5⟩ := hSw
      go_simp
      try with_reducible rfl
    case hS3q => assumption
    try simp only [Act.put, List.setIfInBounds_toArray, List.set_cons_zero, List.set_cons_succ]
    refine wpAnyH_take (i := 4) (oi := ?oi4q) (v := (.bool true)) ?hi4q ?hs4q ?hf4q ?hr4q ?hQ4q ?hy4q ?hS4q ?h4q
    case hi4q => exact (by simp only [List.getElem?_toArray, List.getElem?_cons_succ, List.getElem?_cons_zero]; rfl)
    case hs4q => kernel_rfl
    case hf4q => kernel_rfl
    case hr4q => kernel_rfl
    case hQ4q => exact fun _ _ _ h => h
    case hy4q =>
      refine Or.inl ⟨rfl, ?_⟩
      intro W hSw
      obtain ⟨y0, y1, y2, y3, y4, y5⟩ := hSw
      have z1 := HK1.out
      go_simp
      all_goals first | with_reducible rfl | (simp; done) | (simp; omega) | omega
    case hS4q => assumption
    try simp only [Act.put, List.setIfInBounds_toArray, List.set_cons_zero, List.set_cons_succ]
    refine wpAnyH_take (i := 5) (oi := ?oi5q) (v := ?v5q) ?hi5q ?hs5q ?hf5q ?hr5q ?hQ5q ?hy5q ?hS5q ?h5q
    case hi5q => exact (by simp only [List.getElem?_toArray, List.getElem?_cons_succ, List.getElem?_cons_zero]; rfl)
    case hs5q => kernel_rfl
    case hf5q => kernel_rfl
    case hr5q => kernel_rfl
    case hQ5q => exact fun _ _ _ h => h
    case hy5q =>
      refine Or.inl ⟨rfl, ?_⟩
      intro W hSw
      obtain ⟨y0, y1, y2, y3, y4, y5⟩ := hSw
      go_simp
      try with_reducible rfl
    case hS5q => assumption
    try simp only [Act.put, List.setIfInBounds_toArray, List.set_cons_zero, List.set_cons_succ]
    refine wpAnyH_take (i := 6) (oi := ?oi6q) (v := ?v6q) ?hi6q ?hs6q ?hf6q ?hr6q ?hQ6q ?hy6q ?hS6q ?h6q
    case hi6q => exact (by simp only [List.getElem?_toArray, List.getElem?_cons_succ, List.getElem?_cons_zero]; rfl)
    case hs6q => kernel_rfl
    case hf6q => kernel_rfl
    case hr6q => kernel_rfl
    case hQ6q => exact fun _ _ _ h => h
    case hy6q =>
      refine Or.inl ⟨rfl, ?_⟩
      intro W hSw
      obtain ⟨y0, y1, y2, y3, y4, y5⟩ := hSw
      go_simp
      try with_reducible rfl
    case hS6q => assumption
    try simp only [Act.put, List.setIfInBounds_toArray, List.set_cons_zero, List.set_cons_succ]
    refine wpAnyH_take (i := 7) (oi := ?oi7q) (v := ?v7q) ?hi7q ?hs7q ?hf7q ?hr7q ?hQ7q ?hy7q ?hS7q ?h7q
    case hi7q => exact (by simp only [List.getElem?_toArray, List.getElem?_cons_succ, List.getElem?_cons_zero]; rfl)
    case hs7q => kernel_rfl
    case hf7q => kernel_rfl
    case hr7q => kernel_rfl
    case hQ7q => exact fun _ _ _ h => h
    case hy7q =>
      refine Or.inl ⟨rfl, ?_⟩
      intro W hSw
      obtain ⟨y0, y1, y2, y3, y4, y5⟩ := hSw
      go_simp
      try with_reducible rfl
    case hS7q => assumption
    try simp only [Act.put, List.setIfInBounds_toArray, List.set_cons_zero, List.set_cons_succ]
    refine wpAnyH_take (i := 8) (oi := ?oi8q) (v := ?v8q) ?hi8q ?hs8q ?hf8q ?hr8q ?hQ8q ?hy8q ?hS8q ?h8q
    case hi8q => exact (by simp only [List.getElem?_toArray, List.getElem?_cons_succ, List.getElem?_cons_zero]; rfl)
    case hs8q => kernel_rfl
    case hf8q => kernel_rfl
    case hr8q => kernel_rfl
    case hQ8q => exact fun _ _ _ h => h
    case hy8q =>
      refine Or.inl ⟨rfl, ?_⟩
      intro W hSw
      obtain ⟨y0, y1, y2, y3, y4, y5⟩ := hSw
      go_simp
      try with_reducible rfl
    case hS8q => assumption
    try simp only [Act.put, List.setIfInBounds_toArray, List.set_cons_zero, List.set_cons_succ]
    refine wpAnyH_take (i := 9) (oi := ?oi9q) (v := ?v9q) ?hi9q ?hs9q ?hf9q ?hr9q ?hQ9q ?hy9q ?hS9q ?h9q
    case hi9q => exact (by simp only [List.getElem?_toArray, List.getElem?_cons_succ, List.getElem?_cons_zero]; rfl)
    case hs9q => kernel_rfl
    case hf9q => kernel_rfl
    case hr9q => kernel_rfl
    case hQ9q => exact fun _ _ _ h => h
    case hy9q =>
      refine Or.inl ⟨rfl, ?_⟩
      intro W hSw
      obtain ⟨y0, y1, y2, y3, y4, y5⟩ := hSw
      go_simp
      try with_reducible rfl
    case hS9q => assumption
    try simp only [Act.put, List.setIfInBounds_toArray, List.set_cons_zero, List.set_cons_succ]
    refine wpAnyH_take (i := 10) (oi := ?oi10q) (v := (.int .i64 (a1 + 1))) ?hi10q ?hs10q ?hf10q ?hr10q ?hQ10q ?hy10q ?hS10q ?h10q
    case hi10q => exact (by simp only [List.getElem?_toArray, List.getElem?_cons_succ, List.getElem?_cons_zero]; rfl)
    case hs10q => kernel_rfl
    case hf10q => kernel_rfl
    case hr10q => kernel_rfl
    case hQ10q => exact fun _ _ _ h => h
    case hy10q =>
      refine Or.inl ⟨rfl, ?_⟩
      intro W hSw
      obtain ⟨y0, y1, y2, y3, y4, y5⟩ := hSw
      have z1 := HWR.out
      go_simp
      try with_reducible rfl
    case hS10q => assumption
    try simp only [Act.put, List.setIfInBounds_toArray, List.set_cons_zero, List.set_cons_succ]
    refine wpAnyH_take (i := 11) (oi := ?oi11q) (v := (.int .i64 h1)) ?hi11q ?hs11q ?hf11q ?hr11q ?hQ11q ?hy11q ?hS11q ?h11q
    case hi11q => exact (by simp only [List.getElem?_toArray, List.getElem?_cons_succ, List.getElem?_cons_zero]; rfl)
    case hs11q => kernel_rfl
    case hf11q => kernel_rfl
    case hr11q => kernel_rfl
    case hQ11q => exact fun _ _ _ h => h
    case hy11q =>
      refine Or.inl ⟨rfl, ?_⟩
      intro W hSw
      obtain ⟨y0, y1, y2, y3, y4, y5⟩ := hSw
      have z1 := HUP.out
      go_simp
      all_goals first | with_reducible rfl | (simp; done) | (simp; omega) | omega
    case hS11q => assumption
    try simp only [Act.put, List.setIfInBounds_toArray, List.set_cons_zero, List.set_cons_succ]
    refine wpAnyH_take (i := 12) (oi := ?oi12q) (v := (.bool true)) ?hi12q ?hs12q ?hf12q ?hr12q ?hQ12q ?hy12q ?hS12q ?h12q
    case hi12q => exact (by simp only [List.getElem?_toArray, List.getElem?_cons_succ, List.getElem?_cons_zero]; rfl)
    case hs12q => kernel_rfl
    case hf12q => kernel_rfl
    case hr12q => kernel_rfl
    case hQ12q => exact fun _ _ _ h => h
    case hy12q =>
      refine Or.inl ⟨rfl, ?_⟩
      intro W hSw
      obtain ⟨y0, y1, y2, y3, y4, y5⟩ := hSw
      go_simp
      all_goals first | with_reducible rfl | (simp; done) | (simp; omega) | omega
    case hS12q => assumption
    try simp only [Act.put, List.setIfInBounds_toArray, List.set_cons_zero, List.set_cons_succ]
    refine wpAnyH_take (i := 13) (oi := ?oi13q) (v := (.bool true)) ?hi13q ?hs13q ?hf13q ?hr13q ?hQ13q ?hy13q ?hS13q ?h13q
    case hi13q => exact (by simp only [List.getElem?_toArray, List.getElem?_cons_succ, List.getElem?_cons_zero]; rfl)
    case hs13q => kernel_rfl
    case hf13q => kernel_rfl
    case hr13q => kernel_rfl
    case hQ13q => exact fun _ _ _ h => h
    case hy13q =>
      refine Or.inl ⟨rfl, ?_⟩
      intro W hSw
      obtain ⟨y0, y1, y2, y3, y4, y5⟩ := hSw
      go_simp
      try with_reducible rfl
    case hS13q => assumption
    try simp only [Act.put, List.setIfInBounds_toArray, List.set_cons_zero, List.set_cons_succ]
    refine wpAnyH_take (i := 14) (oi := ?oi14q) (v := ?v14q) ?hi14q ?hs14q ?hf14q ?hr14q ?hQ14q ?hy14q ?hS14q ?h14q
    case hi14q => exact (by simp only [List.getElem?_toArray, List.getElem?_cons_succ, List.getElem?_cons_zero]; rfl)
    case hs14q => kernel_rfl
    case hf14q => kernel_rfl
    case hr14q => kernel_rfl
    case hQ14q => exact fun _ _ _ h => h
    case hy14q =>
      refine Or.inl ⟨rfl, ?_⟩
      intro W hSw
      obtain ⟨y0, y1, y2, y3, y4, y5⟩ := hSw
      go_simp
      try with_reducible rfl
    case hS14q => assumption
    try simp only [Act.put, List.setIfInBounds_toArray, List.set_cons_zero, List.set_cons_succ]
    refine wpAnyH_take (i := 15) (oi := ?oi15q) (v := ?v15q) ?hi15q ?hs15q ?hf15q ?hr15q ?hQ15q ?hy15q ?hS15q ?h15q
    case hi15q => exact (by simp only [List.getElem?_toArray, List.getElem?_cons_succ, List.getElem?_cons_zero]; rfl)
    case hs15q => kernel_rfl
    case hf15q => kernel_rfl
    case hr15q => kernel_rfl
    case hQ15q => exact fun _ _ _ h => h
    case hy15q =>
      refine Or.inl ⟨rfl, ?_⟩
      intro W hSw
      obtain ⟨y0, y1, y2, y3, y4, y5⟩ := hSw
      go_simp
      try with_reducible rfl
    case hS15q => assumption
    try simp only [Act.put, List.setIfInBounds_toArray, List.set_cons_zero, List.set_cons_succ]
    refine wpAnyH_take (i := 16) (oi := ?oi16q) (v := ?v16q) ?hi16q ?hs16q ?hf16q ?hr16q ?hQ16q ?hy16q ?hS16q ?h16q
    case hi16q => exact (by simp only [List.getElem?_toArray, List.getElem?_cons_succ, List.getElem?_cons_zero]; rfl)
    case hs16q => kernel_rfl
    case hf16q => kernel_rfl
    case hr16q => kernel_rfl
    case hQ16q => exact fun _ _ _ h => h
    case hy16q =>
      refine Or.inl ⟨rfl, ?_⟩
      intro W hSw
      obtain ⟨y0, y1, y2, y3, y4, y5⟩ := hSw
      go_simp
      try with_reducible rfl
    case hS16q => assumption
    try simp only [Act.put, List.setIfInBounds_toArray, List.set_cons_zero, List.set_cons_succ]
    refine wpAnyH_take (i := 17) (oi := ?oi17q) (v := ?v17q) ?hi17q ?hs17q ?hf17q ?hr17q ?hQ17q ?hy17q ?hS17q ?h17q
    case hi17q => exact (by simp only [List.getElem?_toArray, List.getElem?_cons_succ, List.getElem?_cons_zero]; rfl)
    case hs17q => kernel_rfl
    case hf17q => kernel_rfl
    case hr17q => kernel_rfl
    case hQ17q => exact fun _ _ _ h => h
    case hy17q =>
      refine Or.inl ⟨rfl, ?_⟩
      intro W hSw
      obtain ⟨y0, y1, y2, y3, y4, y5⟩ := hSw
      go_simp
      try with_reducible rfl
    case hS17q => assumption
    try simp only [Act.put, List.setIfInBounds_toArray, List.set_cons_zero, List.set_cons_succ]
    refine wpAnyH_take (i := 18) (oi := ?oi18q) (v := (.bool true)) ?hi18q ?hs18q ?hf18q ?hr18q ?hQ18q ?hy18q ?hS18q ?h18q
    case hi18q => exact (by simp only [List.getElem?_toArray, List.getElem?_cons_succ, List.getElem?_cons_zero]; rfl)
    case hs18q => kernel_rfl
    case hf18q => kernel_rfl
    case hr18q => kernel_rfl
    case hQ18q => exact fun _ _ _ h => h
    case hy18q =>
      refine Or.inl ⟨rfl, ?_⟩
      intro W hSw
      obtain ⟨y0, y1, y2, y3, y4, y5⟩ := hSw
      go_simp
      all_goals first | with_reducible rfl | (simp; done) | (simp; omega) | omega
    case hS18q => assumption
    try simp only [Act.put, List.setIfInBounds_toArray, List.set_cons_zero, List.set_cons_succ]
    refine wpAnyH_take (i := 19) (oi := ?oi19q) (v := (.bool true)) ?hi19q ?hs19q ?hf19q ?hr19q ?hQ19q ?hy19q ?hS19q ?h19q
    case hi19q => exact (by simp only [List.getElem?_toArray, List.getElem?_cons_succ, List.getElem?_cons_zero]; rfl)
    case hs19q => kernel_rfl
    case hf19q => kernel_rfl
    case hr19q => kernel_rfl
    case hQ19q => exact fun _ _ _ h => h
    case hy19q =>
      refine Or.inl ⟨rfl, ?_⟩
      intro W hSw
      obtain ⟨y0, y1, y2, y3, y4, y5⟩ := hSw
      go_simp
      try with_reducible rfl
    case hS19q => assumption
    try simp only [Act.put, List.setIfInBounds_toArray, List.set_cons_zero, List.set_cons_succ]
    refine wpAnyH_take (i := 20) (oi := ?oi20q) (v := ?v20q) ?hi20q ?hs20q ?hf20q ?hr20q ?hQ20q ?hy20q ?hS20q ?h20q
    case hi20q => exact (by simp only [List.getElem?_toArray, List.getElem?_cons_succ, List.getElem?_cons_zero]; rfl)
    case hs20q => kernel_rfl
    case hf20q => kernel_rfl
    case hr20q => kernel_rfl
    case hQ20q => exact fun _ _ _ h => h
    case hy20q =>
      refine Or.inl ⟨rfl, ?_⟩
      intro W hSw
      obtain ⟨y0, y1, y2, y3, y4, y5⟩ := hSw
      go_simp
      try with_reducible rfl
    case hS20q => assumption
    try simp only [Act.put, List.setIfInBounds_toArray, List.set_cons_zero, List.set_cons_succ]
    refine wpAnyH_take (i := 21) (oi := ?oi21q) (v := ?v21q) ?hi21q ?hs21q ?hf21q ?hr21q ?hQ21q ?hy21q ?hS21q ?h21q
    case hi21q => exact (by simp only [List.getElem?_toArray, List.getElem?_cons_succ, List.getElem?_cons_zero]; rfl)
    case hs21q => kernel_rfl
    case hf21q => kernel_rfl
    case hr21q => kernel_rfl
    case hQ21q => exact fun _ _ _ h => h
    case hy21q =>
      refine Or.inl ⟨rfl, ?_⟩
      intro W hSw
      obtain ⟨y0, y1, y2, y3, y4, y5⟩ := hSw
      go_simp
      try with_reducible rfl
    case hS21q => assumption
    try simp only [Act.put, List.setIfInBounds_toArray, List.set_cons_zero, List.set_cons_succ]
    refine wpAnyH_take (i := 22) (oi := ?oi22q) (v := ?v22q) ?hi22q ?hs22q ?hf22q ?hr22q ?hQ22q ?hy22q ?hS22q ?h22q
    case hi22q => exact (by simp only [List.getElem?_toArray, List.getElem?_cons_succ, List.getElem?_cons_zero]; rfl)
    case hs22q => kernel_rfl
    case hf22q => kernel_rfl
    case hr22q => kernel_rfl
    case hQ22q => exact fun _ _ _ h => h
    case hy22q =>
      refine Or.inl ⟨rfl, ?_⟩
      intro W hSw
      obtain ⟨y0, y1, y2, y3, y4, y5⟩ := hSw
      go_simp
      try with_reducible rfl
    case hS22q => assumption
    try simp only [Act.put, List.setIfInBounds_toArray, List.set_cons_zero, List.set_cons_succ]
    refine wpAnyH_ready (rs := [23]) (by kernel_rfl) (by simp) ?_
    refine AllReadyH.cons (o := _) rfl (fun K hK => ?_) AllReadyH.nil
    go_simp
    refine (HFY.out Wq0).mono ?_
    rintro r Wq1 ⟨rfl, hbq⟩
    have HBq1 := Lib.hid (HDq.out.trans (hbq.mono HDq.out.size))
    clear hbq
    refine hK.out _ _ (HCE.out _ HBq1.out) (fun hHeld => ?_)
    clear hK K
    try simp only [Act.put, List.setIfInBounds_toArray, List.set_cons_zero, List.set_cons_succ]
    refine wpAnyH_take (i := 24) (oi := ?oi24q) (v := (.bool false)) ?hi24q ?hs24q ?hf24q ?hr24q ?hQ24q ?hy24q ?hS24q ?h24q
    case hi24q => exact (by simp only [List.getElem?_toArray, List.getElem?_cons_succ, List.getElem?_cons_zero]; rfl)
    case hs24q => kernel_rfl
    case hf24q => kernel_rfl
    case hr24q => kernel_rfl
    case hQ24q => exact fun _ _ _ h => h
    case hy24q =>
      refine Or.inl ⟨rfl, ?_⟩
      intro W hSw
      obtain ⟨y0, y1, y2, y3, y4, y5⟩ := hSw
      have z1 := HG.out
      go_simp
      all_goals first | with_reducible rfl | (simp; done) | (simp; omega) | omega
    case hS24q => assumption
    try simp only [Act.put, List.setIfInBounds_toArray, List.set_cons_zero, List.set_cons_succ]
    refine wpAnyH_take (i := 25) (oi := ?oi25q) (v := ?v25q) ?hi25q ?hs25q ?hf25q ?hr25q ?hQ25q ?hy25q ?hS25q ?h25q
    case hi25q => exact (by simp only [List.getElem?_toArray, List.getElem?_cons_succ, List.getElem?_cons_zero]; rfl)
    case hs25q => kernel_rfl
    case hf25q => kernel_rfl
    case hr25q => kernel_rfl
    case hQ25q => exact fun _ _ _ h => h
    case hy25q =>
      refine Or.inl ⟨rfl, ?_⟩
      intro W hSw
      obtain ⟨y0, y1, y2, y3, y4, y5⟩ := hSw
      go_simp
      try with_reducible rfl
    case hS25q => assumption
    try simp only [Act.put, List.setIfInBounds_toArray, List.set_cons_zero, List.set_cons_succ]
    refine wpAnyH_take (i := 26) (oi := ?oi26q) (v := ?v26q) ?hi26q ?hs26q ?hf26q ?hr26q ?hQ26q ?hy26q ?hS26q ?h26q
    case hi26q => exact (by simp only [List.getElem?_toArray, List.getElem?_cons_succ, List.getElem?_cons_zero]; rfl)
    case hs26q => kernel_rfl
    case hf26q => kernel_rfl
    case hr26q => kernel_rfl
    case hQ26q => exact fun _ _ _ h => h
    case hy26q =>
      refine Or.inl ⟨rfl, ?_⟩
      intro W hSw
      obtain ⟨y0, y1, y2, y3, y4, y5⟩ := hSw
      go_simp
      try with_reducible rfl
    case hS26q => assumption
    try simp only [Act.put, List.setIfInBounds_toArray, List.set_cons_zero, List.set_cons_succ]
    refine wpAnyH_take (i := 27) (oi := ?oi27q) (v := ?v27q) ?hi27q ?hs27q ?hf27q ?hr27q ?hQ27q ?hy27q ?hS27q ?h27q
    case hi27q => exact (by simp only [List.getElem?_toArray, List.getElem?_cons_succ, List.getElem?_cons_zero]; rfl)
    case hs27q => kernel_rfl
    case hf27q => kernel_rfl
    case hr27q => kernel_rfl
    case hQ27q => exact fun _ _ _ h => h
    case hy27q =>
      refine Or.inl ⟨rfl, ?_⟩
      intro W hSw
      obtain ⟨y0, y1, y2, y3, y4, y5⟩ := hSw
      go_simp
      try with_reducible rfl
    case hS27q => assumption
    try simp only [Act.put, List.setIfInBounds_toArray, List.set_cons_zero, List.set_cons_succ]
    refine wpAnyH_take (i := 28) (oi := ?oi28q) (v := (.bool true)) ?hi28q ?hs28q ?hf28q ?hr28q ?hQ28q ?hy28q ?hS28q ?h28q
    case hi28q => exact (by simp only [List.getElem?_toArray, List.getElem?_cons_succ, List.getElem?_cons_zero]; rfl)
    case hs28q => kernel_rfl
    case hf28q => kernel_rfl
    case hr28q => kernel_rfl
    case hQ28q => exact fun _ _ _ h => h
    case hy28q =>
      refine Or.inl ⟨rfl, ?_⟩
      intro W hSw
      obtain ⟨y0, y1, y2, y3, y4, y5⟩ := hSw
      have z1 := HG2.out
      go_simp
      all_goals first | with_reducible rfl | (simp; done) | (simp; omega) | omega
    case hS28q => assumption
    try simp only [Act.put, List.setIfInBounds_toArray, List.set_cons_zero, List.set_cons_succ]
    refine wpAnyH_take (i := 29) (oi := ?oi29q) (v := (.bool true)) ?hi29q ?hs29q ?hf29q ?hr29q ?hQ29q ?hy29q ?hS29q ?h29q
    case hi29q => exact (by simp only [List.getElem?_toArray, List.getElem?_cons_succ, List.getElem?_cons_zero]; rfl)
    case hs29q => kernel_rfl
    case hf29q => kernel_rfl
    case hr29q => kernel_rfl
    case hQ29q => exact fun _ _ _ h => h
    case hy29q =>
      refine Or.inl ⟨rfl, ?_⟩
      intro W hSw
      obtain ⟨y0, y1, y2, y3, y4, y5⟩ := hSw
      go_simp
      try with_reducible rfl
    case hS29q => assumption
    try simp only [Act.put, List.setIfInBounds_toArray, List.set_cons_zero, List.set_cons_succ]
    refine wpAnyH_take (i := 30) (oi := ?oi30q) (v := (.bool true)) ?hi30q ?hs30q ?hf30q ?hr30q ?hQ30q ?hy30q ?hS30q ?h30q
    case hi30q => exact (by simp only [List.getElem?_toArray, List.getElem?_cons_succ, List.getElem?_cons_zero]; rfl)
    case hs30q => kernel_rfl
    case hf30q => kernel_rfl
    case hr30q => kernel_rfl
    case hQ30q => exact fun _ _ _ h => h
    case hy30q =>
      refine Or.inl ⟨rfl, ?_⟩
      intro W hSw
      obtain ⟨y0, y1, y2, y3, y4, y5⟩ := hSw
      go_simp
      try with_reducible rfl
    case hS30q => assumption
    try simp only [Act.put, List.setIfInBounds_toArray, List.set_cons_zero, List.set_cons_succ]
    refine wpAnyH_take (i := 31) (oi := ?oi31q) (v := ?v31q) ?hi31q ?hs31q ?hf31q ?hr31q ?hQ31q ?hy31q ?hS31q ?h31q
    case hi31q => exact (by simp only [List.getElem?_toArray, List.getElem?_cons_succ, List.getElem?_cons_zero]; rfl)
    case hs31q => kernel_rfl
    case hf31q => kernel_rfl
    case hr31q => kernel_rfl
    case hQ31q => exact fun _ _ _ h => h
    case hy31q =>
      refine Or.inl ⟨rfl, ?_⟩
      intro W hSw
      obtain ⟨y0, y1, y2, y3, y4, y5⟩ := hSw
      go_simp
      try with_reducible rfl
    case hS31q => assumption
    try simp only [Act.put, List.setIfInBounds_toArray, List.set_cons_zero, List.set_cons_succ]
    refine wpAnyH_take (i := 32) (oi := ?oi32q) (v := ?v32q) ?hi32q ?hs32q ?hf32q ?hr32q ?hQ32q ?hy32q ?hS32q ?h32q
    case hi32q => exact (by simp only [List.getElem?_toArray, List.getElem?_cons_succ, List.getElem?_cons_zero]; rfl)
    case hs32q => kernel_rfl
    case hf32q => kernel_rfl
    case hr32q => kernel_rfl
    case hQ32q => exact fun _ _ _ h => h
    case hy32q =>
      refine Or.inl ⟨rfl, ?_⟩
      intro W hSw
      obtain ⟨y0, y1, y2, y3, y4, y5⟩ := hSw
      go_simp
      try with_reducible rfl
    case hS32q => assumption
    try simp only [Act.put, List.setIfInBounds_toArray, List.set_cons_zero, List.set_cons_succ]
    refine wpAnyH_take (i := 33) (oi := ?oi33q) (v := ?v33q) ?hi33q ?hs33q ?hf33q ?hr33q ?hQ33q ?hy33q ?hS33q ?h33q
    case hi33q => exact (by simp only [List.getElem?_toArray, List.getElem?_cons_succ, List.getElem?_cons_zero]; rfl)
    case hs33q => kernel_rfl
    case hf33q => kernel_rfl
    case hr33q => kernel_rfl
    case hQ33q => exact fun _ _ _ h => h
    case hy33q =>
      refine Or.inl ⟨rfl, ?_⟩
      intro W hSw
      obtain ⟨y0, y1, y2, y3, y4, y5⟩ := hSw
      go_simp
      try with_reducible rfl
    case hS33q => assumption
    try simp only [Act.put, List.setIfInBounds_toArray, List.set_cons_zero, List.set_cons_succ]
    refine wpAnyH_take (i := 35) (oi := ?oi35q) (v := ?v35q) ?hi35q ?hs35q ?hf35q ?hr35q ?hQ35q ?hy35q ?hS35q ?h35q
    case hi35q => exact (by simp only [List.getElem?_toArray, List.getElem?_cons_succ, List.getElem?_cons_zero]; rfl)
    case hs35q => kernel_rfl
    case hf35q => kernel_rfl
    case hr35q => kernel_rfl
    case hQ35q => exact fun _ _ _ h => h
    case hy35q =>
      refine Or.inl ⟨rfl, ?_⟩
      intro W hSw
      obtain ⟨y0, y1, y2, y3, y4, y5⟩ := hSw
      go_simp
      try with_reducible rfl
    case hS35q => assumption
    try simp only [Act.put, List.setIfInBounds_toArray, List.set_cons_zero, List.set_cons_succ]
    refine wpAnyH_take (i := 36) (oi := ?oi36q) (v := ?v36q) ?hi36q ?hs36q ?hf36q ?hr36q ?hQ36q ?hy36q ?hS36q ?h36q
    case hi36q => exact (by simp only [List.getElem?_toArray, List.getElem?_cons_succ, List.getElem?_cons_zero]; rfl)
    case hs36q => kernel_rfl
    case hf36q => kernel_rfl
    case hr36q => kernel_rfl
    case hQ36q => exact fun _ _ _ h => h
    case hy36q =>
      refine Or.inl ⟨rfl, ?_⟩
      intro W hSw
      obtain ⟨y0, y1, y2, y3, y4, y5⟩ := hSw
      go_simp
      try with_reducible rfl
    case hS36q => assumption
    try simp only [Act.put, List.setIfInBounds_toArray, List.set_cons_zero, List.set_cons_succ]
    refine wpAnyH_take (i := 38) (oi := ?oi38q) (v := ?v38q) ?hi38q ?hs38q ?hf38q ?hr38q ?hQ38q ?hy38q ?hS38q ?h38q
    case hi38q => exact (by simp only [List.getElem?_toArray, List.getElem?_cons_succ, List.getElem?_cons_zero]; rfl)
    case hs38q => kernel_rfl
    case hf38q => kernel_rfl
    case hr38q => kernel_rfl
    case hQ38q => exact fun _ _ _ h => h
    case hy38q =>
      refine Or.inl ⟨rfl, ?_⟩
      intro W hSw
      obtain ⟨y0, y1, y2, y3, y4, y5⟩ := hSw
      go_simp
      try with_reducible rfl
    case hS38q => assumption
    try simp only [Act.put, List.setIfInBounds_toArray, List.set_cons_zero, List.set_cons_succ]
    refine wpAnyH_ready (rs := [34]) (by kernel_rfl) (by simp) ?_
    refine AllReadyH.cons (o := _) rfl (fun K hK => ?_) AllReadyH.nil
    go_simp
    refine (HFY.out Wq1).mono ?_
    rintro r Wq2 ⟨rfl, hbq⟩
    have HBq2 := Lib.hid (HBq1.out.trans (hbq.mono HBq1.out.size))
    clear hbq
    refine hK.out _ _ (HCE.out _ HBq2.out) (fun hHeld => ?_)
    clear hK K
    try simp only [Act.put, List.setIfInBounds_toArray, List.set_cons_zero, List.set_cons_succ]
    refine wpAnyH_ready (rs := [37]) (by kernel_rfl) (by simp) ?_
    refine AllReadyH.cons (o := _) rfl (fun K hK => ?_) AllReadyH.nil
    go_simp
    refine (HFX.out Wq2).mono ?_
    rintro r Wq3 ⟨rfl, hbq⟩
    have HBq3 := Lib.hid (HBq2.out.trans (hbq.mono HBq2.out.size))
    clear hbq
    refine hK.out _ _ (HCE.out _ HBq3.out) (fun hHeld => ?_)
    clear hK K
    try simp only [Act.put, List.setIfInBounds_toArray, List.set_cons_zero, List.set_cons_succ]
    refine wpAnyH_take (i := 39) (oi := ?oi39q) (v := (.int .i64 mx)) ?hi39q ?hs39q ?hf39q ?hr39q ?hQ39q ?hy39q ?hS39q ?h39q
    case hi39q => exact (by simp only [List.getElem?_toArray, List.getElem?_cons_succ, List.getElem?_cons_zero]; rfl)
    case hs39q => kernel_rfl
    case hf39q => kernel_rfl
    case hr39q => kernel_rfl
    case hQ39q => exact fun _ _ _ h => h
    case hy39q =>
      refine Or.inl ⟨rfl, ?_⟩
      intro W hSw
      obtain ⟨y0, y1, y2, y3, y4, y5⟩ := hSw
      have z1 := HMX.out
      go_simp
      all_goals first | with_reducible rfl | (simp; done) | (simp; omega) | omega
    case hS39q => assumption
    try simp only [Act.put, List.setIfInBounds_toArray, List.set_cons_zero, List.set_cons_succ]
    refine wpAnyH_take (i := 40) (oi := ?oi40q) (v := (.bool true)) ?hi40q ?hs40q ?hf40q ?hr40q ?hQ40q ?hy40q ?hS40q ?h40q
    case hi40q => exact (by simp only [List.getElem?_toArray, List.getElem?_cons_succ, List.getElem?_cons_zero]; rfl)
    case hs40q => kernel_rfl
    case hf40q => kernel_rfl
    case hr40q => kernel_rfl
    case hQ40q => exact fun _ _ _ h => h
    case hy40q =>
      refine Or.inl ⟨rfl, ?_⟩
      intro W hSw
      obtain ⟨y0, y1, y2, y3, y4, y5⟩ := hSw
      have z1 := HK4.out
      go_simp
      all_goals first | with_reducible rfl | (simp; done) | (simp; omega) | omega
    case hS40q => assumption
    try simp only [Act.put, List.setIfInBounds_toArray, List.set_cons_zero, List.set_cons_succ]
    refine wpAnyH_take (i := 41) (oi := ?oi41q) (v := (.bool true)) ?hi41q ?hs41q ?hf41q ?hr41q ?hQ41q ?hy41q ?hS41q ?h41q
    case hi41q => exact (by simp only [List.getElem?_toArray, List.getElem?_cons_succ, List.getElem?_cons_zero]; rfl)
    case hs41q => kernel_rfl
    case hf41q => kernel_rfl
    case hr41q => kernel_rfl
    case hQ41q => exact fun _ _ _ h => h
    case hy41q =>
      refine Or.inl ⟨rfl, ?_⟩
      intro W hSw
      obtain ⟨y0, y1, y2, y3, y4, y5⟩ := hSw
      go_simp
      try with_reducible rfl
    case hS41q => assumption
    try simp only [Act.put, List.setIfInBounds_toArray, List.set_cons_zero, List.set_cons_succ]
    refine wpAnyH_take (i := 42) (oi := ?oi42q) (v := ?v42q) ?hi42q ?hs42q ?hf42q ?hr42q ?hQ42q ?hy42q ?hS42q ?h42q
    case hi42q => exact (by simp only [List.getElem?_toArray, List.getElem?_cons_succ, List.getElem?_cons_zero]; rfl)
    case hs42q => kernel_rfl
    case hf42q => kernel_rfl
    case hr42q => kernel_rfl
    case hQ42q => exact fun _ _ _ h => h
    case hy42q =>
      refine Or.inl ⟨rfl, ?_⟩
      intro W hSw
      obtain ⟨y0, y1, y2, y3, y4, y5⟩ := hSw
      go_simp
      try with_reducible rfl
    case hS42q => assumption
    try simp only [Act.put, List.setIfInBounds_toArray, List.set_cons_zero, List.set_cons_succ]
    refine wpAnyH_ready (rs := [43]) (by kernel_rfl) (by simp) ?_
    refine AllReadyH.cons (o := _) rfl (fun K hK => ?_) AllReadyH.nil
    go_simp
    refine (HW.out Wq3 (HBW.out _ HBq3.out)).mono ?_
    rintro r Wq4 ⟨rfl, hbq⟩
    have HBq4 := Lib.hid (HBq3.out.trans (hbq.mono HBq3.out.size))
    clear hbq
    refine hK.out _ _ (HCE.out _ HBq4.out) (fun hHeld => ?_)
    clear hK K
    try simp only [Act.put, List.setIfInBounds_toArray, List.set_cons_zero, List.set_cons_succ]
    refine wpAnyH_take (i := 44) (oi := ?oi44q) (v := (.bool true)) ?hi44q ?hs44q ?hf44q ?hr44q ?hQ44q ?hy44q ?hS44q ?h44q
    case hi44q => exact (by simp only [List.getElem?_toArray, List.getElem?_cons_succ, List.getElem?_cons_zero]; rfl)
    case hs44q => kernel_rfl
    case hf44q => kernel_rfl
    case hr44q => kernel_rfl
    case hQ44q => exact fun _ _ _ h => h
    case hy44q =>
      refine Or.inl ⟨rfl, ?_⟩
      intro W hSw
      obtain ⟨y0, y1, y2, y3, y4, y5⟩ := hSw
      go_simp
      try with_reducible rfl
    case hS44q => assumption
    try simp only [Act.put, List.setIfInBounds_toArray, List.set_cons_zero, List.set_cons_succ]
    refine wpAnyH_take (i := 45) (oi := ?oi45q) (v := ?v45q) ?hi45q ?hs45q ?hf45q ?hr45q ?hQ45q ?hy45q ?hS45q ?h45q
    case hi45q => exact (by simp only [List.getElem?_toArray, List.getElem?_cons_succ, List.getElem?_cons_zero]; rfl)
    case hs45q => kernel_rfl
    case hf45q => kernel_rfl
    case hr45q => kernel_rfl
    case hQ45q => exact fun _ _ _ h => h
    case hy45q =>
      refine Or.inl ⟨rfl, ?_⟩
      intro W hSw
      obtain ⟨y0, y1, y2, y3, y4, y5⟩ := hSw
      go_simp
      try with_reducible rfl
    case hS45q => assumption
    try simp only [Act.put, List.setIfInBounds_toArray, List.set_cons_zero, List.set_cons_succ]
    refine wpAnyH_done (by kernel_rfl) ?_ _
    try go_wp2
    go_ret
    exact ⟨rfl, HBW.out _ HBq4.out⟩
end Go.Proofs.YtfcogjdnnnpmdaaDoor
