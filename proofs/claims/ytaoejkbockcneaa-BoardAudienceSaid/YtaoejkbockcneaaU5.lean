/- Board: BoardHides' walk. -/
import Derived.Test.YtaoejkbockcneaaU4
namespace Go.Proofs.Ytaoejkbockcneaa.Bd
open Go.RowKit
set_option maxRecDepth 20000

set_option maxHeartbeats 8000000 in
theorem hides_same (p : Nat) (a b : Int) (w : World) (sa sb : Int) (hsa : sa = seen a) (hsb : sb = seen b) (h1 : 1 ≤ p) (h2 : p ≤ 2147483647) (hs : sa = sb) : Calls Try.prog 11 #[.int .u32 (p : Int), .int .i64 a, .int .i64 b] w fun r w' => r = .returned (.bool true) ∧ Below w.heap.size w w' := by
  obtain ⟨L, hL⟩ : ∃ L, L = w.heap.size + 1 := ⟨_, rfl⟩
  obtain ⟨M, hM⟩ : ∃ M, M = w.heap.size := ⟨_, rfl⟩
  have HRA : Hid (∀ W, Calls Try.prog 37 #[.int .i64 a] W fun r w' => r = .returned (.int .i64 sa) ∧ Below W.heap.size W w') := fun W => by rw [hsa]; exact rseen_any a W
  have HRB : Hid (∀ W, Calls Try.prog 37 #[.int .i64 b] W fun r w' => r = .returned (.int .i64 sb) ∧ Below W.heap.size W w') := fun W => by rw [hsb]; exact rseen_any b W
  have HAW := Lib.hid awake_any
  have HN : Hid (Calls Try.prog 28 #[] w fun e w' => e = .returned (.pointer (some ⟨L, 0, none⟩)) ∧ IsB w' L M 0 (Dn p 0 0) ∧ Below w.heap.size w w') := by
    rw [hL, hM, Dn_zero]
    exact new_any w
  have H1 : Hid (∀ W, IsB W L M 0 (Dn p 0 0) → Calls Try.prog 32 #[.pointer (some ⟨L, 0, none⟩), .int .u32 (p : Int), .int .i64 a] W fun r w' => r = .returned (.tuple #[]) ∧ IsB w' L M 1 (Dn p (nrm a) 0) ∧ ChM M W w') := fun W h => set_yes L M 0 p 0 0 a W h h1 h2 (by omega)
  have H2 : Hid (∀ W, IsB W L M 1 (Dn p (nrm a) 0) → Calls Try.prog 31 #[.pointer (some ⟨L, 0, none⟩)] W fun r w' => (∃ v, r = .returned v) ∧ IsB w' L M 2 (Dn p (nrm a) sa) ∧ ChM M W w') := fun W h => (flush_any L M 1 p (nrm a) 0 W h (by omega) (by omega)).mono fun r w' ⟨⟨v, h1, _⟩, h2, h3⟩ => ⟨⟨v, h1⟩, by rw [hsa, ← seen_nrm]; exact h2, h3⟩
  have H3 : Hid (∀ W, IsB W L M 2 (Dn p (nrm a) sa) → Calls Try.prog 32 #[.pointer (some ⟨L, 0, none⟩), .int .u32 (p : Int), .int .i64 b] W fun r w' => r = .returned (.tuple #[]) ∧ IsB w' L M 3 (Dn p (nrm b) sa) ∧ ChM M W w') := fun W h => set_yes L M 2 p (nrm a) sa b W h h1 h2 (by omega)
  have H4 : Hid (∀ W, IsB W L M 3 (Dn p (nrm b) sa) → Calls Try.prog 31 #[.pointer (some ⟨L, 0, none⟩)] W fun r w' => (∃ v, r = .returned v ∧ Told W w' p (nrm b) sa v) ∧ ChM M W w') := fun W h => (flush_any L M 3 p (nrm b) sa W h (by omega) (by omega)).mono fun r w' ⟨h1, _, h3⟩ => ⟨h1, h3⟩
  have HM := Lib.hid hM
  have HSB : Hid (seen (nrm b) = sb) := by rw [hsb]; exact seen_nrm b
  have t1 : decide ((p : Int) ≥ 1) = true := by rw [decide_eq_true_iff]; omega
  have t2 : decide ((p : Int) ≤ 2147483647) = true := by rw [decide_eq_true_iff]; omega
  have t3 : (sa == sb) = true := by simp [hs]
  have HS := Lib.hid hs
  clear hL hM hsa hsb h1 h2 hs
  go_enter Try.func11, Try.ntmps11
  go_wp2_with fail
  refine (HN.out).mono ?_
  rintro r w1 ⟨rfl, hI1, hB1⟩
  have HB1 := Lib.hid hB1
  clear hB1
  go_wp2_with fail
  refine (H1.out w1 hI1).mono ?_
  rintro r w2 ⟨rfl, hI2, hC2⟩
  have HC2 := Lib.hid hC2
  clear hI1 hC2
  go_wp2_with fail
  refine (H2.out w2 hI2).mono ?_
  rintro r w3 ⟨⟨v3, rfl⟩, hI3, hC3⟩
  have HC3 := Lib.hid (HC2.out.trans hC3)
  clear hI2 hC3 HC2
  go_wp2_with fail
  refine (H3.out w3 hI3).mono ?_
  rintro r w4 ⟨rfl, hI4, hC4⟩
  have HC4 := Lib.hid (HC3.out.trans hC4)
  clear hI3 hC4 HC3
  go_wp2_with fail
  refine (H4.out w4 hI4).mono ?_
  rintro r w5 ⟨⟨v, rfl, hT⟩, hC5⟩
  have HB5 : Hid (Below w.heap.size w w5) := HB1.out.trans ((HC4.out.trans hC5).1 _ (by rw [HM.out]; exact Nat.le_refl _) HB1.out.size)
  clear hI4 hC5 HC4
  rcases hT with ⟨_, a', c', rfl⟩ | ⟨h, _⟩
  · skip
    go_wp2_with fail
    refine (HRA.out w5).mono ?_
    rintro r w6 ⟨rfl, hb6⟩
    have HB6 := Lib.hid (HB5.out.trans (hb6.mono HB5.out.size))
    clear hb6
    go_wp2_with fail
    refine (HRB.out w6).mono ?_
    rintro r wy ⟨rfl, hb7⟩
    have HB7 := Lib.hid (HB6.out.trans (hb7.mono HB6.out.size))
    clear hb7
    go_wp2_with fail
    refine (HAW.out wy).mono ?_
    rintro r w8 ⟨rfl, hb8⟩
    have HB8 := Lib.hid (HB7.out.trans (hb8.mono HB7.out.size))
    clear hb8
    go_wp2
    go_ret
    exact ⟨rfl, HB8.out⟩
  · exact absurd (HSB.out.trans HS.out.symm) h
set_option maxHeartbeats 16000000 in
theorem hides_other (p : Nat) (a b : Int) (w : World) (sa sb : Int) (hsa : sa = seen a) (hsb : sb = seen b) (h1 : 1 ≤ p) (h2 : p ≤ 2147483647) (hs : ¬ sa = sb) : Calls Try.prog 11 #[.int .u32 (p : Int), .int .i64 a, .int .i64 b] w fun r w' => r = .returned (.bool true) ∧ Below w.heap.size w w' := by
  obtain ⟨L, hL⟩ : ∃ L, L = w.heap.size + 1 := ⟨_, rfl⟩
  obtain ⟨M, hM⟩ : ∃ M, M = w.heap.size := ⟨_, rfl⟩
  have HRA : Hid (∀ W, Calls Try.prog 37 #[.int .i64 a] W fun r w' => r = .returned (.int .i64 sa) ∧ Below W.heap.size W w') := fun W => by rw [hsa]; exact rseen_any a W
  have HRB : Hid (∀ W, Calls Try.prog 37 #[.int .i64 b] W fun r w' => r = .returned (.int .i64 sb) ∧ Below W.heap.size W w') := fun W => by rw [hsb]; exact rseen_any b W
  have HAW := Lib.hid awake_any
  have HSN : Hid (∀ W, Calls Try.prog 34 #[.pointer none, .int .u32 (p : Int)] W fun e w' => e = .returned (.int .i64 0) ∧ Below W.heap.size W w') := fun W => (status_nil p W).mono fun r w' ⟨h1, h2⟩ => ⟨h1, by rw [h2]; exact Below.refl _ _⟩
  have HFN : Hid (∀ W, Calls Try.prog 31 #[.pointer none] W fun e w' => e = .returned (.slice none 0 0) ∧ Below W.heap.size W w') := fun W => (flush_nil W).mono fun r w' ⟨h1, h2⟩ => ⟨h1, by rw [h2]; exact Below.refl _ _⟩
  have HTN := Lib.hid fun W => set_nil p a W
  have HN : Hid (Calls Try.prog 28 #[] w fun e w' => e = .returned (.pointer (some ⟨L, 0, none⟩)) ∧ IsB w' L M 0 (Dn p 0 0) ∧ Below w.heap.size w w') := by
    rw [hL, hM, Dn_zero]
    exact new_any w
  have H1 : Hid (∀ W, IsB W L M 0 (Dn p 0 0) → Calls Try.prog 32 #[.pointer (some ⟨L, 0, none⟩), .int .u32 (p : Int), .int .i64 a] W fun r w' => r = .returned (.tuple #[]) ∧ IsB w' L M 1 (Dn p (nrm a) 0) ∧ ChM M W w') := fun W h => set_yes L M 0 p 0 0 a W h h1 h2 (by omega)
  have H2 : Hid (∀ W, IsB W L M 1 (Dn p (nrm a) 0) → Calls Try.prog 31 #[.pointer (some ⟨L, 0, none⟩)] W fun r w' => (∃ v, r = .returned v) ∧ IsB w' L M 2 (Dn p (nrm a) sa) ∧ ChM M W w') := fun W h => (flush_any L M 1 p (nrm a) 0 W h (by omega) (by omega)).mono fun r w' ⟨⟨v, h1, _⟩, h2, h3⟩ => ⟨⟨v, h1⟩, by rw [hsa, ← seen_nrm]; exact h2, h3⟩
  have H3 : Hid (∀ W, IsB W L M 2 (Dn p (nrm a) sa) → Calls Try.prog 32 #[.pointer (some ⟨L, 0, none⟩), .int .u32 (p : Int), .int .i64 b] W fun r w' => r = .returned (.tuple #[]) ∧ IsB w' L M 3 (Dn p (nrm b) sa) ∧ ChM M W w') := fun W h => set_yes L M 2 p (nrm a) sa b W h h1 h2 (by omega)
  have H4 : Hid (∀ W, IsB W L M 3 (Dn p (nrm b) sa) → Calls Try.prog 31 #[.pointer (some ⟨L, 0, none⟩)] W fun r w' => (∃ v, r = .returned v ∧ Told W w' p (nrm b) sa v) ∧ ChM M W w') := fun W h => (flush_any L M 3 p (nrm b) sa W h (by omega) (by omega)).mono fun r w' ⟨h1, _, h3⟩ => ⟨h1, h3⟩
  have HM := Lib.hid hM
  have HSB : Hid (seen (nrm b) = sb) := by rw [hsb]; exact seen_nrm b
  have t1 : decide ((p : Int) ≥ 1) = true := by rw [decide_eq_true_iff]; omega
  have t2 : decide ((p : Int) ≤ 2147483647) = true := by rw [decide_eq_true_iff]; omega
  have t3 : (sa == sb) = false := by simp [hs]
  have HS := Lib.hid hs
  clear hL hM hsa hsb h1 h2 hs
  go_enter Try.func11, Try.ntmps11
  go_wp2_with fail
  refine (HN.out).mono ?_
  rintro r w1 ⟨rfl, hI1, hB1⟩
  have HB1 := Lib.hid hB1
  clear hB1
  go_wp2_with fail
  refine (H1.out w1 hI1).mono ?_
  rintro r w2 ⟨rfl, hI2, hC2⟩
  have HC2 := Lib.hid hC2
  clear hI1 hC2
  go_wp2_with fail
  refine (H2.out w2 hI2).mono ?_
  rintro r w3 ⟨⟨v3, rfl⟩, hI3, hC3⟩
  have HC3 := Lib.hid (HC2.out.trans hC3)
  clear hI2 hC3 HC2
  go_wp2_with fail
  refine (H3.out w3 hI3).mono ?_
  rintro r w4 ⟨rfl, hI4, hC4⟩
  have HC4 := Lib.hid (HC3.out.trans hC4)
  clear hI3 hC4 HC3
  go_wp2_with fail
  refine (H4.out w4 hI4).mono ?_
  rintro r w5 ⟨⟨v, rfl, hT⟩, hC5⟩
  have HB5 : Hid (Below w.heap.size w w5) := HB1.out.trans ((HC4.out.trans hC5).1 _ (by rw [HM.out]; exact Nat.le_refl _) HB1.out.size)
  clear hI4 hC5 HC4
  rcases hT with ⟨h, _⟩ | ⟨_, g, c, rfl, _, q0, q1⟩
  · exact absurd (h.symm.trans HSB.out) HS.out
  rw [HSB.out] at q1
  have hg := World.block_lt_of_cell? w5 _ q0
  have HQ : Hid (∀ V, Below w5.heap.size w5 V → (fun W : World => W.cell? ⟨g, 0, none⟩ = some (.int .u32 (p : Int)) ∧ W.cell? ⟨g, 1, none⟩ = some (.int .i64 sb)) V) := fun V hV => by
    have e : ∀ i, V.cell? ⟨g, i, none⟩ = w5.cell? ⟨g, i, none⟩ := fun i => by unfold World.cell?; rw [hV.block g hg]
    exact ⟨(e 0).trans q0, (e 1).trans q1⟩
  clear q0 q1 hg
  go_wp2_with fail
  refine (HRA.out w5).mono ?_
  rintro r w6 ⟨rfl, hb6⟩
  have HB6 := Lib.hid (HB5.out.trans (hb6.mono HB5.out.size))
  have hb56 := hb6
  clear hb6
  go_wp2_with fail
  refine (HRB.out w6).mono ?_
  rintro r wy ⟨rfl, hb7⟩
  have HB7 := Lib.hid (HB6.out.trans (hb7.mono HB6.out.size))
  have HCY : Hid (∀ V, Below wy.heap.size wy V → (fun W : World => W.cell? ⟨g, 0, none⟩ = some (.int .u32 (p : Int)) ∧ W.cell? ⟨g, 1, none⟩ = some (.int .i64 sb)) V) := fun V hV => HQ.out V ((hb56.trans (hb7.mono hb56.size)).trans (hV.mono (hb56.trans (hb7.mono hb56.size)).size))
  clear hb56
  clear hb7
  go_wp2_with fail
  refine (HTN.out wy).mono ?_
  rintro r wz ⟨rfl, hwz⟩
  subst hwz
  go_upto_region 12 with (fail)
  have HCE : Hid (∀ V, Below wz.heap.size wz V → (fun W : World => W.cell? ⟨g, 0, none⟩ = some (.int .u32 (p : Int)) ∧ W.cell? ⟨g, 1, none⟩ = some (.int .i64 sb)) V) := fun V hV => HCY.out V hV
  have HD : Hid (Below wz.heap.size wz wz.drew) := (Below.refl _ _).drew
  refine wp_region_held_drew (S := fun W : World => W.cell? ⟨g, 0, none⟩ = some (.int .u32 (p : Int)) ∧ W.cell? ⟨g, 1, none⟩ = some (.int .i64 sb)) (by kernel_rfl) (HCE.out _ HD.out) (fun hHeld => ?_)
  obtain ⟨W0, hW0⟩ : ∃ W0, W0 = wz.drew := ⟨_, rfl⟩
  rw [← hW0] at hHeld HD ⊢
  clear hW0
  refine wpAnyH_take (i := 0) (oi := ?oi0a) (v := ?v0a) ?hi0a ?hs0a ?hf0a ?hr0a ?hQ0a ?hy0a ?hS0a ?h0a
  case hi0a => exact (by simp only [List.getElem?_toArray, List.getElem?_cons_zero]; rfl)
  case hs0a => kernel_rfl
  case hf0a => kernel_rfl
  case hr0a => kernel_rfl
  case hQ0a => exact fun _ _ _ h => h
  case hy0a =>
    refine Or.inl ⟨rfl, ?_⟩
    intro W hSw
    obtain ⟨y1, y2⟩ := hSw
    go_simp
    try with_reducible rfl
  case hS0a => assumption
  try simp only [Act.put, List.setIfInBounds_toArray, List.set_cons_zero, List.set_cons_succ]
  refine wpAnyH_take (i := 1) (oi := ?oi1a) (v := ?v1a) ?hi1a ?hs1a ?hf1a ?hr1a ?hQ1a ?hy1a ?hS1a ?h1a
  case hi1a => exact (by simp only [List.getElem?_toArray, List.getElem?_cons_succ, List.getElem?_cons_zero]; rfl)
  case hs1a => kernel_rfl
  case hf1a => kernel_rfl
  case hr1a => kernel_rfl
  case hQ1a => exact fun _ _ _ h => h
  case hy1a =>
    refine Or.inl ⟨rfl, ?_⟩
    intro W hSw
    obtain ⟨y1, y2⟩ := hSw
    go_simp
    try with_reducible rfl
  case hS1a => assumption
  try simp only [Act.put, List.setIfInBounds_toArray, List.set_cons_zero, List.set_cons_succ]
  refine wpAnyH_take (i := 2) (oi := ?oi2a) (v := (.bool true)) ?hi2a ?hs2a ?hf2a ?hr2a ?hQ2a ?hy2a ?hS2a ?h2a
  case hi2a => exact (by simp only [List.getElem?_toArray, List.getElem?_cons_succ, List.getElem?_cons_zero]; rfl)
  case hs2a => kernel_rfl
  case hf2a => kernel_rfl
  case hr2a => kernel_rfl
  case hQ2a => exact fun _ _ _ h => h
  case hy2a =>
    refine Or.inl ⟨rfl, ?_⟩
    intro W hSw
    obtain ⟨y1, y2⟩ := hSw
    go_simp
    all_goals first | with_reducible rfl | (simp; done)
  case hS2a => assumption
  try simp only [Act.put, List.setIfInBounds_toArray, List.set_cons_zero, List.set_cons_succ]
  refine wpAnyH_take (i := 3) (oi := ?oi3a) (v := ?v3a) ?hi3a ?hs3a ?hf3a ?hr3a ?hQ3a ?hy3a ?hS3a ?h3a
  case hi3a => exact (by simp only [List.getElem?_toArray, List.getElem?_cons_succ, List.getElem?_cons_zero]; rfl)
  case hs3a => kernel_rfl
  case hf3a => kernel_rfl
  case hr3a => kernel_rfl
  case hQ3a => exact fun _ _ _ h => h
  case hy3a =>
    refine Or.inl ⟨rfl, ?_⟩
    intro W hSw
    obtain ⟨y1, y2⟩ := hSw
    go_simp
    try with_reducible rfl
  case hS3a => assumption
  try simp only [Act.put, List.setIfInBounds_toArray, List.set_cons_zero, List.set_cons_succ]
  refine wpAnyH_take (i := 4) (oi := ?oi4a) (v := ?v4a) ?hi4a ?hs4a ?hf4a ?hr4a ?hQ4a ?hy4a ?hS4a ?h4a
  case hi4a => exact (by simp only [List.getElem?_toArray, List.getElem?_cons_succ, List.getElem?_cons_zero]; rfl)
  case hs4a => kernel_rfl
  case hf4a => kernel_rfl
  case hr4a => kernel_rfl
  case hQ4a => exact fun _ _ _ h => h
  case hy4a =>
    refine Or.inl ⟨rfl, ?_⟩
    intro W hSw
    obtain ⟨y1, y2⟩ := hSw
    go_simp
    try with_reducible rfl
  case hS4a => assumption
  try simp only [Act.put, List.setIfInBounds_toArray, List.set_cons_zero, List.set_cons_succ]
  refine wpAnyH_take (i := 5) (oi := ?oi5a) (v := ?v5a) ?hi5a ?hs5a ?hf5a ?hr5a ?hQ5a ?hy5a ?hS5a ?h5a
  case hi5a => exact (by simp only [List.getElem?_toArray, List.getElem?_cons_succ, List.getElem?_cons_zero]; rfl)
  case hs5a => kernel_rfl
  case hf5a => kernel_rfl
  case hr5a => kernel_rfl
  case hQ5a => exact fun _ _ _ h => h
  case hy5a =>
    refine Or.inl ⟨rfl, ?_⟩
    intro W hSw
    obtain ⟨y1, y2⟩ := hSw
    go_simp
    try with_reducible rfl
  case hS5a => assumption
  try simp only [Act.put, List.setIfInBounds_toArray, List.set_cons_zero, List.set_cons_succ]
  refine wpAnyH_take (i := 6) (oi := ?oi6a) (v := ?v6a) ?hi6a ?hs6a ?hf6a ?hr6a ?hQ6a ?hy6a ?hS6a ?h6a
  case hi6a => exact (by simp only [List.getElem?_toArray, List.getElem?_cons_succ, List.getElem?_cons_zero]; rfl)
  case hs6a => kernel_rfl
  case hf6a => kernel_rfl
  case hr6a => kernel_rfl
  case hQ6a => exact fun _ _ _ h => h
  case hy6a =>
    refine Or.inl ⟨rfl, ?_⟩
    intro W hSw
    obtain ⟨y1, y2⟩ := hSw
    go_simp
    try with_reducible rfl
  case hS6a => assumption
  try simp only [Act.put, List.setIfInBounds_toArray, List.set_cons_zero, List.set_cons_succ]
  refine wpAnyH_take (i := 7) (oi := ?oi7a) (v := ?v7a) ?hi7a ?hs7a ?hf7a ?hr7a ?hQ7a ?hy7a ?hS7a ?h7a
  case hi7a => exact (by simp only [List.getElem?_toArray, List.getElem?_cons_succ, List.getElem?_cons_zero]; rfl)
  case hs7a => kernel_rfl
  case hf7a => kernel_rfl
  case hr7a => kernel_rfl
  case hQ7a => exact fun _ _ _ h => h
  case hy7a =>
    refine Or.inl ⟨rfl, ?_⟩
    intro W hSw
    obtain ⟨y1, y2⟩ := hSw
    go_simp
    try with_reducible rfl
  case hS7a => assumption
  try simp only [Act.put, List.setIfInBounds_toArray, List.set_cons_zero, List.set_cons_succ]
  refine wpAnyH_take (i := 8) (oi := ?oi8a) (v := ?v8a) ?hi8a ?hs8a ?hf8a ?hr8a ?hQ8a ?hy8a ?hS8a ?h8a
  case hi8a => exact (by simp only [List.getElem?_toArray, List.getElem?_cons_succ, List.getElem?_cons_zero]; rfl)
  case hs8a => kernel_rfl
  case hf8a => kernel_rfl
  case hr8a => kernel_rfl
  case hQ8a => exact fun _ _ _ h => h
  case hy8a =>
    refine Or.inl ⟨rfl, ?_⟩
    intro W hSw
    obtain ⟨y1, y2⟩ := hSw
    go_simp
    try with_reducible rfl
  case hS8a => assumption
  try simp only [Act.put, List.setIfInBounds_toArray, List.set_cons_zero, List.set_cons_succ]
  refine wpAnyH_take (i := 9) (oi := ?oi9a) (v := (.bool true)) ?hi9a ?hs9a ?hf9a ?hr9a ?hQ9a ?hy9a ?hS9a ?h9a
  case hi9a => exact (by simp only [List.getElem?_toArray, List.getElem?_cons_succ, List.getElem?_cons_zero]; rfl)
  case hs9a => kernel_rfl
  case hf9a => kernel_rfl
  case hr9a => kernel_rfl
  case hQ9a => exact fun _ _ _ h => h
  case hy9a =>
    refine Or.inl ⟨rfl, ?_⟩
    intro W hSw
    obtain ⟨y1, y2⟩ := hSw
    go_simp
    all_goals first | with_reducible rfl | (simp; done)
  case hS9a => assumption
  try simp only [Act.put, List.setIfInBounds_toArray, List.set_cons_zero, List.set_cons_succ]
  refine wpAnyH_take (i := 10) (oi := ?oi10a) (v := ?v10a) ?hi10a ?hs10a ?hf10a ?hr10a ?hQ10a ?hy10a ?hS10a ?h10a
  case hi10a => exact (by simp only [List.getElem?_toArray, List.getElem?_cons_succ, List.getElem?_cons_zero]; rfl)
  case hs10a => kernel_rfl
  case hf10a => kernel_rfl
  case hr10a => kernel_rfl
  case hQ10a => exact fun _ _ _ h => h
  case hy10a =>
    refine Or.inl ⟨rfl, ?_⟩
    intro W hSw
    obtain ⟨y1, y2⟩ := hSw
    go_simp
    try with_reducible rfl
  case hS10a => assumption
  try simp only [Act.put, List.setIfInBounds_toArray, List.set_cons_zero, List.set_cons_succ]
  refine wpAnyH_take (i := 11) (oi := ?oi11a) (v := ?v11a) ?hi11a ?hs11a ?hf11a ?hr11a ?hQ11a ?hy11a ?hS11a ?h11a
  case hi11a => exact (by simp only [List.getElem?_toArray, List.getElem?_cons_succ, List.getElem?_cons_zero]; rfl)
  case hs11a => kernel_rfl
  case hf11a => kernel_rfl
  case hr11a => kernel_rfl
  case hQ11a => exact fun _ _ _ h => h
  case hy11a =>
    refine Or.inl ⟨rfl, ?_⟩
    intro W hSw
    obtain ⟨y1, y2⟩ := hSw
    go_simp
    try with_reducible rfl
  case hS11a => assumption
  try simp only [Act.put, List.setIfInBounds_toArray, List.set_cons_zero, List.set_cons_succ]
  refine wpAnyH_take (i := 12) (oi := ?oi12a) (v := ?v12a) ?hi12a ?hs12a ?hf12a ?hr12a ?hQ12a ?hy12a ?hS12a ?h12a
  case hi12a => exact (by simp only [List.getElem?_toArray, List.getElem?_cons_succ, List.getElem?_cons_zero]; rfl)
  case hs12a => kernel_rfl
  case hf12a => kernel_rfl
  case hr12a => kernel_rfl
  case hQ12a => exact fun _ _ _ h => h
  case hy12a =>
    refine Or.inl ⟨rfl, ?_⟩
    intro W hSw
    obtain ⟨y1, y2⟩ := hSw
    go_simp
    try with_reducible rfl
  case hS12a => assumption
  try simp only [Act.put, List.setIfInBounds_toArray, List.set_cons_zero, List.set_cons_succ]
  refine wpAnyH_take (i := 13) (oi := ?oi13a) (v := ?v13a) ?hi13a ?hs13a ?hf13a ?hr13a ?hQ13a ?hy13a ?hS13a ?h13a
  case hi13a => exact (by simp only [List.getElem?_toArray, List.getElem?_cons_succ, List.getElem?_cons_zero]; rfl)
  case hs13a => kernel_rfl
  case hf13a => kernel_rfl
  case hr13a => kernel_rfl
  case hQ13a => exact fun _ _ _ h => h
  case hy13a =>
    refine Or.inl ⟨rfl, ?_⟩
    intro W hSw
    obtain ⟨y1, y2⟩ := hSw
    go_simp
    try with_reducible rfl
  case hS13a => assumption
  try simp only [Act.put, List.setIfInBounds_toArray, List.set_cons_zero, List.set_cons_succ]
  refine wpAnyH_take (i := 14) (oi := ?oi14a) (v := ?v14a) ?hi14a ?hs14a ?hf14a ?hr14a ?hQ14a ?hy14a ?hS14a ?h14a
  case hi14a => exact (by simp only [List.getElem?_toArray, List.getElem?_cons_succ, List.getElem?_cons_zero]; rfl)
  case hs14a => kernel_rfl
  case hf14a => kernel_rfl
  case hr14a => kernel_rfl
  case hQ14a => exact fun _ _ _ h => h
  case hy14a =>
    refine Or.inl ⟨rfl, ?_⟩
    intro W hSw
    obtain ⟨y1, y2⟩ := hSw
    go_simp
    try with_reducible rfl
  case hS14a => assumption
  try simp only [Act.put, List.setIfInBounds_toArray, List.set_cons_zero, List.set_cons_succ]
  refine wpAnyH_take (i := 15) (oi := ?oi15a) (v := ?v15a) ?hi15a ?hs15a ?hf15a ?hr15a ?hQ15a ?hy15a ?hS15a ?h15a
  case hi15a => exact (by simp only [List.getElem?_toArray, List.getElem?_cons_succ, List.getElem?_cons_zero]; rfl)
  case hs15a => kernel_rfl
  case hf15a => kernel_rfl
  case hr15a => kernel_rfl
  case hQ15a => exact fun _ _ _ h => h
  case hy15a =>
    refine Or.inl ⟨rfl, ?_⟩
    intro W hSw
    obtain ⟨y1, y2⟩ := hSw
    go_simp
    try with_reducible rfl
  case hS15a => assumption
  try simp only [Act.put, List.setIfInBounds_toArray, List.set_cons_zero, List.set_cons_succ]
  refine wpAnyH_take (i := 16) (oi := ?oi16a) (v := ?v16a) ?hi16a ?hs16a ?hf16a ?hr16a ?hQ16a ?hy16a ?hS16a ?h16a
  case hi16a => exact (by simp only [List.getElem?_toArray, List.getElem?_cons_succ, List.getElem?_cons_zero]; rfl)
  case hs16a => kernel_rfl
  case hf16a => kernel_rfl
  case hr16a => kernel_rfl
  case hQ16a => exact fun _ _ _ h => h
  case hy16a =>
    refine Or.inl ⟨rfl, ?_⟩
    intro W hSw
    obtain ⟨y1, y2⟩ := hSw
    go_simp
    try with_reducible rfl
  case hS16a => assumption
  try simp only [Act.put, List.setIfInBounds_toArray, List.set_cons_zero, List.set_cons_succ]
  refine wpAnyH_ready (rs := [17]) (by kernel_rfl) (by simp) ?_
  refine AllReadyH.cons (o := _) rfl (fun K hK => ?_) AllReadyH.nil
  go_simp
  refine (HRB.out W0).mono ?_
  rintro r W1 ⟨rfl, hbq⟩
  have HB1 := Lib.hid (HD.out.trans (hbq.mono HD.out.size))
  clear hbq
  refine hK.out _ _ (HCE.out _ HB1.out) (fun hHeld => ?_)
  clear hK K
  try simp only [Act.put, List.setIfInBounds_toArray, List.set_cons_zero, List.set_cons_succ]
  refine wpAnyH_take (i := 18) (oi := ?oi18a) (v := (.bool true)) ?hi18a ?hs18a ?hf18a ?hr18a ?hQ18a ?hy18a ?hS18a ?h18a
  case hi18a => exact (by simp only [List.getElem?_toArray, List.getElem?_cons_succ, List.getElem?_cons_zero]; rfl)
  case hs18a => kernel_rfl
  case hf18a => kernel_rfl
  case hr18a => kernel_rfl
  case hQ18a => exact fun _ _ _ h => h
  case hy18a =>
    refine Or.inl ⟨rfl, ?_⟩
    intro W hSw
    obtain ⟨y1, y2⟩ := hSw
    go_simp
    all_goals first | with_reducible rfl | (simp; done)
  case hS18a => assumption
  try simp only [Act.put, List.setIfInBounds_toArray, List.set_cons_zero, List.set_cons_succ]
  refine wpAnyH_take (i := 19) (oi := ?oi19a) (v := ?v19a) ?hi19a ?hs19a ?hf19a ?hr19a ?hQ19a ?hy19a ?hS19a ?h19a
  case hi19a => exact (by simp only [List.getElem?_toArray, List.getElem?_cons_succ, List.getElem?_cons_zero]; rfl)
  case hs19a => kernel_rfl
  case hf19a => kernel_rfl
  case hr19a => kernel_rfl
  case hQ19a => exact fun _ _ _ h => h
  case hy19a =>
    refine Or.inl ⟨rfl, ?_⟩
    intro W hSw
    obtain ⟨y1, y2⟩ := hSw
    go_simp
    try with_reducible rfl
  case hS19a => assumption
  try simp only [Act.put, List.setIfInBounds_toArray, List.set_cons_zero, List.set_cons_succ]
  refine wpAnyH_take (i := 20) (oi := ?oi20a) (v := ?v20a) ?hi20a ?hs20a ?hf20a ?hr20a ?hQ20a ?hy20a ?hS20a ?h20a
  case hi20a => exact (by simp only [List.getElem?_toArray, List.getElem?_cons_succ, List.getElem?_cons_zero]; rfl)
  case hs20a => kernel_rfl
  case hf20a => kernel_rfl
  case hr20a => kernel_rfl
  case hQ20a => exact fun _ _ _ h => h
  case hy20a =>
    refine Or.inl ⟨rfl, ?_⟩
    intro W hSw
    obtain ⟨y1, y2⟩ := hSw
    go_simp
    try with_reducible rfl
  case hS20a => assumption
  try simp only [Act.put, List.setIfInBounds_toArray, List.set_cons_zero, List.set_cons_succ]
  refine wpAnyH_take (i := 21) (oi := ?oi21a) (v := ?v21a) ?hi21a ?hs21a ?hf21a ?hr21a ?hQ21a ?hy21a ?hS21a ?h21a
  case hi21a => exact (by simp only [List.getElem?_toArray, List.getElem?_cons_succ, List.getElem?_cons_zero]; rfl)
  case hs21a => kernel_rfl
  case hf21a => kernel_rfl
  case hr21a => kernel_rfl
  case hQ21a => exact fun _ _ _ h => h
  case hy21a =>
    refine Or.inl ⟨rfl, ?_⟩
    intro W hSw
    obtain ⟨y1, y2⟩ := hSw
    go_simp
    try with_reducible rfl
  case hS21a => assumption
  try simp only [Act.put, List.setIfInBounds_toArray, List.set_cons_zero, List.set_cons_succ]
  refine wpAnyH_take (i := 22) (oi := ?oi22a) (v := ?v22a) ?hi22a ?hs22a ?hf22a ?hr22a ?hQ22a ?hy22a ?hS22a ?h22a
  case hi22a => exact (by simp only [List.getElem?_toArray, List.getElem?_cons_succ, List.getElem?_cons_zero]; rfl)
  case hs22a => kernel_rfl
  case hf22a => kernel_rfl
  case hr22a => kernel_rfl
  case hQ22a => exact fun _ _ _ h => h
  case hy22a =>
    refine Or.inl ⟨rfl, ?_⟩
    intro W hSw
    obtain ⟨y1, y2⟩ := hSw
    go_simp
    try with_reducible rfl
  case hS22a => assumption
  try simp only [Act.put, List.setIfInBounds_toArray, List.set_cons_zero, List.set_cons_succ]
  refine wpAnyH_ready (rs := [23]) (by kernel_rfl) (by simp) ?_
  refine AllReadyH.cons (o := _) rfl (fun K hK => ?_) AllReadyH.nil
  go_simp
  refine (HSN.out W1).mono ?_
  rintro r W2 ⟨rfl, hbq⟩
  have HB2 := Lib.hid (HB1.out.trans (hbq.mono HB1.out.size))
  clear hbq
  refine hK.out _ _ (HCE.out _ HB2.out) (fun hHeld => ?_)
  clear hK K
  try simp only [Act.put, List.setIfInBounds_toArray, List.set_cons_zero, List.set_cons_succ]
  refine wpAnyH_take (i := 24) (oi := ?oi24a) (v := (.bool true)) ?hi24a ?hs24a ?hf24a ?hr24a ?hQ24a ?hy24a ?hS24a ?h24a
  case hi24a => exact (by simp only [List.getElem?_toArray, List.getElem?_cons_succ, List.getElem?_cons_zero]; rfl)
  case hs24a => kernel_rfl
  case hf24a => kernel_rfl
  case hr24a => kernel_rfl
  case hQ24a => exact fun _ _ _ h => h
  case hy24a =>
    refine Or.inl ⟨rfl, ?_⟩
    intro W hSw
    obtain ⟨y1, y2⟩ := hSw
    go_simp
    all_goals first | with_reducible rfl | (simp; done)
  case hS24a => assumption
  try simp only [Act.put, List.setIfInBounds_toArray, List.set_cons_zero, List.set_cons_succ]
  refine wpAnyH_take (i := 25) (oi := ?oi25a) (v := ?v25a) ?hi25a ?hs25a ?hf25a ?hr25a ?hQ25a ?hy25a ?hS25a ?h25a
  case hi25a => exact (by simp only [List.getElem?_toArray, List.getElem?_cons_succ, List.getElem?_cons_zero]; rfl)
  case hs25a => kernel_rfl
  case hf25a => kernel_rfl
  case hr25a => kernel_rfl
  case hQ25a => exact fun _ _ _ h => h
  case hy25a =>
    refine Or.inl ⟨rfl, ?_⟩
    intro W hSw
    obtain ⟨y1, y2⟩ := hSw
    go_simp
    try with_reducible rfl
  case hS25a => assumption
  try simp only [Act.put, List.setIfInBounds_toArray, List.set_cons_zero, List.set_cons_succ]
  refine wpAnyH_take (i := 26) (oi := ?oi26a) (v := ?v26a) ?hi26a ?hs26a ?hf26a ?hr26a ?hQ26a ?hy26a ?hS26a ?h26a
  case hi26a => exact (by simp only [List.getElem?_toArray, List.getElem?_cons_succ, List.getElem?_cons_zero]; rfl)
  case hs26a => kernel_rfl
  case hf26a => kernel_rfl
  case hr26a => kernel_rfl
  case hQ26a => exact fun _ _ _ h => h
  case hy26a =>
    refine Or.inl ⟨rfl, ?_⟩
    intro W hSw
    obtain ⟨y1, y2⟩ := hSw
    go_simp
    try with_reducible rfl
  case hS26a => assumption
  try simp only [Act.put, List.setIfInBounds_toArray, List.set_cons_zero, List.set_cons_succ]
  refine wpAnyH_take (i := 27) (oi := ?oi27a) (v := ?v27a) ?hi27a ?hs27a ?hf27a ?hr27a ?hQ27a ?hy27a ?hS27a ?h27a
  case hi27a => exact (by simp only [List.getElem?_toArray, List.getElem?_cons_succ, List.getElem?_cons_zero]; rfl)
  case hs27a => kernel_rfl
  case hf27a => kernel_rfl
  case hr27a => kernel_rfl
  case hQ27a => exact fun _ _ _ h => h
  case hy27a =>
    refine Or.inl ⟨rfl, ?_⟩
    intro W hSw
    obtain ⟨y1, y2⟩ := hSw
    go_simp
    try with_reducible rfl
  case hS27a => assumption
  try simp only [Act.put, List.setIfInBounds_toArray, List.set_cons_zero, List.set_cons_succ]
  refine wpAnyH_ready (rs := [28]) (by kernel_rfl) (by simp) ?_
  refine AllReadyH.cons (o := _) rfl (fun K hK => ?_) AllReadyH.nil
  go_simp
  refine (HFN.out W2).mono ?_
  rintro r W3 ⟨rfl, hbq⟩
  have HB3 := Lib.hid (HB2.out.trans (hbq.mono HB2.out.size))
  clear hbq
  refine hK.out _ _ (HCE.out _ HB3.out) (fun hHeld => ?_)
  clear hK K
  try simp only [Act.put, List.setIfInBounds_toArray, List.set_cons_zero, List.set_cons_succ]
  refine wpAnyH_take (i := 29) (oi := ?oi29a) (v := ?v29a) ?hi29a ?hs29a ?hf29a ?hr29a ?hQ29a ?hy29a ?hS29a ?h29a
  case hi29a => exact (by simp only [List.getElem?_toArray, List.getElem?_cons_succ, List.getElem?_cons_zero]; rfl)
  case hs29a => kernel_rfl
  case hf29a => kernel_rfl
  case hr29a => kernel_rfl
  case hQ29a => exact fun _ _ _ h => h
  case hy29a =>
    refine Or.inl ⟨rfl, ?_⟩
    intro W hSw
    obtain ⟨y1, y2⟩ := hSw
    go_simp
    try with_reducible rfl
  case hS29a => assumption
  try simp only [Act.put, List.setIfInBounds_toArray, List.set_cons_zero, List.set_cons_succ]
  refine wpAnyH_take (i := 30) (oi := ?oi30a) (v := (.bool true)) ?hi30a ?hs30a ?hf30a ?hr30a ?hQ30a ?hy30a ?hS30a ?h30a
  case hi30a => exact (by simp only [List.getElem?_toArray, List.getElem?_cons_succ, List.getElem?_cons_zero]; rfl)
  case hs30a => kernel_rfl
  case hf30a => kernel_rfl
  case hr30a => kernel_rfl
  case hQ30a => exact fun _ _ _ h => h
  case hy30a =>
    refine Or.inl ⟨rfl, ?_⟩
    intro W hSw
    obtain ⟨y1, y2⟩ := hSw
    go_simp
    all_goals first | with_reducible rfl | (simp; done)
  case hS30a => assumption
  try simp only [Act.put, List.setIfInBounds_toArray, List.set_cons_zero, List.set_cons_succ]
  refine wpAnyH_take (i := 31) (oi := ?oi31a) (v := ?v31a) ?hi31a ?hs31a ?hf31a ?hr31a ?hQ31a ?hy31a ?hS31a ?h31a
  case hi31a => exact (by simp only [List.getElem?_toArray, List.getElem?_cons_succ, List.getElem?_cons_zero]; rfl)
  case hs31a => kernel_rfl
  case hf31a => kernel_rfl
  case hr31a => kernel_rfl
  case hQ31a => exact fun _ _ _ h => h
  case hy31a =>
    refine Or.inl ⟨rfl, ?_⟩
    intro W hSw
    obtain ⟨y1, y2⟩ := hSw
    go_simp
    try with_reducible rfl
  case hS31a => assumption
  try simp only [Act.put, List.setIfInBounds_toArray, List.set_cons_zero, List.set_cons_succ]
  refine wpAnyH_take (i := 32) (oi := ?oi32a) (v := ?v32a) ?hi32a ?hs32a ?hf32a ?hr32a ?hQ32a ?hy32a ?hS32a ?h32a
  case hi32a => exact (by simp only [List.getElem?_toArray, List.getElem?_cons_succ, List.getElem?_cons_zero]; rfl)
  case hs32a => kernel_rfl
  case hf32a => kernel_rfl
  case hr32a => kernel_rfl
  case hQ32a => exact fun _ _ _ h => h
  case hy32a =>
    refine Or.inl ⟨rfl, ?_⟩
    intro W hSw
    obtain ⟨y1, y2⟩ := hSw
    go_simp
    try with_reducible rfl
  case hS32a => assumption
  try simp only [Act.put, List.setIfInBounds_toArray, List.set_cons_zero, List.set_cons_succ]
  refine wpAnyH_ready (rs := [33]) (by kernel_rfl) (by simp) ?_
  refine AllReadyH.cons (o := _) rfl (fun K hK => ?_) AllReadyH.nil
  go_simp
  refine (HAW.out W3).mono ?_
  rintro r W4 ⟨rfl, hbq⟩
  have HB4 := Lib.hid (HB3.out.trans (hbq.mono HB3.out.size))
  clear hbq
  refine hK.out _ _ (HCE.out _ HB4.out) (fun hHeld => ?_)
  clear hK K
  try simp only [Act.put, List.setIfInBounds_toArray, List.set_cons_zero, List.set_cons_succ]
  refine wpAnyH_take (i := 34) (oi := ?oi34a) (v := ?v34a) ?hi34a ?hs34a ?hf34a ?hr34a ?hQ34a ?hy34a ?hS34a ?h34a
  case hi34a => exact (by simp only [List.getElem?_toArray, List.getElem?_cons_succ, List.getElem?_cons_zero]; rfl)
  case hs34a => kernel_rfl
  case hf34a => kernel_rfl
  case hr34a => kernel_rfl
  case hQ34a => exact fun _ _ _ h => h
  case hy34a =>
    refine Or.inl ⟨rfl, ?_⟩
    intro W hSw
    obtain ⟨y1, y2⟩ := hSw
    go_simp
    try with_reducible rfl
  case hS34a => assumption
  try simp only [Act.put, List.setIfInBounds_toArray, List.set_cons_zero, List.set_cons_succ]
  refine wpAnyH_take (i := 35) (oi := ?oi35a) (v := ?v35a) ?hi35a ?hs35a ?hf35a ?hr35a ?hQ35a ?hy35a ?hS35a ?h35a
  case hi35a => exact (by simp only [List.getElem?_toArray, List.getElem?_cons_succ, List.getElem?_cons_zero]; rfl)
  case hs35a => kernel_rfl
  case hf35a => kernel_rfl
  case hr35a => kernel_rfl
  case hQ35a => exact fun _ _ _ h => h
  case hy35a =>
    refine Or.inl ⟨rfl, ?_⟩
    intro W hSw
    obtain ⟨y1, y2⟩ := hSw
    go_simp
    try with_reducible rfl
  case hS35a => assumption
  try simp only [Act.put, List.setIfInBounds_toArray, List.set_cons_zero, List.set_cons_succ]
  refine wpAnyH_done (by kernel_rfl) ?_ _
  go_wp2
  go_ret
  exact ⟨rfl, HB7.out.trans (HB4.out.mono HB7.out.size)⟩
set_option maxHeartbeats 8000000 in
theorem hides_no (p : Nat) (a b : Int) (w : World) (sa sb : Int) (hsa : sa = seen a) (hsb : sb = seen b) (h : p < 1 ∨ p > 2147483647) : Calls Try.prog 11 #[.int .u32 (p : Int), .int .i64 a, .int .i64 b] w fun r w' => r = .returned (.bool true) ∧ Below w.heap.size w w' := by
  obtain ⟨L, hL⟩ : ∃ L, L = w.heap.size + 1 := ⟨_, rfl⟩
  obtain ⟨M, hM⟩ : ∃ M, M = w.heap.size := ⟨_, rfl⟩
  have HRA : Hid (∀ W, Calls Try.prog 37 #[.int .i64 a] W fun r w' => r = .returned (.int .i64 sa) ∧ Below W.heap.size W w') := fun W => by rw [hsa]; exact rseen_any a W
  have HRB : Hid (∀ W, Calls Try.prog 37 #[.int .i64 b] W fun r w' => r = .returned (.int .i64 sb) ∧ Below W.heap.size W w') := fun W => by rw [hsb]; exact rseen_any b W
  have HAW := Lib.hid awake_any
  have HN : Hid (Calls Try.prog 28 #[] w fun e w' => e = .returned (.pointer (some ⟨L, 0, none⟩)) ∧ IsB w' L M 0 (Dn 7 0 0) ∧ Below w.heap.size w w') := by
    rw [hL, hM, Dn_zero]
    exact new_any w
  have HT : Hid (∀ x W, Calls Try.prog 32 #[.pointer (some ⟨L, 0, none⟩), .int .u32 (p : Int), .int .i64 x] W fun r w' => r = .returned (.tuple #[]) ∧ w' = W) := fun x W => set_no L p x h W
  have H2 : Hid (∀ W, IsB W L M 0 (Dn 7 0 0) → Calls Try.prog 31 #[.pointer (some ⟨L, 0, none⟩)] W fun r w' => (∃ v, r = .returned v) ∧ IsB w' L M 1 (Dn 7 0 0) ∧ ChM M W w') := fun W h => (flush_any L M 0 7 0 0 W h (by omega) (by omega)).mono fun r w' ⟨⟨v, h1, _⟩, h2, h3⟩ => ⟨⟨v, h1⟩, h2, h3⟩
  have H4 : Hid (∀ W, IsB W L M 1 (Dn 7 0 0) → Calls Try.prog 31 #[.pointer (some ⟨L, 0, none⟩)] W fun r w' => (∃ v, r = .returned v ∧ Told W w' 7 0 0 v) ∧ ChM M W w') := fun W h => (flush_any L M 1 7 0 0 W h (by omega) (by omega)).mono fun r w' ⟨h1, _, h3⟩ => ⟨h1, h3⟩
  have HM := Lib.hid hM
  have HP := Lib.hid h
  clear hL hM hsa hsb h
  go_enter Try.func11, Try.ntmps11
  go_wp2_with fail
  refine (HN.out).mono ?_
  rintro r w1 ⟨rfl, hI1, hB1⟩
  have HB1 := Lib.hid hB1
  clear hB1
  go_wp2_with fail
  refine (HT.out a w1).mono ?_
  rintro r w2 ⟨rfl, hw2⟩
  subst hw2
  go_wp2_with fail
  refine (H2.out w2 hI1).mono ?_
  rintro r w3 ⟨⟨v3, rfl⟩, hI3, hC3⟩
  have HC3 := Lib.hid hC3
  clear hI1 hC3
  go_wp2_with fail
  refine (HT.out b w3).mono ?_
  rintro r w4 ⟨rfl, hw4⟩
  subst hw4
  go_wp2_with fail
  refine (H4.out w4 hI3).mono ?_
  rintro r w5 ⟨⟨v, rfl, hT⟩, hC5⟩
  have HB5 : Hid (Below w.heap.size w w5) := HB1.out.trans ((HC3.out.trans hC5).1 _ (by rw [HM.out]; exact Nat.le_refl _) HB1.out.size)
  clear hI3 hC5 HC3
  rcases hT with ⟨_, a', c', rfl⟩ | ⟨h, _⟩
  · skip
    go_wp2_with fail
    refine (HRA.out w5).mono ?_
    rintro r w6 ⟨rfl, hb6⟩
    have HB6 := Lib.hid (HB5.out.trans (hb6.mono HB5.out.size))
    clear hb6
    go_wp2_with fail
    refine (HRB.out w6).mono ?_
    rintro r wy ⟨rfl, hb7⟩
    have HB7 := Lib.hid (HB6.out.trans (hb7.mono HB6.out.size))
    clear hb7
    by_cases hs : sa = sb
    · have t3 : (sa == sb) = true := by simp [hs]
      clear hs
      rcases HP.out with h | h
      · have t1 : decide ((p : Int) ≥ 1) = false := by rw [decide_eq_false_iff_not]; omega
        clear h
        go_wp2_with fail
        refine (HAW.out wy).mono ?_
        rintro r w8 ⟨rfl, hb8⟩
        have HB8 := Lib.hid (HB7.out.trans (hb8.mono HB7.out.size))
        clear hb8
        go_wp2
        go_ret
        exact ⟨rfl, HB8.out⟩
      · have t1 : decide ((p : Int) ≥ 1) = true := by rw [decide_eq_true_iff]; omega
        have t2 : decide ((p : Int) ≤ 2147483647) = false := by rw [decide_eq_false_iff_not]; omega
        clear h
        go_wp2_with fail
        refine (HAW.out wy).mono ?_
        rintro r w8 ⟨rfl, hb8⟩
        have HB8 := Lib.hid (HB7.out.trans (hb8.mono HB7.out.size))
        clear hb8
        go_wp2
        go_ret
        exact ⟨rfl, HB8.out⟩
    · have t3 : (sa == sb) = false := by simp [hs]
      clear hs
      rcases HP.out with h | h
      · have t1 : decide ((p : Int) ≥ 1) = false := by rw [decide_eq_false_iff_not]; omega
        clear h
        go_wp2_with fail
        refine (HAW.out wy).mono ?_
        rintro r w8 ⟨rfl, hb8⟩
        have HB8 := Lib.hid (HB7.out.trans (hb8.mono HB7.out.size))
        clear hb8
        go_wp2
        go_ret
        exact ⟨rfl, HB8.out⟩
      · have t1 : decide ((p : Int) ≥ 1) = true := by rw [decide_eq_true_iff]; omega
        have t2 : decide ((p : Int) ≤ 2147483647) = false := by rw [decide_eq_false_iff_not]; omega
        clear h
        go_wp2_with fail
        refine (HAW.out wy).mono ?_
        rintro r w8 ⟨rfl, hb8⟩
        have HB8 := Lib.hid (HB7.out.trans (hb8.mono HB7.out.size))
        clear hb8
        go_wp2
        go_ret
        exact ⟨rfl, HB8.out⟩
  · simp [seen] at h
theorem hides_walk (p : Nat) (a b : Int) (w : World) : Calls Try.prog 11 #[.int .u32 (p : Int), .int .i64 a, .int .i64 b] w fun r w' => r = .returned (.bool true) ∧ Below w.heap.size w w' := by
  by_cases h : p < 1 ∨ p > 2147483647
  · exact hides_no p a b w _ _ rfl rfl h
  · by_cases hs : seen a = seen b
    · exact hides_same p a b w _ _ rfl rfl (by omega) (by omega) hs
    · exact hides_other p a b w _ _ rfl rfl (by omega) (by omega) hs
end Go.Proofs.Ytaoejkbockcneaa.Bd
