/- Fill: the closure of Fits, ContainsFunc, Fits. -/
import Derived.Test.YtccabdhfnjlbdaaF6
namespace Go.Proofs.Ytccabdhfnjlbdaa
open Go.RowKit
set_option maxRecDepth 20000
set_option linter.unusedVariables false

abbrev rC (e : Rw) (P : Option Addr) (c : Nat) : Array Value := #[.int .i64 e.t, .slice P e.n c, .int .i64 e.r, .int .i64 e.v]
/-- Is a row too far off? -/
def farP (ra wi : Int) (e : Rw) : Bool := decide (min wi e.v < dist ra (rt e.r))
abbrev fV (G1 G2 : Nat) : Value := .func (.func 26) #[] #[.pointer (some ⟨G1, 0, none⟩), .pointer (some ⟨G2, 0, none⟩)]

set_option maxHeartbeats 4000000 in
theorem far_any (ra wi : Int) (e : Rw) (P : Option Addr) (c G1 G2 : Nat) (w : World) (hra : 0 ≤ ra ∧ ra ≤ 10000) (h1 : w.heap[G1]? = some (.cells #[.int .i64 ra] 3 (0, 0))) (h2 : w.heap[G2]? = some (.cells #[.int .i64 wi] 3 (0, 0))) :
    Calls Try.prog 26 #[.agg (rC e P c), .pointer (some ⟨G1, 0, none⟩), .pointer (some ⟨G2, 0, none⟩)] w fun r w' => r = .returned (.bool (farP ra wi e)) ∧ Below w.heap.size w w' := by
  obtain ⟨t, n, q, v⟩ := e
  obtain ⟨w0, hw0⟩ : ∃ w0, w0 = w.alloc (.cells #[.int .i64 t, .slice P n c, .int .i64 q, .int .i64 v] 55) := ⟨_, rfl⟩
  have hb0 : Below w.heap.size w w0 := by rw [hw0]; exact (Below.refl _ _).alloc (Nat.le_refl _) _
  have hp0 : w0.heap[w.heap.size]? = some (.cells #[.int .i64 t, .slice P n c, .int .i64 q, .int .i64 v] 55 (0, 0)) := by rw [hw0]; exact heap_alloc_new w _
  have HCE : Hid (∀ W, Below w0.heap.size w0 W → W.cell? ⟨w.heap.size, 2, none⟩ = some (.int .i64 q) ∧ W.cell? ⟨w.heap.size, 3, none⟩ = some (.int .i64 v) ∧ W.cell? ⟨G1, 0, none⟩ = some (.int .i64 ra) ∧ W.cell? ⟨G2, 0, none⟩ = some (.int .i64 wi)) := fun W hW => by
    have e2 := (hW.block _ (lt_of_block hp0)).trans hp0
    have g1 := ((hb0.trans (hW.mono hb0.size)).block _ (lt_of_block h1)).trans h1
    have g2 := ((hb0.trans (hW.mono hb0.size)).block _ (lt_of_block h2)).trans h2
    exact ⟨cell_of_row W _ 2 _ _ _ e2, cell_of_row W _ 3 _ _ _ e2, cell_of_one g1, cell_of_one g2⟩
  obtain ⟨mn, hm⟩ : ∃ mn, mn = min wi v := ⟨_, rfl⟩
  have hmn : (if v < wi then v else wi) = mn := by rw [hm]; split <;> omega
  obtain ⟨s, hs⟩ : ∃ s, s = rt q := ⟨_, rfl⟩
  have hsb := rt_bd q
  rw [← hs] at hsb
  obtain ⟨d, hd⟩ : ∃ d, d = dist ra s := ⟨_, rfl⟩
  have HC1 : Hid (∀ W, Calls Try.prog 25 #[.int .i64 q] W fun r w' => r = .returned (.int .i64 s) ∧ Below W.heap.size W w') := fun W => (counts_any q W).mono fun r w' h => ⟨by rw [h.1, hs], by rw [h.2]; exact Below.refl _ _⟩
  have HC2 : Hid (∀ W, Calls Try.prog 27 #[.int .i64 ra, .int .i64 s] W fun r w' => r = .returned (.int .i64 d) ∧ Below W.heap.size W w') := fun W => (dist_any ra s W (by omega) (by omega)).mono fun r w' h => ⟨by rw [h.1, hd], by rw [h.2]; exact Below.refl _ _⟩
  have HR : Hid (farP ra wi ⟨t, n, q, v⟩ = decide (mn < d)) := by simp only [Hid, farP]; rw [hm, hd, hs]
  rw [HR.out]
  have H0 := Lib.hid hw0
  have HB0 := Lib.hid hb0
  have HBS : Hid (Below w0.heap.size w0 w0) := Below.refl _ _
  clear hw0 hb0 hp0 hm hs hd h1 h2 hra HR
  by_cases hf : mn < d
  · rw [decide_eq_true hf]
    go_enter Try.func26, Try.ntmps26
    go_upto_region 1 with (fail)
    rw [← H0.out]
    have HDa : Hid (Below w0.heap.size w0 w0.drew) := HBS.out.drew
    refine wp_region_held_drew (S := fun W : World => W.cell? ⟨w.heap.size, 2, none⟩ = some (.int .i64 q) ∧ W.cell? ⟨w.heap.size, 3, none⟩ = some (.int .i64 v) ∧ W.cell? ⟨G1, 0, none⟩ = some (.int .i64 ra) ∧ W.cell? ⟨G2, 0, none⟩ = some (.int .i64 wi)) (by kernel_rfl) (HCE.out _ (HDa.out)) (fun hHeld => ?_)
    obtain ⟨Wa0, hW0⟩ : ∃ W0, W0 = w0.drew := ⟨_, rfl⟩
    rw [← hW0] at hHeld HDa ⊢
    clear hW0
    refine wpAnyH_take (i := 0) (oi := ?oi0a) (v := ?v0a) ?hi0a ?hs0a ?hf0a ?hr0a ?hQ0a ?hy0a ?hS0a ?h0a
    case hi0a => exact (by simp only [List.getElem?_toArray, List.getElem?_cons_zero]; rfl)
    case hs0a => kernel_rfl
    case hf0a => kernel_rfl
    case hr0a => kernel_rfl
    case hQ0a => exact fun _ _ _ h => h
    case hy0a =>
      refine Or.inl ⟨rfl, ?_⟩
      intro W hSw
      obtain ⟨y0, y1, y2, y3⟩ := hSw
      go_simp
      try with_reducible rfl
    case hS0a => assumption
    try simp only [Act.put, List.setIfInBounds_toArray, List.set_cons_zero, List.set_cons_succ]
    refine wpAnyH_take (i := 1) (oi := ?oi1a) (v := ?v1a) ?hi1a ?hs1a ?hf1a ?hr1a ?hQ1a ?hy1a ?hS1a ?h1a
    case hi1a => exact (by simp only [List.getElem?_toArray, List.getElem?_cons_succ, List.getElem?_cons_zero]; rfl)
    case hs1a => kernel_rfl
    case hf1a => kernel_rfl
    case hr1a => kernel_rfl
    case hQ1a => exact fun _ _ _ h => h
    case hy1a =>
      refine Or.inl ⟨rfl, ?_⟩
      intro W hSw
      obtain ⟨y0, y1, y2, y3⟩ := hSw
      go_simp
      try with_reducible rfl
    case hS1a => assumption
    try simp only [Act.put, List.setIfInBounds_toArray, List.set_cons_zero, List.set_cons_succ]
    refine wpAnyH_take (i := 2) (oi := ?oi2a) (v := ?v2a) ?hi2a ?hs2a ?hf2a ?hr2a ?hQ2a ?hy2a ?hS2a ?h2a
    case hi2a => exact (by simp only [List.getElem?_toArray, List.getElem?_cons_succ, List.getElem?_cons_zero]; rfl)
    case hs2a => kernel_rfl
    case hf2a => kernel_rfl
    case hr2a => kernel_rfl
    case hQ2a => exact fun _ _ _ h => h
    case hy2a =>
      refine Or.inl ⟨rfl, ?_⟩
      intro W hSw
      obtain ⟨y0, y1, y2, y3⟩ := hSw
      go_simp
      try with_reducible rfl
    case hS2a => assumption
    try simp only [Act.put, List.setIfInBounds_toArray, List.set_cons_zero, List.set_cons_succ]
    refine wpAnyH_take (i := 5) (oi := ?oi5a) (v := ?v5a) ?hi5a ?hs5a ?hf5a ?hr5a ?hQ5a ?hy5a ?hS5a ?h5a
    case hi5a => exact (by simp only [List.getElem?_toArray, List.getElem?_cons_succ, List.getElem?_cons_zero]; rfl)
    case hs5a => kernel_rfl
    case hf5a => kernel_rfl
    case hr5a => kernel_rfl
    case hQ5a => exact fun _ _ _ h => h
    case hy5a =>
      refine Or.inl ⟨rfl, ?_⟩
      intro W hSw
      obtain ⟨y0, y1, y2, y3⟩ := hSw
      go_simp
      try with_reducible rfl
    case hS5a => assumption
    try simp only [Act.put, List.setIfInBounds_toArray, List.set_cons_zero, List.set_cons_succ]
    refine wpAnyH_take (i := 6) (oi := ?oi6a) (v := ?v6a) ?hi6a ?hs6a ?hf6a ?hr6a ?hQ6a ?hy6a ?hS6a ?h6a
    case hi6a => exact (by simp only [List.getElem?_toArray, List.getElem?_cons_succ, List.getElem?_cons_zero]; rfl)
    case hs6a => kernel_rfl
    case hf6a => kernel_rfl
    case hr6a => kernel_rfl
    case hQ6a => exact fun _ _ _ h => h
    case hy6a =>
      refine Or.inl ⟨rfl, ?_⟩
      intro W hSw
      obtain ⟨y0, y1, y2, y3⟩ := hSw
      go_simp
      try with_reducible rfl
    case hS6a => assumption
    try simp only [Act.put, List.setIfInBounds_toArray, List.set_cons_zero, List.set_cons_succ]
    refine wpAnyH_take (i := 7) (oi := ?oi7a) (v := ?v7a) ?hi7a ?hs7a ?hf7a ?hr7a ?hQ7a ?hy7a ?hS7a ?h7a
    case hi7a => exact (by simp only [List.getElem?_toArray, List.getElem?_cons_succ, List.getElem?_cons_zero]; rfl)
    case hs7a => kernel_rfl
    case hf7a => kernel_rfl
    case hr7a => kernel_rfl
    case hQ7a => exact fun _ _ _ h => h
    case hy7a =>
      refine Or.inl ⟨rfl, ?_⟩
      intro W hSw
      obtain ⟨y0, y1, y2, y3⟩ := hSw
      go_simp
      try with_reducible rfl
    case hS7a => assumption
    try simp only [Act.put, List.setIfInBounds_toArray, List.set_cons_zero, List.set_cons_succ]
    refine wpAnyH_take (i := 8) (oi := ?oi8a) (v := (.int .i64 mn)) ?hi8a ?hs8a ?hf8a ?hr8a ?hQ8a ?hy8a ?hS8a ?h8a
    case hi8a => exact (by simp only [List.getElem?_toArray, List.getElem?_cons_succ, List.getElem?_cons_zero]; rfl)
    case hs8a => kernel_rfl
    case hf8a => kernel_rfl
    case hr8a => kernel_rfl
    case hQ8a => exact fun _ _ _ h => h
    case hy8a =>
      refine Or.inl ⟨rfl, ?_⟩
      intro W hSw
      obtain ⟨y0, y1, y2, y3⟩ := hSw
      go_simp
      try simp [hmn]
    case hS8a => assumption
    try simp only [Act.put, List.setIfInBounds_toArray, List.set_cons_zero, List.set_cons_succ]
    refine wpAnyH_ready (rs := [3]) (by kernel_rfl) (by simp) ?_
    refine AllReadyH.cons (o := _) rfl (fun K hK => ?_) AllReadyH.nil
    go_simp
    refine (HC1.out Wa0).mono ?_
    rintro r Wa1 ⟨rfl, hbq⟩
    have HBa1 := Lib.hid (HDa.out.trans (hbq.mono HDa.out.size))
    clear hbq
    refine hK.out _ _ (HCE.out _ (HBa1.out)) (fun hHeld => ?_)
    clear hK K
    try simp only [Act.put, List.setIfInBounds_toArray, List.set_cons_zero, List.set_cons_succ]
    refine wpAnyH_ready (rs := [4]) (by kernel_rfl) (by simp) ?_
    refine AllReadyH.cons (o := _) rfl (fun K hK => ?_) AllReadyH.nil
    go_simp
    refine (HC2.out Wa1).mono ?_
    rintro r Wa2 ⟨rfl, hbq⟩
    have HBa2 := Lib.hid (HBa1.out.trans (hbq.mono HBa1.out.size))
    clear hbq
    refine hK.out _ _ (HCE.out _ (HBa2.out)) (fun hHeld => ?_)
    clear hK K
    try simp only [Act.put, List.setIfInBounds_toArray, List.set_cons_zero, List.set_cons_succ]
    refine wpAnyH_take (i := 9) (oi := ?oi9a) (v := (.bool true)) ?hi9a ?hs9a ?hf9a ?hr9a ?hQ9a ?hy9a ?hS9a ?h9a
    case hi9a => exact (by simp only [List.getElem?_toArray, List.getElem?_cons_succ, List.getElem?_cons_zero]; rfl)
    case hs9a => kernel_rfl
    case hf9a => kernel_rfl
    case hr9a => kernel_rfl
    case hQ9a => exact fun _ _ _ h => h
    case hy9a =>
      refine Or.inl ⟨rfl, ?_⟩
      intro W hSw
      go_simp
      try simp [hf]
    case hS9a => assumption
    try simp only [Act.put, List.setIfInBounds_toArray, List.set_cons_zero, List.set_cons_succ]
    refine wpAnyH_take (i := 10) (oi := ?oi10a) (v := ?v10a) ?hi10a ?hs10a ?hf10a ?hr10a ?hQ10a ?hy10a ?hS10a ?h10a
    case hi10a => exact (by simp only [List.getElem?_toArray, List.getElem?_cons_succ, List.getElem?_cons_zero]; rfl)
    case hs10a => kernel_rfl
    case hf10a => kernel_rfl
    case hr10a => kernel_rfl
    case hQ10a => exact fun _ _ _ h => h
    case hy10a =>
      refine Or.inl ⟨rfl, ?_⟩
      intro W hSw
      obtain ⟨y0, y1, y2, y3⟩ := hSw
      go_simp
      try with_reducible rfl
    case hS10a => assumption
    try simp only [Act.put, List.setIfInBounds_toArray, List.set_cons_zero, List.set_cons_succ]
    refine wpAnyH_done (by kernel_rfl) ?_ _
    try go_wp2
    go_ret
    exact ⟨rfl, HB0.out.trans (HBa2.out.mono HB0.out.size)⟩
  · rw [decide_eq_false hf]
    go_enter Try.func26, Try.ntmps26
    go_upto_region 1 with (fail)
    rw [← H0.out]
    have HDb : Hid (Below w0.heap.size w0 w0.drew) := HBS.out.drew
    refine wp_region_held_drew (S := fun W : World => W.cell? ⟨w.heap.size, 2, none⟩ = some (.int .i64 q) ∧ W.cell? ⟨w.heap.size, 3, none⟩ = some (.int .i64 v) ∧ W.cell? ⟨G1, 0, none⟩ = some (.int .i64 ra) ∧ W.cell? ⟨G2, 0, none⟩ = some (.int .i64 wi)) (by kernel_rfl) (HCE.out _ (HDb.out)) (fun hHeld => ?_)
    obtain ⟨Wb0, hW0⟩ : ∃ W0, W0 = w0.drew := ⟨_, rfl⟩
    rw [← hW0] at hHeld HDb ⊢
    clear hW0
    refine wpAnyH_take (i := 0) (oi := ?oi0b) (v := ?v0b) ?hi0b ?hs0b ?hf0b ?hr0b ?hQ0b ?hy0b ?hS0b ?h0b
    case hi0b => exact (by simp only [List.getElem?_toArray, List.getElem?_cons_zero]; rfl)
    case hs0b => kernel_rfl
    case hf0b => kernel_rfl
    case hr0b => kernel_rfl
    case hQ0b => exact fun _ _ _ h => h
    case hy0b =>
      refine Or.inl ⟨rfl, ?_⟩
      intro W hSw
      obtain ⟨y0, y1, y2, y3⟩ := hSw
      go_simp
      try with_reducible rfl
    case hS0b => assumption
    try simp only [Act.put, List.setIfInBounds_toArray, List.set_cons_zero, List.set_cons_succ]
    refine wpAnyH_take (i := 1) (oi := ?oi1b) (v := ?v1b) ?hi1b ?hs1b ?hf1b ?hr1b ?hQ1b ?hy1b ?hS1b ?h1b
    case hi1b => exact (by simp only [List.getElem?_toArray, List.getElem?_cons_succ, List.getElem?_cons_zero]; rfl)
    case hs1b => kernel_rfl
    case hf1b => kernel_rfl
    case hr1b => kernel_rfl
    case hQ1b => exact fun _ _ _ h => h
    case hy1b =>
      refine Or.inl ⟨rfl, ?_⟩
      intro W hSw
      obtain ⟨y0, y1, y2, y3⟩ := hSw
      go_simp
      try with_reducible rfl
    case hS1b => assumption
    try simp only [Act.put, List.setIfInBounds_toArray, List.set_cons_zero, List.set_cons_succ]
    refine wpAnyH_take (i := 2) (oi := ?oi2b) (v := ?v2b) ?hi2b ?hs2b ?hf2b ?hr2b ?hQ2b ?hy2b ?hS2b ?h2b
    case hi2b => exact (by simp only [List.getElem?_toArray, List.getElem?_cons_succ, List.getElem?_cons_zero]; rfl)
    case hs2b => kernel_rfl
    case hf2b => kernel_rfl
    case hr2b => kernel_rfl
    case hQ2b => exact fun _ _ _ h => h
    case hy2b =>
      refine Or.inl ⟨rfl, ?_⟩
      intro W hSw
      obtain ⟨y0, y1, y2, y3⟩ := hSw
      go_simp
      try with_reducible rfl
    case hS2b => assumption
    try simp only [Act.put, List.setIfInBounds_toArray, List.set_cons_zero, List.set_cons_succ]
    refine wpAnyH_take (i := 5) (oi := ?oi5b) (v := ?v5b) ?hi5b ?hs5b ?hf5b ?hr5b ?hQ5b ?hy5b ?hS5b ?h5b
    case hi5b => exact (by simp only [List.getElem?_toArray, List.getElem?_cons_succ, List.getElem?_cons_zero]; rfl)
    case hs5b => kernel_rfl
    case hf5b => kernel_rfl
    case hr5b => kernel_rfl
    case hQ5b => exact fun _ _ _ h => h
    case hy5b =>
      refine Or.inl ⟨rfl, ?_⟩
      intro W hSw
      obtain ⟨y0, y1, y2, y3⟩ := hSw
      go_simp
      try with_reducible rfl
    case hS5b => assumption
    try simp only [Act.put, List.setIfInBounds_toArray, List.set_cons_zero, List.set_cons_succ]
    refine wpAnyH_take (i := 6) (oi := ?oi6b) (v := ?v6b) ?hi6b ?hs6b ?hf6b ?hr6b ?hQ6b ?hy6b ?hS6b ?h6b
    case hi6b => exact (by simp only [List.getElem?_toArray, List.getElem?_cons_succ, List.getElem?_cons_zero]; rfl)
    case hs6b => kernel_rfl
    case hf6b => kernel_rfl
    case hr6b => kernel_rfl
    case hQ6b => exact fun _ _ _ h => h
    case hy6b =>
      refine Or.inl ⟨rfl, ?_⟩
      intro W hSw
      obtain ⟨y0, y1, y2, y3⟩ := hSw
      go_simp
      try with_reducible rfl
    case hS6b => assumption
    try simp only [Act.put, List.setIfInBounds_toArray, List.set_cons_zero, List.set_cons_succ]
    refine wpAnyH_take (i := 7) (oi := ?oi7b) (v := ?v7b) ?hi7b ?hs7b ?hf7b ?hr7b ?hQ7b ?hy7b ?hS7b ?h7b
    case hi7b => exact (by simp only [List.getElem?_toArray, List.getElem?_cons_succ, List.getElem?_cons_zero]; rfl)
    case hs7b => kernel_rfl
    case hf7b => kernel_rfl
    case hr7b => kernel_rfl
    case hQ7b => exact fun _ _ _ h => h
    case hy7b =>
      refine Or.inl ⟨rfl, ?_⟩
      intro W hSw
      obtain ⟨y0, y1, y2, y3⟩ := hSw
      go_simp
      try with_reducible rfl
    case hS7b => assumption
    try simp only [Act.put, List.setIfInBounds_toArray, List.set_cons_zero, List.set_cons_succ]
    refine wpAnyH_take (i := 8) (oi := ?oi8b) (v := (.int .i64 mn)) ?hi8b ?hs8b ?hf8b ?hr8b ?hQ8b ?hy8b ?hS8b ?h8b
    case hi8b => exact (by simp only [List.getElem?_toArray, List.getElem?_cons_succ, List.getElem?_cons_zero]; rfl)
    case hs8b => kernel_rfl
    case hf8b => kernel_rfl
    case hr8b => kernel_rfl
    case hQ8b => exact fun _ _ _ h => h
    case hy8b =>
      refine Or.inl ⟨rfl, ?_⟩
      intro W hSw
      obtain ⟨y0, y1, y2, y3⟩ := hSw
      go_simp
      try simp [hmn]
    case hS8b => assumption
    try simp only [Act.put, List.setIfInBounds_toArray, List.set_cons_zero, List.set_cons_succ]
    refine wpAnyH_ready (rs := [3]) (by kernel_rfl) (by simp) ?_
    refine AllReadyH.cons (o := _) rfl (fun K hK => ?_) AllReadyH.nil
    go_simp
    refine (HC1.out Wb0).mono ?_
    rintro r Wb1 ⟨rfl, hbq⟩
    have HBb1 := Lib.hid (HDb.out.trans (hbq.mono HDb.out.size))
    clear hbq
    refine hK.out _ _ (HCE.out _ (HBb1.out)) (fun hHeld => ?_)
    clear hK K
    try simp only [Act.put, List.setIfInBounds_toArray, List.set_cons_zero, List.set_cons_succ]
    refine wpAnyH_ready (rs := [4]) (by kernel_rfl) (by simp) ?_
    refine AllReadyH.cons (o := _) rfl (fun K hK => ?_) AllReadyH.nil
    go_simp
    refine (HC2.out Wb1).mono ?_
    rintro r Wb2 ⟨rfl, hbq⟩
    have HBb2 := Lib.hid (HBb1.out.trans (hbq.mono HBb1.out.size))
    clear hbq
    refine hK.out _ _ (HCE.out _ (HBb2.out)) (fun hHeld => ?_)
    clear hK K
    try simp only [Act.put, List.setIfInBounds_toArray, List.set_cons_zero, List.set_cons_succ]
    refine wpAnyH_take (i := 9) (oi := ?oi9b) (v := (.bool false)) ?hi9b ?hs9b ?hf9b ?hr9b ?hQ9b ?hy9b ?hS9b ?h9b
    case hi9b => exact (by simp only [List.getElem?_toArray, List.getElem?_cons_succ, List.getElem?_cons_zero]; rfl)
    case hs9b => kernel_rfl
    case hf9b => kernel_rfl
    case hr9b => kernel_rfl
    case hQ9b => exact fun _ _ _ h => h
    case hy9b =>
      refine Or.inl ⟨rfl, ?_⟩
      intro W hSw
      go_simp
      try simp [hf]
    case hS9b => assumption
    try simp only [Act.put, List.setIfInBounds_toArray, List.set_cons_zero, List.set_cons_succ]
    refine wpAnyH_take (i := 10) (oi := ?oi10b) (v := ?v10b) ?hi10b ?hs10b ?hf10b ?hr10b ?hQ10b ?hy10b ?hS10b ?h10b
    case hi10b => exact (by simp only [List.getElem?_toArray, List.getElem?_cons_succ, List.getElem?_cons_zero]; rfl)
    case hs10b => kernel_rfl
    case hf10b => kernel_rfl
    case hr10b => kernel_rfl
    case hQ10b => exact fun _ _ _ h => h
    case hy10b =>
      refine Or.inl ⟨rfl, ?_⟩
      intro W hSw
      obtain ⟨y0, y1, y2, y3⟩ := hSw
      go_simp
      try with_reducible rfl
    case hS10b => assumption
    try simp only [Act.put, List.setIfInBounds_toArray, List.set_cons_zero, List.set_cons_succ]
    refine wpAnyH_done (by kernel_rfl) ?_ _
    try go_wp2
    go_ret
    exact ⟨rfl, HB0.out.trans (HBb2.out.mono HB0.out.size)⟩

set_option maxHeartbeats 4000000 in
theorem index_any (ra wi : Int) (G1 G2 : Nat) (A : Option Addr) (n c : Nat) (l : List Rw) (w : World) (hn : n = l.length) (hE : Rs w w.heap.size A l) (hl : n ≤ 1000) (hra : 0 ≤ ra ∧ ra ≤ 10000) (h1 : w.heap[G1]? = some (.cells #[.int .i64 ra] 3 (0, 0))) (h2 : w.heap[G2]? = some (.cells #[.int .i64 wi] 3 (0, 0))) :
    Calls Try.prog 35 #[.slice A n c, fV G1 G2] w fun r w' => (∃ i : Int, r = .returned (.int .i64 i) ∧ ((i = -1 ∧ l.any (farP ra wi) = false) ∨ (0 ≤ i ∧ l.any (farP ra wi) = true))) ∧ Below w.heap.size w w' := by
  have HE := Lib.hid hE
  have HN := Lib.hid hn
  have HBr : Hid (Below w.heap.size w w) := Below.refl _ _
  have HF : Hid (∀ W e P c', Below w.heap.size w W → Calls Try.prog 26 #[.agg (rC e P c'), .pointer (some ⟨G1, 0, none⟩), .pointer (some ⟨G2, 0, none⟩)] W fun r w' => r = .returned (.bool (farP ra wi e)) ∧ Below W.heap.size W w') := fun W e P c' hW =>
    far_any ra wi e P c' G1 G2 W hra ((hW.block _ (lt_of_block h1)).trans h1) ((hW.block _ (lt_of_block h2)).trans h2)
  clear hE hn h1 h2 hra
  go_enter Try.func35, Try.ntmps35
  go_wp2_with fail
  go_loopw [8] (fun u wr => ∃ k : Nat, k ≤ n ∧ u = .int .i64 (k : Int) ∧ Hid ((∀ e ∈ l.take k, farP ra wi e = false) ∧ Below w.heap.size w wr)) (fun u _ => n - (intOf u).toNat)
  case atStart => exact ⟨0, by omega, rfl, by simp, HBr.out⟩
  case round =>
    obtain ⟨k, hk, rfl, HV⟩ := hrel
    by_cases hlt : k < n
    · obtain ⟨e, hy⟩ : ∃ e, l[k]? = some e := ⟨l[k]'(by rw [← HN.out]; exact hlt), List.getElem?_eq_getElem _⟩
      obtain ⟨b1, o1, rfl, hb1, ha1⟩ := (HE.out.below HV.out.2) (by have := HN.out; omega)
      obtain ⟨P, cp, d0, d1, d2, d3⟩ := ha1 k _ hy
      have HY := Lib.hid hy
      obtain ⟨t, ht⟩ : ∃ t, t = farP ra wi e := ⟨_, rfl⟩
      have HC : Hid (Calls Try.prog 26 #[.agg (rC e P cp), .pointer (some ⟨G1, 0, none⟩), .pointer (some ⟨G2, 0, none⟩)] wr fun r w' => r = .returned (.bool t) ∧ Below wr.heap.size wr w') := by rw [ht]; exact HF.out wr e P cp HV.out.2
      have HT := Lib.hid ht
      clear ha1 hy hb1 ht
      go_wp2_with fail
      refine HC.out.mono ?_
      rintro r w1 ⟨rfl, hb⟩
      have HB1 : Hid (Below w.heap.size w w1) := HV.out.2.trans (hb.mono HV.out.2.size)
      clear hb
      cases t
      · go_wp2
        go_roundw
        case rel =>
          refine ⟨k + 1, by omega, by go_num, fun x hx => ?_, HB1.out⟩
          rw [List.take_add_one, HY.out] at hx
          rcases List.mem_append.1 hx with h | h
          · exact HV.out.1 x h
          · simp at h
            subst h
            exact HT.out.symm
        case measure => simp [intOf] <;> omega
      · have HA : Hid (l.any (farP ra wi) = true) := by
          simp only [Hid]
          rw [List.any_eq_true]
          exact ⟨e, List.mem_of_getElem? HY.out, HT.out.symm⟩
        go_wp2
        go_ret
        exact ⟨⟨(k : Int), rfl, .inr ⟨by omega, HA.out⟩⟩, HB1.out⟩
    · have hkn : k = n := by omega
      subst hkn
      have HA : Hid (l.any (farP ra wi) = false) := by
        have h := HV.out.1
        rw [List.take_of_length_le (by rw [← HN.out]; omega)] at h
        simp only [Hid]
        rw [List.any_eq_false]
        intro e he
        have := h e he
        simp [this]
      go_wp2
      go_ret
      exact ⟨⟨-1, rfl, .inl ⟨rfl, HA.out⟩⟩, HV.out.2⟩

set_option maxHeartbeats 2000000 in
theorem contains_any (ra wi : Int) (G1 G2 : Nat) (A : Option Addr) (n c : Nat) (l : List Rw) (w : World) (hn : n = l.length) (hE : Rs w w.heap.size A l) (hl : n ≤ 1000) (hra : 0 ≤ ra ∧ ra ≤ 10000) (h1 : w.heap[G1]? = some (.cells #[.int .i64 ra] 3 (0, 0))) (h2 : w.heap[G2]? = some (.cells #[.int .i64 wi] 3 (0, 0))) :
    Calls Try.prog 28 #[.slice A n c, fV G1 G2] w fun r w' => r = .returned (.bool (l.any (farP ra wi))) ∧ Below w.heap.size w w' := by
  obtain ⟨t, ht⟩ : ∃ t, t = l.any (farP ra wi) := ⟨_, rfl⟩
  have HC := Lib.hid (index_any ra wi G1 G2 A n c l w hn hE hl hra h1 h2)
  rw [← ht] at HC ⊢
  clear ht hE hn h1 h2
  go_enter Try.func28, Try.ntmps28
  go_wp2_with fail
  refine HC.out.mono ?_
  rintro r w1 ⟨⟨i, rfl, hi⟩, hb⟩
  have HB := Lib.hid hb
  clear hb
  rcases hi with ⟨rfl, rfl⟩ | ⟨h0, rfl⟩
  · skip
    go_wp2
    go_ret
    exact ⟨rfl, HB.out⟩
  · go_wp2
    go_ret
    exact ⟨by simp <;> omega, HB.out⟩
end Go.Proofs.Ytccabdhfnjlbdaa
