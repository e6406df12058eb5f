/- Fill: FillFits' walk. -/
import Derived.Test.YtccabdhfnjlbdaaFH
namespace Go.Proofs.Ytccabdhfnjlbdaa
open Go.RowKit
set_option maxRecDepth 20000
set_option linter.unusedVariables false

set_option maxHeartbeats 16000000 in
theorem fits_walk (m : Mo) (now : Int) (L A : Option Addr) (cl c : Nat) (l : List Tk) (rows : List Rw) (p : Int) (w : World) (hnow : In64 now) (hL : Tr w w.heap.size L l) (hA : Rr w w.heap.size A rows) (hll : l.length ≤ 9223372036854775807) (hlr : rows.length ≤ 9223372036854775807) (hs : ∀ t ∈ l, In64 t.r ∧ In64 t.s) (hp : In64 p) :
    Calls Try.prog 3 #[.agg (aC m now (.slice L l.length cl) (.slice A rows.length c)), .int .i64 p] w fun r w' => r = .returned (.bool true) ∧ Below w.heap.size w w' := by
  obtain ⟨nl, hnl⟩ : ∃ n, n = l.length := ⟨_, rfl⟩
  obtain ⟨n, hn⟩ : ∃ n, n = rows.length := ⟨_, rfl⟩
  rw [← hnl] at hll ⊢
  rw [← hn] at hlr ⊢
  obtain ⟨w0, hw0⟩ : ∃ w0, w0 = w.alloc (.cells (aC m now (.slice L nl cl) (.slice A n c)) 27) := ⟨_, rfl⟩
  have hb0 : Below w.heap.size w w0 := by rw [hw0]; exact (Below.refl _ _).alloc (Nat.le_refl _) _
  have hp0 : w0.heap[w.heap.size]? = some (.cells (aC m now (.slice L nl cl) (.slice A n c)) 27 (0, 0)) := by rw [hw0]; exact heap_alloc_new w _
  have HCE : Hid (∀ W, Below w0.heap.size w0 W → W.cell? ⟨w.heap.size, 0, none⟩ = some (.int .i64 m.k) ∧ W.cell? ⟨w.heap.size, 1, none⟩ = some (.int .i64 m.b) ∧ W.cell? ⟨w.heap.size, 2, none⟩ = some (.int .i64 m.s) ∧ W.cell? ⟨w.heap.size, 3, none⟩ = some (.int .i64 m.c) ∧ W.cell? ⟨w.heap.size, 4, none⟩ = some (.int .i64 m.e) ∧ W.cell? ⟨w.heap.size, 5, none⟩ = some (.int .i64 now) ∧ W.cell? ⟨w.heap.size, 6, none⟩ = some (.slice L nl cl) ∧ W.cell? ⟨w.heap.size, 7, none⟩ = some (.slice A n c)) := fun W hW => by
    have e0 := (hW.block _ (lt_of_block hp0)).trans hp0
    exact ⟨cell_of_row W _ 0 _ _ _ e0, cell_of_row W _ 1 _ _ _ e0, cell_of_row W _ 2 _ _ _ e0, cell_of_row W _ 3 _ _ _ e0, cell_of_row W _ 4 _ _ _ e0, cell_of_row W _ 5 _ _ _ e0, cell_of_row W _ 6 _ _ _ e0, cell_of_row W _ 7 _ _ _ e0⟩
  have hL0 := hL.later hb0 (Nat.le_refl _)
  have hA0 := hA.later hb0 (Nat.le_refl _)
  have HG := Lib.hid (great_any m now L nl cl l A n c rows w0 hnl hL0.ts hn hA0.rs hll hlr)
  have H0 := Lib.hid hw0
  have HB0 := Lib.hid hb0
  have HBS : Hid (Below w0.heap.size w0 w0) := Below.refl _ _
  obtain ⟨y0, y1, y2, y3, y4, y5, y6, y7⟩ := HCE.out w0 HBS.out
  have HNL := Lib.hid hnl
  have HNN := Lib.hid hn
  have HL0 := Lib.hid hL0
  have HA0 := Lib.hid hA0
  have HSS := Lib.hid hs
  have HNW := Lib.hid hnow
  have HP := Lib.hid hp
  clear hp hnl hn hL hA hs hnow hw0 hb0 hp0 hL0 hA0
  go_enter Try.func3, Try.ntmps3
  go_upto_region 1 with (fail)
  rw [← H0.out]
  go_wp2_with fail
  refine HG.out.mono ?_
  rintro r w1 ⟨⟨g, rfl, hg⟩, hb1⟩
  have HB1 := Lib.hid hb1
  clear hb1 y0 y1 y2 y3 y4 y5 y6 y7
  cases g
  · obtain ⟨hg1, hg2, hg3, hg4⟩ := hg rfl
    have HG3 := Lib.hid hg3
    have HG4 := Lib.hid hg4
    have HLN : Hid (∀ t ∈ l, t.n ≤ 10 ∧ In64 t.s) := fun t ht => ⟨hg3 t ht, (HSS.out t ht).2⟩
    have HMO : Hid (∀ W, Calls Try.prog 12 #[.agg (aC m now (.slice L nl cl) (.slice A n c))] W fun r w' => r = .returned m.v ∧ Below W.heap.size W w') := fun W => mode_any m now L A nl cl n c W
    have HTX : Hid (∀ W, Below w0.heap.size w0 W → Calls Try.prog 14 #[.agg (aC m now (.slice L nl cl) (.slice A n c))] W fun r w' => TP l nl r w' ∧ Below W.heap.size W w') := fun W hW =>
      (tickets_any m now A L n c nl cl l W HNL.out (HL0.out.later hW (Nat.le_refl _)) (by omega) HG3.out).mono fun r w' h => h.tp
    have HRX : Hid (∀ W, Below w0.heap.size w0 W → Calls Try.prog 9 #[.agg (aC m now (.slice L nl cl) (.slice A n c))] W fun r w' => RP rows n r w' ∧ Below W.heap.size W w') := fun W hW =>
      (rows_any m now L A nl cl n c rows W HNN.out (HA0.out.later hW (Nat.le_refl _)) (by omega) HG4.out).mono fun r w' h => h.rp
    have HAW : Hid (∀ W, Calls Try.prog 17 #[] W fun r w' => r = .returned (.bool true) ∧ Below W.heap.size W w') := fun W => fawake W
    clear hg hg3 hg4
    have HRT : Hid (∀ W A2 c2, Rs W W.heap.size A2 rows → Calls Try.prog 8 #[.slice A2 n c2] W fun r w' => r = .returned (.tuple #[.int .i64 (takP 1 rows), .int .i64 (takP 2 rows)]) ∧ Below W.heap.size W w') := fun W A2 c2 h => taken_any A2 n c2 rows W HNN.out h HG4.out (by omega)
    have HT1 : Hid (∀ W (k : Int), Below w0.heap.size w0 W → Calls Try.prog 10 #[.slice A n c, .int .i64 k] W fun r w' => r = .returned (.int .i64 (takP k rows)) ∧ Below W.heap.size W w') := fun W k hW => (rtaken_any k A n c rows W HNN.out (HA0.out.later hW (Nat.le_refl _)).rs HG4.out (by omega)).mono fun r w' h => ⟨h.1, by rw [h.2]; exact Below.refl _ _⟩
    have HTM : Hid (∀ W A2 c2, Rs W W.heap.size A2 rows → Calls Try.prog 11 #[m.v, .int .i64 p, .slice A2 n c2] W fun r w' => r = .returned (.int .i64 (teamP m p rows)) ∧ Below W.heap.size W w') := fun W A2 c2 h => team_any m p A2 n c2 rows W HP.out HNN.out h HG4.out (by omega)
    have HTR : Hid (∀ W, Below w0.heap.size w0 W → Calls Try.prog 13 #[m.v, .int .i64 p, .slice A n c] W fun r w' => r = .returned (.int .i64 (teamP m p rows)) ∧ Below W.heap.size W w') := fun W hW => rteam_any m p A n c rows W HP.out HNN.out (HA0.out.later hW (Nat.le_refl _)).rs HG4.out (by omega)
    have HFI : Hid (∀ W t x y P cp A2 c2, t ∈ l → Rs W W.heap.size A2 rows → Calls Try.prog 15 #[m.v, .int .i64 now, .agg #[.int .u32 x, .int .i64 y, .slice P t.n cp, .int .i64 t.r, .int .i64 t.s], .slice A2 n c2] W fun r w' => r = .returned (.bool (fitsP m now t rows)) ∧ Below W.heap.size W w') := fun W t x y P cp A2 c2 ht h => fits_any m now x y P cp t A2 n c2 rows W HNN.out h (by omega) HNW.out (HLN.out t ht).2
    have HFJ : Hid (∀ W t x y P cp, t ∈ l → Below w0.heap.size w0 W → Calls Try.prog 16 #[m.v, .int .i64 now, .agg #[.int .u32 x, .int .i64 y, .slice P t.n cp, .int .i64 t.r, .int .i64 t.s], .slice A n c] W fun r w' => r = .returned (.bool (fitsP m now t rows)) ∧ Below W.heap.size W w') := fun W t x y P cp ht hW => rfits_any m now x y P cp t A n c rows W HNN.out (HA0.out.later hW (Nat.le_refl _)).rs (by omega) HNW.out (HLN.out t ht).2
    obtain ⟨y0, y1, y2, y3, y4, y5, y6, y7⟩ := HCE.out w1 HB1.out
    go_upto_region 3 with (fail)
    go_wp2_with fail
    refine (HRX.out w1 HB1.out).mono ?_
    rintro r w2 ⟨⟨A6, c6, rfl, hrs⟩, hb2⟩
    have HB2 := Lib.hid (HB1.out.trans (hb2.mono HB1.out.size))
    have HRS0 := Lib.hid hrs
    clear hrs hb2 y0 y1 y2 y3 y4 y5 y6 y7
    go_wp2_with fail
    refine (HRT.out w2 A6 c6 HRS0.out).mono ?_
    rintro r w3 ⟨rfl, hb3⟩
    have HB3 := Lib.hid (HB2.out.trans (hb3.mono HB2.out.size))
    clear hb3
    go_upto_region 4 with (fail)
    have HDq : Hid (Below w0.heap.size w0 w3.drew) := HB3.out.drew
    refine wp_region_held_drew (S := fun W : World => W.cell? ⟨w.heap.size, 0, none⟩ = some (.int .i64 m.k) ∧ W.cell? ⟨w.heap.size, 1, none⟩ = some (.int .i64 m.b) ∧ W.cell? ⟨w.heap.size, 2, none⟩ = some (.int .i64 m.s) ∧ W.cell? ⟨w.heap.size, 3, none⟩ = some (.int .i64 m.c) ∧ W.cell? ⟨w.heap.size, 4, none⟩ = some (.int .i64 m.e) ∧ W.cell? ⟨w.heap.size, 5, none⟩ = some (.int .i64 now) ∧ W.cell? ⟨w.heap.size, 6, none⟩ = some (.slice L nl cl) ∧ W.cell? ⟨w.heap.size, 7, none⟩ = some (.slice A n c)) (by kernel_rfl) (HCE.out _ (HDq.out)) (fun hHeld => ?_)
    obtain ⟨Wq0, hW0⟩ : ∃ W0, W0 = w3.drew := ⟨_, rfl⟩
    rw [← hW0] at hHeld HDq ⊢
    clear hW0
    refine wpAnyH_take (i := 0) (oi := ?oi0q) (v := ?v0q) ?hi0q ?hs0q ?hf0q ?hr0q ?hQ0q ?hy0q ?hS0q ?h0q
    case hi0q => exact (by simp only [List.getElem?_toArray, List.getElem?_cons_zero]; rfl)
    case hs0q => kernel_rfl
    case hf0q => kernel_rfl
    case hr0q => kernel_rfl
    case hQ0q => exact fun _ _ _ h => h
    case hy0q =>
      refine Or.inl ⟨rfl, ?_⟩
      intro W hSw
      obtain ⟨y0, y1, y2, y3, y4, y5, y6, y7⟩ := hSw
      go_simp
      try with_reducible rfl
    case hS0q => assumption
    try simp only [Act.put, List.setIfInBounds_toArray, List.set_cons_zero, List.set_cons_succ]
    refine wpAnyH_take (i := 1) (oi := ?oi1q) (v := ?v1q) ?hi1q ?hs1q ?hf1q ?hr1q ?hQ1q ?hy1q ?hS1q ?h1q
    case hi1q => exact (by simp only [List.getElem?_toArray, List.getElem?_cons_succ, List.getElem?_cons_zero]; rfl)
    case hs1q => kernel_rfl
    case hf1q => kernel_rfl
    case hr1q => kernel_rfl
    case hQ1q => exact fun _ _ _ h => h
    case hy1q =>
      refine Or.inl ⟨rfl, ?_⟩
      intro W hSw
      obtain ⟨y0, y1, y2, y3, y4, y5, y6, y7⟩ := hSw
      go_simp
      try with_reducible rfl
    case hS1q => assumption
    try simp only [Act.put, List.setIfInBounds_toArray, List.set_cons_zero, List.set_cons_succ]
    refine wpAnyH_take (i := 2) (oi := ?oi2q) (v := ?v2q) ?hi2q ?hs2q ?hf2q ?hr2q ?hQ2q ?hy2q ?hS2q ?h2q
    case hi2q => exact (by simp only [List.getElem?_toArray, List.getElem?_cons_succ, List.getElem?_cons_zero]; rfl)
    case hs2q => kernel_rfl
    case hf2q => kernel_rfl
    case hr2q => kernel_rfl
    case hQ2q => exact fun _ _ _ h => h
    case hy2q =>
      refine Or.inl ⟨rfl, ?_⟩
      intro W hSw
      obtain ⟨y0, y1, y2, y3, y4, y5, y6, y7⟩ := hSw
      go_simp
      try with_reducible rfl
    case hS2q => assumption
    try simp only [Act.put, List.setIfInBounds_toArray, List.set_cons_zero, List.set_cons_succ]
    refine wpAnyH_ready (rs := [3]) (by kernel_rfl) (by simp) ?_
    refine AllReadyH.cons (o := _) rfl (fun K hK => ?_) AllReadyH.nil
    go_simp
    refine (HT1.out Wq0 1 HDq.out).mono ?_
    rintro r Wq1 ⟨rfl, hbq⟩
    have HBq1 := Lib.hid (HDq.out.trans (hbq.mono HDq.out.size))
    clear hbq
    refine hK.out _ _ (HCE.out _ (HBq1.out)) (fun hHeld => ?_)
    clear hK K
    try simp only [Act.put, List.setIfInBounds_toArray, List.set_cons_zero, List.set_cons_succ]
    refine wpAnyH_take (i := 4) (oi := ?oi4q) (v := (.bool false)) ?hi4q ?hs4q ?hf4q ?hr4q ?hQ4q ?hy4q ?hS4q ?h4q
    case hi4q => exact (by simp only [List.getElem?_toArray, List.getElem?_cons_succ, List.getElem?_cons_zero]; rfl)
    case hs4q => kernel_rfl
    case hf4q => kernel_rfl
    case hr4q => kernel_rfl
    case hQ4q => exact fun _ _ _ h => h
    case hy4q =>
      refine Or.inl ⟨rfl, ?_⟩
      intro W hSw
      go_simp
      try simp []
    case hS4q => assumption
    try simp only [Act.put, List.setIfInBounds_toArray, List.set_cons_zero, List.set_cons_succ]
    refine wpAnyH_take (i := 5) (oi := ?oi5q) (v := ?v5q) ?hi5q ?hs5q ?hf5q ?hr5q ?hQ5q ?hy5q ?hS5q ?h5q
    case hi5q => exact (by simp only [List.getElem?_toArray, List.getElem?_cons_succ, List.getElem?_cons_zero]; rfl)
    case hs5q => kernel_rfl
    case hf5q => kernel_rfl
    case hr5q => kernel_rfl
    case hQ5q => exact fun _ _ _ h => h
    case hy5q =>
      refine Or.inl ⟨rfl, ?_⟩
      intro W hSw
      obtain ⟨y0, y1, y2, y3, y4, y5, y6, y7⟩ := hSw
      go_simp
      try with_reducible rfl
    case hS5q => assumption
    try simp only [Act.put, List.setIfInBounds_toArray, List.set_cons_zero, List.set_cons_succ]
    refine wpAnyH_take (i := 6) (oi := ?oi6q) (v := ?v6q) ?hi6q ?hs6q ?hf6q ?hr6q ?hQ6q ?hy6q ?hS6q ?h6q
    case hi6q => exact (by simp only [List.getElem?_toArray, List.getElem?_cons_succ, List.getElem?_cons_zero]; rfl)
    case hs6q => kernel_rfl
    case hf6q => kernel_rfl
    case hr6q => kernel_rfl
    case hQ6q => exact fun _ _ _ h => h
    case hy6q =>
      refine Or.inl ⟨rfl, ?_⟩
      intro W hSw
      obtain ⟨y0, y1, y2, y3, y4, y5, y6, y7⟩ := hSw
      go_simp
      try with_reducible rfl
    case hS6q => assumption
    try simp only [Act.put, List.setIfInBounds_toArray, List.set_cons_zero, List.set_cons_succ]
    refine wpAnyH_take (i := 7) (oi := ?oi7q) (v := ?v7q) ?hi7q ?hs7q ?hf7q ?hr7q ?hQ7q ?hy7q ?hS7q ?h7q
    case hi7q => exact (by simp only [List.getElem?_toArray, List.getElem?_cons_succ, List.getElem?_cons_zero]; rfl)
    case hs7q => kernel_rfl
    case hf7q => kernel_rfl
    case hr7q => kernel_rfl
    case hQ7q => exact fun _ _ _ h => h
    case hy7q =>
      refine Or.inl ⟨rfl, ?_⟩
      intro W hSw
      obtain ⟨y0, y1, y2, y3, y4, y5, y6, y7⟩ := hSw
      go_simp
      try with_reducible rfl
    case hS7q => assumption
    try simp only [Act.put, List.setIfInBounds_toArray, List.set_cons_zero, List.set_cons_succ]
    refine wpAnyH_take (i := 8) (oi := ?oi8q) (v := ?v8q) ?hi8q ?hs8q ?hf8q ?hr8q ?hQ8q ?hy8q ?hS8q ?h8q
    case hi8q => exact (by simp only [List.getElem?_toArray, List.getElem?_cons_succ, List.getElem?_cons_zero]; rfl)
    case hs8q => kernel_rfl
    case hf8q => kernel_rfl
    case hr8q => kernel_rfl
    case hQ8q => exact fun _ _ _ h => h
    case hy8q =>
      refine Or.inl ⟨rfl, ?_⟩
      intro W hSw
      obtain ⟨y0, y1, y2, y3, y4, y5, y6, y7⟩ := hSw
      go_simp
      try with_reducible rfl
    case hS8q => assumption
    try simp only [Act.put, List.setIfInBounds_toArray, List.set_cons_zero, List.set_cons_succ]
    refine wpAnyH_ready (rs := [9]) (by kernel_rfl) (by simp) ?_
    refine AllReadyH.cons (o := _) rfl (fun K hK => ?_) AllReadyH.nil
    go_simp
    refine (HT1.out Wq1 2 HBq1.out).mono ?_
    rintro r Wq2 ⟨rfl, hbq⟩
    have HBq2 := Lib.hid (HBq1.out.trans (hbq.mono HBq1.out.size))
    clear hbq
    refine hK.out _ _ (HCE.out _ (HBq2.out)) (fun hHeld => ?_)
    clear hK K
    try simp only [Act.put, List.setIfInBounds_toArray, List.set_cons_zero, List.set_cons_succ]
    refine wpAnyH_take (i := 10) (oi := ?oi10q) (v := (.bool false)) ?hi10q ?hs10q ?hf10q ?hr10q ?hQ10q ?hy10q ?hS10q ?h10q
    case hi10q => exact (by simp only [List.getElem?_toArray, List.getElem?_cons_succ, List.getElem?_cons_zero]; rfl)
    case hs10q => kernel_rfl
    case hf10q => kernel_rfl
    case hr10q => kernel_rfl
    case hQ10q => exact fun _ _ _ h => h
    case hy10q =>
      refine Or.inl ⟨rfl, ?_⟩
      intro W hSw
      go_simp
      try simp []
    case hS10q => assumption
    try simp only [Act.put, List.setIfInBounds_toArray, List.set_cons_zero, List.set_cons_succ]
    refine wpAnyH_take (i := 11) (oi := ?oi11q) (v := (.bool false)) ?hi11q ?hs11q ?hf11q ?hr11q ?hQ11q ?hy11q ?hS11q ?h11q
    case hi11q => exact (by simp only [List.getElem?_toArray, List.getElem?_cons_succ, List.getElem?_cons_zero]; rfl)
    case hs11q => kernel_rfl
    case hf11q => kernel_rfl
    case hr11q => kernel_rfl
    case hQ11q => exact fun _ _ _ h => h
    case hy11q =>
      refine Or.inl ⟨rfl, ?_⟩
      intro W hSw
      obtain ⟨y0, y1, y2, y3, y4, y5, y6, y7⟩ := hSw
      go_simp
      try with_reducible rfl
    case hS11q => assumption
    try simp only [Act.put, List.setIfInBounds_toArray, List.set_cons_zero, List.set_cons_succ]
    refine wpAnyH_take (i := 12) (oi := ?oi12q) (v := ?v12q) ?hi12q ?hs12q ?hf12q ?hr12q ?hQ12q ?hy12q ?hS12q ?h12q
    case hi12q => exact (by simp only [List.getElem?_toArray, List.getElem?_cons_succ, List.getElem?_cons_zero]; rfl)
    case hs12q => kernel_rfl
    case hf12q => kernel_rfl
    case hr12q => kernel_rfl
    case hQ12q => exact fun _ _ _ h => h
    case hy12q =>
      refine Or.inl ⟨rfl, ?_⟩
      intro W hSw
      obtain ⟨y0, y1, y2, y3, y4, y5, y6, y7⟩ := hSw
      go_simp
      try with_reducible rfl
    case hS12q => assumption
    try simp only [Act.put, List.setIfInBounds_toArray, List.set_cons_zero, List.set_cons_succ]
    refine wpAnyH_take (i := 13) (oi := ?oi13q) (v := ?v13q) ?hi13q ?hs13q ?hf13q ?hr13q ?hQ13q ?hy13q ?hS13q ?h13q
    case hi13q => exact (by simp only [List.getElem?_toArray, List.getElem?_cons_succ, List.getElem?_cons_zero]; rfl)
    case hs13q => kernel_rfl
    case hf13q => kernel_rfl
    case hr13q => kernel_rfl
    case hQ13q => exact fun _ _ _ h => h
    case hy13q =>
      refine Or.inl ⟨rfl, ?_⟩
      intro W hSw
      obtain ⟨y0, y1, y2, y3, y4, y5, y6, y7⟩ := hSw
      go_simp
      try with_reducible rfl
    case hS13q => assumption
    try simp only [Act.put, List.setIfInBounds_toArray, List.set_cons_zero, List.set_cons_succ]
    refine wpAnyH_take (i := 15) (oi := ?oi15q) (v := ?v15q) ?hi15q ?hs15q ?hf15q ?hr15q ?hQ15q ?hy15q ?hS15q ?h15q
    case hi15q => exact (by simp only [List.getElem?_toArray, List.getElem?_cons_succ, List.getElem?_cons_zero]; rfl)
    case hs15q => kernel_rfl
    case hf15q => kernel_rfl
    case hr15q => kernel_rfl
    case hQ15q => exact fun _ _ _ h => h
    case hy15q =>
      refine Or.inl ⟨rfl, ?_⟩
      intro W hSw
      obtain ⟨y0, y1, y2, y3, y4, y5, y6, y7⟩ := hSw
      go_simp
      try with_reducible rfl
    case hS15q => assumption
    try simp only [Act.put, List.setIfInBounds_toArray, List.set_cons_zero, List.set_cons_succ]
    refine wpAnyH_take (i := 16) (oi := ?oi16q) (v := ?v16q) ?hi16q ?hs16q ?hf16q ?hr16q ?hQ16q ?hy16q ?hS16q ?h16q
    case hi16q => exact (by simp only [List.getElem?_toArray, List.getElem?_cons_succ, List.getElem?_cons_zero]; rfl)
    case hs16q => kernel_rfl
    case hf16q => kernel_rfl
    case hr16q => kernel_rfl
    case hQ16q => exact fun _ _ _ h => h
    case hy16q =>
      refine Or.inl ⟨rfl, ?_⟩
      intro W hSw
      obtain ⟨y0, y1, y2, y3, y4, y5, y6, y7⟩ := hSw
      go_simp
      try with_reducible rfl
    case hS16q => assumption
    try simp only [Act.put, List.setIfInBounds_toArray, List.set_cons_zero, List.set_cons_succ]
    refine wpAnyH_take (i := 19) (oi := ?oi19q) (v := ?v19q) ?hi19q ?hs19q ?hf19q ?hr19q ?hQ19q ?hy19q ?hS19q ?h19q
    case hi19q => exact (by simp only [List.getElem?_toArray, List.getElem?_cons_succ, List.getElem?_cons_zero]; rfl)
    case hs19q => kernel_rfl
    case hf19q => kernel_rfl
    case hr19q => kernel_rfl
    case hQ19q => exact fun _ _ _ h => h
    case hy19q =>
      refine Or.inl ⟨rfl, ?_⟩
      intro W hSw
      obtain ⟨y0, y1, y2, y3, y4, y5, y6, y7⟩ := hSw
      go_simp
      try with_reducible rfl
    case hS19q => assumption
    try simp only [Act.put, List.setIfInBounds_toArray, List.set_cons_zero, List.set_cons_succ]
    refine wpAnyH_take (i := 20) (oi := ?oi20q) (v := ?v20q) ?hi20q ?hs20q ?hf20q ?hr20q ?hQ20q ?hy20q ?hS20q ?h20q
    case hi20q => exact (by simp only [List.getElem?_toArray, List.getElem?_cons_succ, List.getElem?_cons_zero]; rfl)
    case hs20q => kernel_rfl
    case hf20q => kernel_rfl
    case hr20q => kernel_rfl
    case hQ20q => exact fun _ _ _ h => h
    case hy20q =>
      refine Or.inl ⟨rfl, ?_⟩
      intro W hSw
      obtain ⟨y0, y1, y2, y3, y4, y5, y6, y7⟩ := hSw
      go_simp
      try with_reducible rfl
    case hS20q => assumption
    try simp only [Act.put, List.setIfInBounds_toArray, List.set_cons_zero, List.set_cons_succ]
    refine wpAnyH_take (i := 21) (oi := ?oi21q) (v := ?v21q) ?hi21q ?hs21q ?hf21q ?hr21q ?hQ21q ?hy21q ?hS21q ?h21q
    case hi21q => exact (by simp only [List.getElem?_toArray, List.getElem?_cons_succ, List.getElem?_cons_zero]; rfl)
    case hs21q => kernel_rfl
    case hf21q => kernel_rfl
    case hr21q => kernel_rfl
    case hQ21q => exact fun _ _ _ h => h
    case hy21q =>
      refine Or.inl ⟨rfl, ?_⟩
      intro W hSw
      obtain ⟨y0, y1, y2, y3, y4, y5, y6, y7⟩ := hSw
      go_simp
      try with_reducible rfl
    case hS21q => assumption
    try simp only [Act.put, List.setIfInBounds_toArray, List.set_cons_zero, List.set_cons_succ]
    refine wpAnyH_take (i := 22) (oi := ?oi22q) (v := ?v22q) ?hi22q ?hs22q ?hf22q ?hr22q ?hQ22q ?hy22q ?hS22q ?h22q
    case hi22q => exact (by simp only [List.getElem?_toArray, List.getElem?_cons_succ, List.getElem?_cons_zero]; rfl)
    case hs22q => kernel_rfl
    case hf22q => kernel_rfl
    case hr22q => kernel_rfl
    case hQ22q => exact fun _ _ _ h => h
    case hy22q =>
      refine Or.inl ⟨rfl, ?_⟩
      intro W hSw
      obtain ⟨y0, y1, y2, y3, y4, y5, y6, y7⟩ := hSw
      go_simp
      try with_reducible rfl
    case hS22q => assumption
    try simp only [Act.put, List.setIfInBounds_toArray, List.set_cons_zero, List.set_cons_succ]
    refine wpAnyH_take (i := 23) (oi := ?oi23q) (v := ?v23q) ?hi23q ?hs23q ?hf23q ?hr23q ?hQ23q ?hy23q ?hS23q ?h23q
    case hi23q => exact (by simp only [List.getElem?_toArray, List.getElem?_cons_succ, List.getElem?_cons_zero]; rfl)
    case hs23q => kernel_rfl
    case hf23q => kernel_rfl
    case hr23q => kernel_rfl
    case hQ23q => exact fun _ _ _ h => h
    case hy23q =>
      refine Or.inl ⟨rfl, ?_⟩
      intro W hSw
      obtain ⟨y0, y1, y2, y3, y4, y5, y6, y7⟩ := hSw
      go_simp
      try with_reducible rfl
    case hS23q => assumption
    try simp only [Act.put, List.setIfInBounds_toArray, List.set_cons_zero, List.set_cons_succ]
    refine wpAnyH_ready (rs := [14]) (by kernel_rfl) (by simp) ?_
    refine AllReadyH.cons (o := _) rfl (fun K hK => ?_) AllReadyH.nil
    go_simp
    refine (HMO.out Wq2).mono ?_
    rintro r Wq3 ⟨rfl, hbq⟩
    have HBq3 := Lib.hid (HBq2.out.trans (hbq.mono HBq2.out.size))
    clear hbq
    refine hK.out _ _ (HCE.out _ (HBq3.out)) (fun hHeld => ?_)
    clear hK K
    try simp only [Act.put, List.setIfInBounds_toArray, List.set_cons_zero, List.set_cons_succ]
    refine wpAnyH_ready (rs := [17]) (by kernel_rfl) (by simp) ?_
    refine AllReadyH.cons (o := _) rfl (fun K hK => ?_) AllReadyH.nil
    go_simp
    refine (HRX.out Wq3 HBq3.out).mono ?_
    rintro r Wq4 ⟨⟨A7, c7, rfl, hrs⟩, hbq⟩
    have HBq4 := Lib.hid (HBq3.out.trans (hbq.mono HBq3.out.size))
    have HRS := Lib.hid hrs
    clear hrs
    clear hbq
    refine hK.out _ _ (HCE.out _ (HBq4.out)) (fun hHeld => ?_)
    clear hK K
    try simp only [Act.put, List.setIfInBounds_toArray, List.set_cons_zero, List.set_cons_succ]
    refine wpAnyH_ready (rs := [18]) (by kernel_rfl) (by simp) ?_
    refine AllReadyH.cons (o := _) rfl (fun K hK => ?_) AllReadyH.nil
    go_simp
    refine (HTM.out Wq4 A7 c7 HRS.out).mono ?_
    rintro r Wq5 ⟨rfl, hbq⟩
    have HBq5 := Lib.hid (HBq4.out.trans (hbq.mono HBq4.out.size))
    clear hbq
    refine hK.out _ _ (HCE.out _ (HBq5.out)) (fun hHeld => ?_)
    clear hK K
    try simp only [Act.put, List.setIfInBounds_toArray, List.set_cons_zero, List.set_cons_succ]
    refine wpAnyH_ready (rs := [24]) (by kernel_rfl) (by simp) ?_
    refine AllReadyH.cons (o := _) rfl (fun K hK => ?_) AllReadyH.nil
    go_simp
    refine (HTR.out Wq5 HBq5.out).mono ?_
    rintro r Wq6 ⟨rfl, hbq⟩
    have HBq6 := Lib.hid (HBq5.out.trans (hbq.mono HBq5.out.size))
    clear hbq
    refine hK.out _ _ (HCE.out _ (HBq6.out)) (fun hHeld => ?_)
    clear hK K
    try simp only [Act.put, List.setIfInBounds_toArray, List.set_cons_zero, List.set_cons_succ]
    refine wpAnyH_take (i := 25) (oi := ?oi25q) (v := (.bool false)) ?hi25q ?hs25q ?hf25q ?hr25q ?hQ25q ?hy25q ?hS25q ?h25q
    case hi25q => exact (by simp only [List.getElem?_toArray, List.getElem?_cons_succ, List.getElem?_cons_zero]; rfl)
    case hs25q => kernel_rfl
    case hf25q => kernel_rfl
    case hr25q => kernel_rfl
    case hQ25q => exact fun _ _ _ h => h
    case hy25q =>
      refine Or.inl ⟨rfl, ?_⟩
      intro W hSw
      go_simp
      try simp []
    case hS25q => assumption
    try simp only [Act.put, List.setIfInBounds_toArray, List.set_cons_zero, List.set_cons_succ]
    refine wpAnyH_take (i := 26) (oi := ?oi26q) (v := (.bool false)) ?hi26q ?hs26q ?hf26q ?hr26q ?hQ26q ?hy26q ?hS26q ?h26q
    case hi26q => exact (by simp only [List.getElem?_toArray, List.getElem?_cons_succ, List.getElem?_cons_zero]; rfl)
    case hs26q => kernel_rfl
    case hf26q => kernel_rfl
    case hr26q => kernel_rfl
    case hQ26q => exact fun _ _ _ h => h
    case hy26q =>
      refine Or.inl ⟨rfl, ?_⟩
      intro W hSw
      obtain ⟨y0, y1, y2, y3, y4, y5, y6, y7⟩ := hSw
      go_simp
      try with_reducible rfl
    case hS26q => assumption
    try simp only [Act.put, List.setIfInBounds_toArray, List.set_cons_zero, List.set_cons_succ]
    refine wpAnyH_done (by kernel_rfl) ?_ _
    obtain ⟨y0, y1, y2, y3, y4, y5, y6, y7⟩ := HCE.out Wq6 HBq6.out
    go_wp2_with fail
    refine (HTX.out Wq6 HBq6.out).mono ?_
    rintro r wt ⟨⟨A5, c5, rfl, hts⟩, hb5⟩
    have HBB := Lib.hid (HBq6.out.trans (hb5.mono HBq6.out.size))
    have HTS := Lib.hid hts
    have HBT : Hid (Below wt.heap.size wt wt) := Below.refl _ _
    clear hts hb5 y0 y1 y2 y3 y4 y5 y6 y7
    go_wp2_with fail
    go_loopw [8] (fun u wr => ∃ k : Nat, k ≤ nl ∧ u = .int .i64 (k : Int) ∧ Hid (Below wt.heap.size wt wr)) (fun u _ => nl - (intOf u).toNat)
    case atStart => exact ⟨0, by omega, rfl, HBT.out⟩
    case round =>
      obtain ⟨k, hk, rfl, HV⟩ := hrel
      by_cases hlt : k < nl
      · obtain ⟨t, hy⟩ : ∃ t, l[k]? = some t := ⟨l[k]'(by rw [← HNL.out]; exact hlt), List.getElem?_eq_getElem _⟩
        obtain ⟨b1, o1, rfl, hb1, ha1⟩ := HTS.out (by have := HNL.out; omega)
        obtain ⟨x, y, P, cp, d0, d1, d2, d3, d4⟩ := ha1 k _ hy
        obtain ⟨b2, o2, rfl, hb2, ha2⟩ := (HL0.out.later HBB.out (Nat.le_refl _)).ts (by have := HNL.out; omega)
        obtain ⟨x2, y2, P2, cp2, e0, e1, e2, e3, e4⟩ := ha2 k _ hy
        have hmem := List.mem_of_getElem? hy
        obtain ⟨f, hf⟩ : ∃ f, f = fitsP m now t rows := ⟨_, rfl⟩
        have HF1 : Hid (∀ W A2 c2, Rs W W.heap.size A2 rows → Calls Try.prog 15 #[m.v, .int .i64 now, .agg #[.int .u32 x, .int .i64 y, .slice P t.n cp, .int .i64 t.r, .int .i64 t.s], .slice A2 n c2] W fun r w' => r = .returned (.bool f) ∧ Below W.heap.size W w') := fun W A2 c2 h => by rw [hf]; exact HFI.out W t x y P cp A2 c2 hmem h
        have HF2 : Hid (∀ W, Below w0.heap.size w0 W → Calls Try.prog 16 #[m.v, .int .i64 now, .agg #[.int .u32 x2, .int .i64 y2, .slice P2 t.n cp2, .int .i64 t.r, .int .i64 t.s], .slice A n c] W fun r w' => r = .returned (.bool f) ∧ Below W.heap.size W w') := fun W hW => by rw [hf]; exact HFJ.out W t x2 y2 P2 cp2 hmem hW
        have HCF : Hid (∀ W : World, Below wt.heap.size wt W → (W.cell? ⟨w.heap.size, 0, none⟩ = some (.int .i64 m.k) ∧ W.cell? ⟨w.heap.size, 1, none⟩ = some (.int .i64 m.b) ∧ W.cell? ⟨w.heap.size, 2, none⟩ = some (.int .i64 m.s) ∧ W.cell? ⟨w.heap.size, 3, none⟩ = some (.int .i64 m.c) ∧ W.cell? ⟨w.heap.size, 4, none⟩ = some (.int .i64 m.e) ∧ W.cell? ⟨w.heap.size, 5, none⟩ = some (.int .i64 now) ∧ W.cell? ⟨w.heap.size, 6, none⟩ = some (.slice (some ⟨b2, o2, none⟩) nl cl) ∧ W.cell? ⟨w.heap.size, 7, none⟩ = some (.slice A n c)) ∧ (W.cell? ⟨b1, o1 + k * 5, none⟩ = some (.int .u32 x) ∧ W.cell? ⟨b1, o1 + k * 5 + 1, none⟩ = some (.int .i64 y) ∧ W.cell? ⟨b1, o1 + k * 5 + 2, none⟩ = some (.slice P t.n cp) ∧ W.cell? ⟨b1, o1 + k * 5 + 3, none⟩ = some (.int .i64 t.r) ∧ W.cell? ⟨b1, o1 + k * 5 + 4, none⟩ = some (.int .i64 t.s)) ∧ (W.cell? ⟨b2, o2 + k * 5, none⟩ = some (.int .u32 x2) ∧ W.cell? ⟨b2, o2 + k * 5 + 1, none⟩ = some (.int .i64 y2) ∧ W.cell? ⟨b2, o2 + k * 5 + 2, none⟩ = some (.slice P2 t.n cp2) ∧ W.cell? ⟨b2, o2 + k * 5 + 3, none⟩ = some (.int .i64 t.r) ∧ W.cell? ⟨b2, o2 + k * 5 + 4, none⟩ = some (.int .i64 t.s))) := fun W hW => ⟨HCE.out W (HBB.out.trans (hW.mono HBB.out.size)), ⟨(hW.cell (p := ⟨b1, _, none⟩) hb1).trans d0, (hW.cell (p := ⟨b1, _, none⟩) hb1).trans d1, (hW.cell (p := ⟨b1, _, none⟩) hb1).trans d2, (hW.cell (p := ⟨b1, _, none⟩) hb1).trans d3, (hW.cell (p := ⟨b1, _, none⟩) hb1).trans d4⟩, (hW.cell (p := ⟨b2, _, none⟩) hb2).trans e0, (hW.cell (p := ⟨b2, _, none⟩) hb2).trans e1, (hW.cell (p := ⟨b2, _, none⟩) hb2).trans e2, (hW.cell (p := ⟨b2, _, none⟩) hb2).trans e3, (hW.cell (p := ⟨b2, _, none⟩) hb2).trans e4⟩
        have HKN : Hid (k < nl) := hlt
        clear ha1 hb1 ha2 hb2 d0 d1 d2 d3 d4 e0 e1 e2 e3 e4 hy hmem hf
        go_upto_region 10 with (fail)
        have HDs : Hid (Below wt.heap.size wt wr.drew) := HV.out.drew
        refine wp_region_held_drew (S := fun W : World => (W.cell? ⟨w.heap.size, 0, none⟩ = some (.int .i64 m.k) ∧ W.cell? ⟨w.heap.size, 1, none⟩ = some (.int .i64 m.b) ∧ W.cell? ⟨w.heap.size, 2, none⟩ = some (.int .i64 m.s) ∧ W.cell? ⟨w.heap.size, 3, none⟩ = some (.int .i64 m.c) ∧ W.cell? ⟨w.heap.size, 4, none⟩ = some (.int .i64 m.e) ∧ W.cell? ⟨w.heap.size, 5, none⟩ = some (.int .i64 now) ∧ W.cell? ⟨w.heap.size, 6, none⟩ = some (.slice (some ⟨b2, o2, none⟩) nl cl) ∧ W.cell? ⟨w.heap.size, 7, none⟩ = some (.slice A n c)) ∧ (W.cell? ⟨b1, o1 + k * 5, none⟩ = some (.int .u32 x) ∧ W.cell? ⟨b1, o1 + k * 5 + 1, none⟩ = some (.int .i64 y) ∧ W.cell? ⟨b1, o1 + k * 5 + 2, none⟩ = some (.slice P t.n cp) ∧ W.cell? ⟨b1, o1 + k * 5 + 3, none⟩ = some (.int .i64 t.r) ∧ W.cell? ⟨b1, o1 + k * 5 + 4, none⟩ = some (.int .i64 t.s)) ∧ (W.cell? ⟨b2, o2 + k * 5, none⟩ = some (.int .u32 x2) ∧ W.cell? ⟨b2, o2 + k * 5 + 1, none⟩ = some (.int .i64 y2) ∧ W.cell? ⟨b2, o2 + k * 5 + 2, none⟩ = some (.slice P2 t.n cp2) ∧ W.cell? ⟨b2, o2 + k * 5 + 3, none⟩ = some (.int .i64 t.r) ∧ W.cell? ⟨b2, o2 + k * 5 + 4, none⟩ = some (.int .i64 t.s))) (by kernel_rfl) (HCF.out _ (HDs.out)) (fun hHeld => ?_)
        obtain ⟨Ws0, hW0⟩ : ∃ W0, W0 = wr.drew := ⟨_, rfl⟩
        rw [← hW0] at hHeld HDs ⊢
        clear hW0
        refine wpAnyH_take (i := 0) (oi := ?oi0s) (v := ?v0s) ?hi0s ?hs0s ?hf0s ?hr0s ?hQ0s ?hy0s ?hS0s ?h0s
        case hi0s => exact (by simp only [List.getElem?_toArray, List.getElem?_cons_zero]; rfl)
        case hs0s => kernel_rfl
        case hf0s => kernel_rfl
        case hr0s => kernel_rfl
        case hQ0s => exact fun _ _ _ h => h
        case hy0s =>
          refine Or.inl ⟨rfl, ?_⟩
          intro W hSw
          obtain ⟨⟨y0, y1, y2, y3, y4, y5, y6, y7⟩, ⟨z0, z1, z2, z3, z4⟩, v0, v1, v2, v3, v4⟩ := hSw
          have z9 := HKN.out
          go_simp
          try with_reducible rfl
        case hS0s => assumption
        try simp only [Act.put, List.setIfInBounds_toArray, List.set_cons_zero, List.set_cons_succ]
        refine wpAnyH_take (i := 2) (oi := ?oi2s) (v := ?v2s) ?hi2s ?hs2s ?hf2s ?hr2s ?hQ2s ?hy2s ?hS2s ?h2s
        case hi2s => exact (by simp only [List.getElem?_toArray, List.getElem?_cons_succ, List.getElem?_cons_zero]; rfl)
        case hs2s => kernel_rfl
        case hf2s => kernel_rfl
        case hr2s => kernel_rfl
        case hQ2s => exact fun _ _ _ h => h
        case hy2s =>
          refine Or.inl ⟨rfl, ?_⟩
          intro W hSw
          obtain ⟨⟨y0, y1, y2, y3, y4, y5, y6, y7⟩, ⟨z0, z1, z2, z3, z4⟩, v0, v1, v2, v3, v4⟩ := hSw
          have z9 := HKN.out
          go_simp
          try with_reducible rfl
        case hS2s => assumption
        try simp only [Act.put, List.setIfInBounds_toArray, List.set_cons_zero, List.set_cons_succ]
        refine wpAnyH_take (i := 3) (oi := ?oi3s) (v := ?v3s) ?hi3s ?hs3s ?hf3s ?hr3s ?hQ3s ?hy3s ?hS3s ?h3s
        case hi3s => exact (by simp only [List.getElem?_toArray, List.getElem?_cons_succ, List.getElem?_cons_zero]; rfl)
        case hs3s => kernel_rfl
        case hf3s => kernel_rfl
        case hr3s => kernel_rfl
        case hQ3s => exact fun _ _ _ h => h
        case hy3s =>
          refine Or.inl ⟨rfl, ?_⟩
          intro W hSw
          obtain ⟨⟨y0, y1, y2, y3, y4, y5, y6, y7⟩, ⟨z0, z1, z2, z3, z4⟩, v0, v1, v2, v3, v4⟩ := hSw
          have z9 := HKN.out
          go_simp
          try with_reducible rfl
        case hS3s => assumption
        try simp only [Act.put, List.setIfInBounds_toArray, List.set_cons_zero, List.set_cons_succ]
        refine wpAnyH_take (i := 4) (oi := ?oi4s) (v := ?v4s) ?hi4s ?hs4s ?hf4s ?hr4s ?hQ4s ?hy4s ?hS4s ?h4s
        case hi4s => exact (by simp only [List.getElem?_toArray, List.getElem?_cons_succ, List.getElem?_cons_zero]; rfl)
        case hs4s => kernel_rfl
        case hf4s => kernel_rfl
        case hr4s => kernel_rfl
        case hQ4s => exact fun _ _ _ h => h
        case hy4s =>
          refine Or.inl ⟨rfl, ?_⟩
          intro W hSw
          obtain ⟨⟨y0, y1, y2, y3, y4, y5, y6, y7⟩, ⟨z0, z1, z2, z3, z4⟩, v0, v1, v2, v3, v4⟩ := hSw
          have z9 := HKN.out
          go_simp
          try with_reducible rfl
        case hS4s => assumption
        try simp only [Act.put, List.setIfInBounds_toArray, List.set_cons_zero, List.set_cons_succ]
        refine wpAnyH_take (i := 5) (oi := ?oi5s) (v := ?v5s) ?hi5s ?hs5s ?hf5s ?hr5s ?hQ5s ?hy5s ?hS5s ?h5s
        case hi5s => exact (by simp only [List.getElem?_toArray, List.getElem?_cons_succ, List.getElem?_cons_zero]; rfl)
        case hs5s => kernel_rfl
        case hf5s => kernel_rfl
        case hr5s => kernel_rfl
        case hQ5s => exact fun _ _ _ h => h
        case hy5s =>
          refine Or.inl ⟨rfl, ?_⟩
          intro W hSw
          obtain ⟨⟨y0, y1, y2, y3, y4, y5, y6, y7⟩, ⟨z0, z1, z2, z3, z4⟩, v0, v1, v2, v3, v4⟩ := hSw
          have z9 := HKN.out
          go_simp
          try with_reducible rfl
        case hS5s => assumption
        try simp only [Act.put, List.setIfInBounds_toArray, List.set_cons_zero, List.set_cons_succ]
        refine wpAnyH_take (i := 6) (oi := ?oi6s) (v := ?v6s) ?hi6s ?hs6s ?hf6s ?hr6s ?hQ6s ?hy6s ?hS6s ?h6s
        case hi6s => exact (by simp only [List.getElem?_toArray, List.getElem?_cons_succ, List.getElem?_cons_zero]; rfl)
        case hs6s => kernel_rfl
        case hf6s => kernel_rfl
        case hr6s => kernel_rfl
        case hQ6s => exact fun _ _ _ h => h
        case hy6s =>
          refine Or.inl ⟨rfl, ?_⟩
          intro W hSw
          obtain ⟨⟨y0, y1, y2, y3, y4, y5, y6, y7⟩, ⟨z0, z1, z2, z3, z4⟩, v0, v1, v2, v3, v4⟩ := hSw
          have z9 := HKN.out
          go_simp
          try with_reducible rfl
        case hS6s => assumption
        try simp only [Act.put, List.setIfInBounds_toArray, List.set_cons_zero, List.set_cons_succ]
        refine wpAnyH_take (i := 7) (oi := ?oi7s) (v := ?v7s) ?hi7s ?hs7s ?hf7s ?hr7s ?hQ7s ?hy7s ?hS7s ?h7s
        case hi7s => exact (by simp only [List.getElem?_toArray, List.getElem?_cons_succ, List.getElem?_cons_zero]; rfl)
        case hs7s => kernel_rfl
        case hf7s => kernel_rfl
        case hr7s => kernel_rfl
        case hQ7s => exact fun _ _ _ h => h
        case hy7s =>
          refine Or.inl ⟨rfl, ?_⟩
          intro W hSw
          obtain ⟨⟨y0, y1, y2, y3, y4, y5, y6, y7⟩, ⟨z0, z1, z2, z3, z4⟩, v0, v1, v2, v3, v4⟩ := hSw
          have z9 := HKN.out
          go_simp
          try with_reducible rfl
        case hS7s => assumption
        try simp only [Act.put, List.setIfInBounds_toArray, List.set_cons_zero, List.set_cons_succ]
        refine wpAnyH_take (i := 8) (oi := ?oi8s) (v := ?v8s) ?hi8s ?hs8s ?hf8s ?hr8s ?hQ8s ?hy8s ?hS8s ?h8s
        case hi8s => exact (by simp only [List.getElem?_toArray, List.getElem?_cons_succ, List.getElem?_cons_zero]; rfl)
        case hs8s => kernel_rfl
        case hf8s => kernel_rfl
        case hr8s => kernel_rfl
        case hQ8s => exact fun _ _ _ h => h
        case hy8s =>
          refine Or.inl ⟨rfl, ?_⟩
          intro W hSw
          obtain ⟨⟨y0, y1, y2, y3, y4, y5, y6, y7⟩, ⟨z0, z1, z2, z3, z4⟩, v0, v1, v2, v3, v4⟩ := hSw
          have z9 := HKN.out
          go_simp
          try with_reducible rfl
        case hS8s => assumption
        try simp only [Act.put, List.setIfInBounds_toArray, List.set_cons_zero, List.set_cons_succ]
        refine wpAnyH_take (i := 11) (oi := ?oi11s) (v := ?v11s) ?hi11s ?hs11s ?hf11s ?hr11s ?hQ11s ?hy11s ?hS11s ?h11s
        case hi11s => exact (by simp only [List.getElem?_toArray, List.getElem?_cons_succ, List.getElem?_cons_zero]; rfl)
        case hs11s => kernel_rfl
        case hf11s => kernel_rfl
        case hr11s => kernel_rfl
        case hQ11s => exact fun _ _ _ h => h
        case hy11s =>
          refine Or.inl ⟨rfl, ?_⟩
          intro W hSw
          obtain ⟨⟨y0, y1, y2, y3, y4, y5, y6, y7⟩, ⟨z0, z1, z2, z3, z4⟩, v0, v1, v2, v3, v4⟩ := hSw
          have z9 := HKN.out
          go_simp
          try with_reducible rfl
        case hS11s => assumption
        try simp only [Act.put, List.setIfInBounds_toArray, List.set_cons_zero, List.set_cons_succ]
        refine wpAnyH_take (i := 12) (oi := ?oi12s) (v := ?v12s) ?hi12s ?hs12s ?hf12s ?hr12s ?hQ12s ?hy12s ?hS12s ?h12s
        case hi12s => exact (by simp only [List.getElem?_toArray, List.getElem?_cons_succ, List.getElem?_cons_zero]; rfl)
        case hs12s => kernel_rfl
        case hf12s => kernel_rfl
        case hr12s => kernel_rfl
        case hQ12s => exact fun _ _ _ h => h
        case hy12s =>
          refine Or.inl ⟨rfl, ?_⟩
          intro W hSw
          obtain ⟨⟨y0, y1, y2, y3, y4, y5, y6, y7⟩, ⟨z0, z1, z2, z3, z4⟩, v0, v1, v2, v3, v4⟩ := hSw
          have z9 := HKN.out
          go_simp
          try with_reducible rfl
        case hS12s => assumption
        try simp only [Act.put, List.setIfInBounds_toArray, List.set_cons_zero, List.set_cons_succ]
        refine wpAnyH_take (i := 13) (oi := ?oi13s) (v := ?v13s) ?hi13s ?hs13s ?hf13s ?hr13s ?hQ13s ?hy13s ?hS13s ?h13s
        case hi13s => exact (by simp only [List.getElem?_toArray, List.getElem?_cons_succ, List.getElem?_cons_zero]; rfl)
        case hs13s => kernel_rfl
        case hf13s => kernel_rfl
        case hr13s => kernel_rfl
        case hQ13s => exact fun _ _ _ h => h
        case hy13s =>
          refine Or.inl ⟨rfl, ?_⟩
          intro W hSw
          obtain ⟨⟨y0, y1, y2, y3, y4, y5, y6, y7⟩, ⟨z0, z1, z2, z3, z4⟩, v0, v1, v2, v3, v4⟩ := hSw
          have z9 := HKN.out
          go_simp
          try with_reducible rfl
        case hS13s => assumption
        try simp only [Act.put, List.setIfInBounds_toArray, List.set_cons_zero, List.set_cons_succ]
        refine wpAnyH_take (i := 14) (oi := ?oi14s) (v := ?v14s) ?hi14s ?hs14s ?hf14s ?hr14s ?hQ14s ?hy14s ?hS14s ?h14s
        case hi14s => exact (by simp only [List.getElem?_toArray, List.getElem?_cons_succ, List.getElem?_cons_zero]; rfl)
        case hs14s => kernel_rfl
        case hf14s => kernel_rfl
        case hr14s => kernel_rfl
        case hQ14s => exact fun _ _ _ h => h
        case hy14s =>
          refine Or.inl ⟨rfl, ?_⟩
          intro W hSw
          obtain ⟨⟨y0, y1, y2, y3, y4, y5, y6, y7⟩, ⟨z0, z1, z2, z3, z4⟩, v0, v1, v2, v3, v4⟩ := hSw
          have z9 := HKN.out
          go_simp
          try with_reducible rfl
        case hS14s => assumption
        try simp only [Act.put, List.setIfInBounds_toArray, List.set_cons_zero, List.set_cons_succ]
        refine wpAnyH_take (i := 15) (oi := ?oi15s) (v := ?v15s) ?hi15s ?hs15s ?hf15s ?hr15s ?hQ15s ?hy15s ?hS15s ?h15s
        case hi15s => exact (by simp only [List.getElem?_toArray, List.getElem?_cons_succ, List.getElem?_cons_zero]; rfl)
        case hs15s => kernel_rfl
        case hf15s => kernel_rfl
        case hr15s => kernel_rfl
        case hQ15s => exact fun _ _ _ h => h
        case hy15s =>
          refine Or.inl ⟨rfl, ?_⟩
          intro W hSw
          obtain ⟨⟨y0, y1, y2, y3, y4, y5, y6, y7⟩, ⟨z0, z1, z2, z3, z4⟩, v0, v1, v2, v3, v4⟩ := hSw
          have z9 := HKN.out
          go_simp
          try with_reducible rfl
        case hS15s => assumption
        try simp only [Act.put, List.setIfInBounds_toArray, List.set_cons_zero, List.set_cons_succ]
        refine wpAnyH_take (i := 16) (oi := ?oi16s) (v := ?v16s) ?hi16s ?hs16s ?hf16s ?hr16s ?hQ16s ?hy16s ?hS16s ?h16s
        case hi16s => exact (by simp only [List.getElem?_toArray, List.getElem?_cons_succ, List.getElem?_cons_zero]; rfl)
        case hs16s => kernel_rfl
        case hf16s => kernel_rfl
        case hr16s => kernel_rfl
        case hQ16s => exact fun _ _ _ h => h
        case hy16s =>
          refine Or.inl ⟨rfl, ?_⟩
          intro W hSw
          obtain ⟨⟨y0, y1, y2, y3, y4, y5, y6, y7⟩, ⟨z0, z1, z2, z3, z4⟩, v0, v1, v2, v3, v4⟩ := hSw
          have z9 := HKN.out
          go_simp
          try with_reducible rfl
        case hS16s => assumption
        try simp only [Act.put, List.setIfInBounds_toArray, List.set_cons_zero, List.set_cons_succ]
        refine wpAnyH_take (i := 17) (oi := ?oi17s) (v := ?v17s) ?hi17s ?hs17s ?hf17s ?hr17s ?hQ17s ?hy17s ?hS17s ?h17s
        case hi17s => exact (by simp only [List.getElem?_toArray, List.getElem?_cons_succ, List.getElem?_cons_zero]; rfl)
        case hs17s => kernel_rfl
        case hf17s => kernel_rfl
        case hr17s => kernel_rfl
        case hQ17s => exact fun _ _ _ h => h
        case hy17s =>
          refine Or.inl ⟨rfl, ?_⟩
          intro W hSw
          obtain ⟨⟨y0, y1, y2, y3, y4, y5, y6, y7⟩, ⟨z0, z1, z2, z3, z4⟩, v0, v1, v2, v3, v4⟩ := hSw
          have z9 := HKN.out
          go_simp
          try with_reducible rfl
        case hS17s => assumption
        try simp only [Act.put, List.setIfInBounds_toArray, List.set_cons_zero, List.set_cons_succ]
        refine wpAnyH_take (i := 18) (oi := ?oi18s) (v := ?v18s) ?hi18s ?hs18s ?hf18s ?hr18s ?hQ18s ?hy18s ?hS18s ?h18s
        case hi18s => exact (by simp only [List.getElem?_toArray, List.getElem?_cons_succ, List.getElem?_cons_zero]; rfl)
        case hs18s => kernel_rfl
        case hf18s => kernel_rfl
        case hr18s => kernel_rfl
        case hQ18s => exact fun _ _ _ h => h
        case hy18s =>
          refine Or.inl ⟨rfl, ?_⟩
          intro W hSw
          obtain ⟨⟨y0, y1, y2, y3, y4, y5, y6, y7⟩, ⟨z0, z1, z2, z3, z4⟩, v0, v1, v2, v3, v4⟩ := hSw
          have z9 := HKN.out
          go_simp
          try with_reducible rfl
        case hS18s => assumption
        try simp only [Act.put, List.setIfInBounds_toArray, List.set_cons_zero, List.set_cons_succ]
        refine wpAnyH_take (i := 19) (oi := ?oi19s) (v := ?v19s) ?hi19s ?hs19s ?hf19s ?hr19s ?hQ19s ?hy19s ?hS19s ?h19s
        case hi19s => exact (by simp only [List.getElem?_toArray, List.getElem?_cons_succ, List.getElem?_cons_zero]; rfl)
        case hs19s => kernel_rfl
        case hf19s => kernel_rfl
        case hr19s => kernel_rfl
        case hQ19s => exact fun _ _ _ h => h
        case hy19s =>
          refine Or.inl ⟨rfl, ?_⟩
          intro W hSw
          obtain ⟨⟨y0, y1, y2, y3, y4, y5, y6, y7⟩, ⟨z0, z1, z2, z3, z4⟩, v0, v1, v2, v3, v4⟩ := hSw
          have z9 := HKN.out
          go_simp
          try with_reducible rfl
        case hS19s => assumption
        try simp only [Act.put, List.setIfInBounds_toArray, List.set_cons_zero, List.set_cons_succ]
        refine wpAnyH_take (i := 20) (oi := ?oi20s) (v := ?v20s) ?hi20s ?hs20s ?hf20s ?hr20s ?hQ20s ?hy20s ?hS20s ?h20s
        case hi20s => exact (by simp only [List.getElem?_toArray, List.getElem?_cons_succ, List.getElem?_cons_zero]; rfl)
        case hs20s => kernel_rfl
        case hf20s => kernel_rfl
        case hr20s => kernel_rfl
        case hQ20s => exact fun _ _ _ h => h
        case hy20s =>
          refine Or.inl ⟨rfl, ?_⟩
          intro W hSw
          obtain ⟨⟨y0, y1, y2, y3, y4, y5, y6, y7⟩, ⟨z0, z1, z2, z3, z4⟩, v0, v1, v2, v3, v4⟩ := hSw
          have z9 := HKN.out
          go_simp
          try with_reducible rfl
        case hS20s => assumption
        try simp only [Act.put, List.setIfInBounds_toArray, List.set_cons_zero, List.set_cons_succ]
        refine wpAnyH_take (i := 21) (oi := ?oi21s) (v := ?v21s) ?hi21s ?hs21s ?hf21s ?hr21s ?hQ21s ?hy21s ?hS21s ?h21s
        case hi21s => exact (by simp only [List.getElem?_toArray, List.getElem?_cons_succ, List.getElem?_cons_zero]; rfl)
        case hs21s => kernel_rfl
        case hf21s => kernel_rfl
        case hr21s => kernel_rfl
        case hQ21s => exact fun _ _ _ h => h
        case hy21s =>
          refine Or.inl ⟨rfl, ?_⟩
          intro W hSw
          obtain ⟨⟨y0, y1, y2, y3, y4, y5, y6, y7⟩, ⟨z0, z1, z2, z3, z4⟩, v0, v1, v2, v3, v4⟩ := hSw
          have z9 := HKN.out
          go_simp
          try with_reducible rfl
        case hS21s => assumption
        try simp only [Act.put, List.setIfInBounds_toArray, List.set_cons_zero, List.set_cons_succ]
        refine wpAnyH_ready (rs := [1]) (by kernel_rfl) (by simp) ?_
        refine AllReadyH.cons (o := _) rfl (fun K hK => ?_) AllReadyH.nil
        go_simp
        refine (HMO.out Ws0).mono ?_
        rintro r Ws1 ⟨rfl, hbq⟩
        have HBs1 := Lib.hid (HDs.out.trans (hbq.mono HDs.out.size))
        clear hbq
        refine hK.out _ _ (HCF.out _ (HBs1.out)) (fun hHeld => ?_)
        clear hK K
        try simp only [Act.put, List.setIfInBounds_toArray, List.set_cons_zero, List.set_cons_succ]
        refine wpAnyH_ready (rs := [9]) (by kernel_rfl) (by simp) ?_
        refine AllReadyH.cons (o := _) rfl (fun K hK => ?_) AllReadyH.nil
        go_simp
        refine (HRX.out Ws1 (HBB.out.trans (HBs1.out.mono HBB.out.size))).mono ?_
        rintro r Ws2 ⟨⟨A7, c7, rfl, hrs⟩, hbq⟩
        have HBs2 := Lib.hid (HBs1.out.trans (hbq.mono HBs1.out.size))
        have HRS := Lib.hid hrs
        clear hrs
        clear hbq
        refine hK.out _ _ (HCF.out _ (HBs2.out)) (fun hHeld => ?_)
        clear hK K
        try simp only [Act.put, List.setIfInBounds_toArray, List.set_cons_zero, List.set_cons_succ]
        refine wpAnyH_ready (rs := [10]) (by kernel_rfl) (by simp) ?_
        refine AllReadyH.cons (o := _) rfl (fun K hK => ?_) AllReadyH.nil
        go_simp
        refine (HF1.out Ws2 A7 c7 HRS.out).mono ?_
        rintro r Ws3 ⟨rfl, hbq⟩
        have HBs3 := Lib.hid (HBs2.out.trans (hbq.mono HBs2.out.size))
        clear hbq
        refine hK.out _ _ (HCF.out _ (HBs3.out)) (fun hHeld => ?_)
        clear hK K
        try simp only [Act.put, List.setIfInBounds_toArray, List.set_cons_zero, List.set_cons_succ]
        refine wpAnyH_ready (rs := [22]) (by kernel_rfl) (by simp) ?_
        refine AllReadyH.cons (o := _) rfl (fun K hK => ?_) AllReadyH.nil
        go_simp
        refine (HF2.out Ws3 (HBB.out.trans (HBs3.out.mono HBB.out.size))).mono ?_
        rintro r Ws4 ⟨rfl, hbq⟩
        have HBs4 := Lib.hid (HBs3.out.trans (hbq.mono HBs3.out.size))
        clear hbq
        refine hK.out _ _ (HCF.out _ (HBs4.out)) (fun hHeld => ?_)
        clear hK K
        try simp only [Act.put, List.setIfInBounds_toArray, List.set_cons_zero, List.set_cons_succ]
        refine wpAnyH_take (i := 23) (oi := ?oi23s) (v := (.bool false)) ?hi23s ?hs23s ?hf23s ?hr23s ?hQ23s ?hy23s ?hS23s ?h23s
        case hi23s => exact (by simp only [List.getElem?_toArray, List.getElem?_cons_succ, List.getElem?_cons_zero]; rfl)
        case hs23s => kernel_rfl
        case hf23s => kernel_rfl
        case hr23s => kernel_rfl
        case hQ23s => exact fun _ _ _ h => h
        case hy23s =>
          refine Or.inl ⟨rfl, ?_⟩
          intro W hSw
          go_simp
          try simp []
        case hS23s => assumption
        try simp only [Act.put, List.setIfInBounds_toArray, List.set_cons_zero, List.set_cons_succ]
        refine wpAnyH_done (by kernel_rfl) ?_ _
        go_wp2
        go_roundw
        case rel => exact ⟨k + 1, by omega, by go_num, HBs4.out⟩
        case measure => simp [intOf] <;> omega
      · have hkn : k = nl := by omega
        subst hkn
        go_wp2_with fail
        refine (HAW.out wr).mono ?_
        rintro r w7 ⟨rfl, hb7⟩
        have HB7 := Lib.hid (HB0.out.trans ((HBB.out.trans ((HV.out.trans (hb7.mono HV.out.size)).mono HBB.out.size)).mono HB0.out.size))
        clear hb7
        go_wp2
        go_ret
        exact ⟨rfl, HB7.out⟩
  · clear hg
    go_wp2
    go_ret
    exact ⟨rfl, HB0.out.trans (HB1.out.mono HB0.out.size)⟩
end Go.Proofs.Ytccabdhfnjlbdaa
