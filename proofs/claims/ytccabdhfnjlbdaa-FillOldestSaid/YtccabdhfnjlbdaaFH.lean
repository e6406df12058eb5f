/- Fill: FillFinds' walk. -/
import Derived.Test.YtccabdhfnjlbdaaFG
import Derived.Test.YtccabdhfnjlbdaaFC
namespace Go.Proofs.Ytccabdhfnjlbdaa
open Go.RowKit
set_option maxRecDepth 20000
set_option linter.unusedVariables false

def TP (l : List Tk) (n : Nat) (r : Ending) (w' : World) : Prop := ∃ (A' : Option Addr) (c' : Nat), r = .returned (.slice A' n c') ∧ Ts w' w'.heap.size A' l
def RP (l : List Rw) (n : Nat) (r : Ending) (w' : World) : Prop := ∃ (A' : Option Addr) (c' : Nat), r = .returned (.slice A' n c') ∧ Rs w' w'.heap.size A' l
theorem TixPost.tp {w w' : World} {l : List Tk} {n : Nat} {r : Ending} (h : TixPost w l n r w') : TP l n r w' ∧ Below w.heap.size w w' := by
  obtain ⟨A', c', lf, e, hm, ho, hb⟩ := h
  exact ⟨⟨A', c', e, by have := Ts.of_own ho; rwa [hm] at this⟩, hb⟩
theorem RowsPost.rp {w w' : World} {l : List Rw} {n : Nat} {r : Ending} (h : RowsPost w l n r w') : RP l n r w' ∧ Below w.heap.size w w' := by
  obtain ⟨A', c', lf, e, hm, ho, hb⟩ := h
  exact ⟨⟨A', c', e, by have := Rs.of_own ho; rwa [hm] at this⟩, hb⟩

set_option maxHeartbeats 16000000 in
theorem finds_walk (m : Mo) (now : Int) (L A : Option Addr) (cl c : Nat) (l : List Tk) (rows : List Rw) (w : World) (hnow : In64 now) (hL : Tr w w.heap.size L l) (hA : Rr w w.heap.size A rows) (hll : l.length ≤ 9223372036854775807) (hlr : rows.length ≤ 9223372036854775807) (hs : ∀ t ∈ l, In64 t.r ∧ In64 t.s) :
    Calls Try.prog 4 #[.agg (aC m now (.slice L l.length cl) (.slice A rows.length c))] w fun r w' => r = .returned (.bool true) ∧ Below w.heap.size w w' := by
  obtain ⟨nl, hnl⟩ : ∃ n, n = l.length := ⟨_, rfl⟩
  obtain ⟨n, hn⟩ : ∃ n, n = rows.length := ⟨_, rfl⟩
  rw [← hnl] at hll ⊢
  rw [← hn] at hlr ⊢
  obtain ⟨w0, hw0⟩ : ∃ w0, w0 = w.alloc (.cells (aC m now (.slice L nl cl) (.slice A n c)) 27) := ⟨_, rfl⟩
  have hb0 : Below w.heap.size w w0 := by rw [hw0]; exact (Below.refl _ _).alloc (Nat.le_refl _) _
  have hp0 : w0.heap[w.heap.size]? = some (.cells (aC m now (.slice L nl cl) (.slice A n c)) 27 (0, 0)) := by rw [hw0]; exact heap_alloc_new w _
  have HCE : Hid (∀ W, Below w0.heap.size w0 W → W.cell? ⟨w.heap.size, 0, none⟩ = some (.int .i64 m.k) ∧ W.cell? ⟨w.heap.size, 1, none⟩ = some (.int .i64 m.b) ∧ W.cell? ⟨w.heap.size, 2, none⟩ = some (.int .i64 m.s) ∧ W.cell? ⟨w.heap.size, 3, none⟩ = some (.int .i64 m.c) ∧ W.cell? ⟨w.heap.size, 4, none⟩ = some (.int .i64 m.e) ∧ W.cell? ⟨w.heap.size, 5, none⟩ = some (.int .i64 now) ∧ W.cell? ⟨w.heap.size, 6, none⟩ = some (.slice L nl cl) ∧ W.cell? ⟨w.heap.size, 7, none⟩ = some (.slice A n c)) := fun W hW => by
    have e0 := (hW.block _ (lt_of_block hp0)).trans hp0
    exact ⟨cell_of_row W _ 0 _ _ _ e0, cell_of_row W _ 1 _ _ _ e0, cell_of_row W _ 2 _ _ _ e0, cell_of_row W _ 3 _ _ _ e0, cell_of_row W _ 4 _ _ _ e0, cell_of_row W _ 5 _ _ _ e0, cell_of_row W _ 6 _ _ _ e0, cell_of_row W _ 7 _ _ _ e0⟩
  have hL0 := hL.later hb0 (Nat.le_refl _)
  have hA0 := hA.later hb0 (Nat.le_refl _)
  have HG := Lib.hid (great_any m now L nl cl l A n c rows w0 hnl hL0.ts hn hA0.rs hll hlr)
  have H0 := Lib.hid hw0
  have HB0 := Lib.hid hb0
  have HBS : Hid (Below w0.heap.size w0 w0) := Below.refl _ _
  obtain ⟨y0, y1, y2, y3, y4, y5, y6, y7⟩ := HCE.out w0 HBS.out
  have HNL := Lib.hid hnl
  have HNN := Lib.hid hn
  have HL0 := Lib.hid hL0
  have HA0 := Lib.hid hA0
  have HSS := Lib.hid hs
  have HNW := Lib.hid hnow
  clear hnl hn hL hA hs hnow hw0 hb0 hp0 hL0 hA0
  go_enter Try.func4, Try.ntmps4
  go_upto_region 1 with (fail)
  rw [← H0.out]
  go_wp2_with fail
  refine HG.out.mono ?_
  rintro r w1 ⟨⟨g, rfl, hg⟩, hb1⟩
  have HB1 := Lib.hid hb1
  clear hb1 y0 y1 y2 y3 y4 y5 y6 y7
  cases g
  · obtain ⟨hg1, hg2, hg3, hg4⟩ := hg rfl
    have HG3 := Lib.hid hg3
    have HG4 := Lib.hid hg4
    have HLN : Hid (∀ t ∈ l, t.n ≤ 10 ∧ In64 t.s) := fun t ht => ⟨hg3 t ht, (HSS.out t ht).2⟩
    have HMO : Hid (∀ W, Calls Try.prog 12 #[.agg (aC m now (.slice L nl cl) (.slice A n c))] W fun r w' => r = .returned m.v ∧ Below W.heap.size W w') := fun W => mode_any m now L A nl cl n c W
    have HTX : Hid (∀ W, Below w0.heap.size w0 W → Calls Try.prog 14 #[.agg (aC m now (.slice L nl cl) (.slice A n c))] W fun r w' => TP l nl r w' ∧ Below W.heap.size W w') := fun W hW =>
      (tickets_any m now A L n c nl cl l W HNL.out (HL0.out.later hW (Nat.le_refl _)) (by omega) HG3.out).mono fun r w' h => h.tp
    have HRX : Hid (∀ W, Below w0.heap.size w0 W → Calls Try.prog 9 #[.agg (aC m now (.slice L nl cl) (.slice A n c))] W fun r w' => RP rows n r w' ∧ Below W.heap.size W w') := fun W hW =>
      (rows_any m now L A nl cl n c rows W HNN.out (HA0.out.later hW (Nat.le_refl _)) (by omega) HG4.out).mono fun r w' h => h.rp
    have HAW : Hid (∀ W, Calls Try.prog 17 #[] W fun r w' => r = .returned (.bool true) ∧ Below W.heap.size W w') := fun W => fawake W
    clear hg hg3 hg4
    have HFD : Hid (∀ W A' c' A2 c2, Below w0.heap.size w0 W → Ts W W.heap.size A' l → Rs W W.heap.size A2 rows → Calls Try.prog 18 #[m.v, .int .i64 now, .slice A' nl c', .slice A2 n c2] W fun r w' => r = .returned (fR (findR m now rows l)) ∧ Below W.heap.size W w') := fun W A' c' A2 c2 hW h1 h2 =>
      find_any m now A' nl c' l A2 n c2 rows W HNL.out h1 (by omega) HLN.out HNN.out h2 HG4.out (by omega) HNW.out
    have HFR : Hid (∀ W, Below w0.heap.size w0 W → Calls Try.prog 19 #[m.v, .int .i64 now, .slice L nl cl, .slice A n c] W fun r w' => r = .returned (fR (findR m now rows l)) ∧ Below W.heap.size W w') := fun W hW =>
      rfind_any m now L nl cl l A n c rows W HNL.out (HL0.out.later hW (Nat.le_refl _)).ts (by omega) HLN.out HNN.out (HA0.out.later hW (Nat.le_refl _)).rs HG4.out (by omega) HNW.out
    obtain ⟨x, hx⟩ : ∃ x, x = findR m now rows l := ⟨_, rfl⟩
    rw [← hx] at HFD HFR
    clear hx
    obtain ⟨fa, fb, fz⟩ := x
    simp only [fR] at HFD HFR
    go_upto_region 3 with (fail)
    have HDp : Hid (Below w0.heap.size w0 w1.drew) := HB1.out.drew
    refine wp_region_held_drew (S := fun W : World => W.cell? ⟨w.heap.size, 0, none⟩ = some (.int .i64 m.k) ∧ W.cell? ⟨w.heap.size, 1, none⟩ = some (.int .i64 m.b) ∧ W.cell? ⟨w.heap.size, 2, none⟩ = some (.int .i64 m.s) ∧ W.cell? ⟨w.heap.size, 3, none⟩ = some (.int .i64 m.c) ∧ W.cell? ⟨w.heap.size, 4, none⟩ = some (.int .i64 m.e) ∧ W.cell? ⟨w.heap.size, 5, none⟩ = some (.int .i64 now) ∧ W.cell? ⟨w.heap.size, 6, none⟩ = some (.slice L nl cl) ∧ W.cell? ⟨w.heap.size, 7, none⟩ = some (.slice A n c)) (by kernel_rfl) (HCE.out _ (HDp.out)) (fun hHeld => ?_)
    obtain ⟨Wp0, hW0⟩ : ∃ W0, W0 = w1.drew := ⟨_, rfl⟩
    rw [← hW0] at hHeld HDp ⊢
    clear hW0
    refine wpAnyH_take (i := 0) (oi := ?oi0p) (v := ?v0p) ?hi0p ?hs0p ?hf0p ?hr0p ?hQ0p ?hy0p ?hS0p ?h0p
    case hi0p => exact (by simp only [List.getElem?_toArray, List.getElem?_cons_zero]; rfl)
    case hs0p => kernel_rfl
    case hf0p => kernel_rfl
    case hr0p => kernel_rfl
    case hQ0p => exact fun _ _ _ h => h
    case hy0p =>
      refine Or.inl ⟨rfl, ?_⟩
      intro W hSw
      obtain ⟨y0, y1, y2, y3, y4, y5, y6, y7⟩ := hSw
      go_simp
      try with_reducible rfl
    case hS0p => assumption
    try simp only [Act.put, List.setIfInBounds_toArray, List.set_cons_zero, List.set_cons_succ]
    refine wpAnyH_take (i := 2) (oi := ?oi2p) (v := ?v2p) ?hi2p ?hs2p ?hf2p ?hr2p ?hQ2p ?hy2p ?hS2p ?h2p
    case hi2p => exact (by simp only [List.getElem?_toArray, List.getElem?_cons_succ, List.getElem?_cons_zero]; rfl)
    case hs2p => kernel_rfl
    case hf2p => kernel_rfl
    case hr2p => kernel_rfl
    case hQ2p => exact fun _ _ _ h => h
    case hy2p =>
      refine Or.inl ⟨rfl, ?_⟩
      intro W hSw
      obtain ⟨y0, y1, y2, y3, y4, y5, y6, y7⟩ := hSw
      go_simp
      try with_reducible rfl
    case hS2p => assumption
    try simp only [Act.put, List.setIfInBounds_toArray, List.set_cons_zero, List.set_cons_succ]
    refine wpAnyH_take (i := 3) (oi := ?oi3p) (v := ?v3p) ?hi3p ?hs3p ?hf3p ?hr3p ?hQ3p ?hy3p ?hS3p ?h3p
    case hi3p => exact (by simp only [List.getElem?_toArray, List.getElem?_cons_succ, List.getElem?_cons_zero]; rfl)
    case hs3p => kernel_rfl
    case hf3p => kernel_rfl
    case hr3p => kernel_rfl
    case hQ3p => exact fun _ _ _ h => h
    case hy3p =>
      refine Or.inl ⟨rfl, ?_⟩
      intro W hSw
      obtain ⟨y0, y1, y2, y3, y4, y5, y6, y7⟩ := hSw
      go_simp
      try with_reducible rfl
    case hS3p => assumption
    try simp only [Act.put, List.setIfInBounds_toArray, List.set_cons_zero, List.set_cons_succ]
    refine wpAnyH_take (i := 4) (oi := ?oi4p) (v := ?v4p) ?hi4p ?hs4p ?hf4p ?hr4p ?hQ4p ?hy4p ?hS4p ?h4p
    case hi4p => exact (by simp only [List.getElem?_toArray, List.getElem?_cons_succ, List.getElem?_cons_zero]; rfl)
    case hs4p => kernel_rfl
    case hf4p => kernel_rfl
    case hr4p => kernel_rfl
    case hQ4p => exact fun _ _ _ h => h
    case hy4p =>
      refine Or.inl ⟨rfl, ?_⟩
      intro W hSw
      obtain ⟨y0, y1, y2, y3, y4, y5, y6, y7⟩ := hSw
      go_simp
      try with_reducible rfl
    case hS4p => assumption
    try simp only [Act.put, List.setIfInBounds_toArray, List.set_cons_zero, List.set_cons_succ]
    refine wpAnyH_take (i := 6) (oi := ?oi6p) (v := ?v6p) ?hi6p ?hs6p ?hf6p ?hr6p ?hQ6p ?hy6p ?hS6p ?h6p
    case hi6p => exact (by simp only [List.getElem?_toArray, List.getElem?_cons_succ, List.getElem?_cons_zero]; rfl)
    case hs6p => kernel_rfl
    case hf6p => kernel_rfl
    case hr6p => kernel_rfl
    case hQ6p => exact fun _ _ _ h => h
    case hy6p =>
      refine Or.inl ⟨rfl, ?_⟩
      intro W hSw
      obtain ⟨y0, y1, y2, y3, y4, y5, y6, y7⟩ := hSw
      go_simp
      try with_reducible rfl
    case hS6p => assumption
    try simp only [Act.put, List.setIfInBounds_toArray, List.set_cons_zero, List.set_cons_succ]
    refine wpAnyH_ready (rs := [1]) (by kernel_rfl) (by simp) ?_
    refine AllReadyH.cons (o := _) rfl (fun K hK => ?_) AllReadyH.nil
    go_simp
    refine (HMO.out Wp0).mono ?_
    rintro r Wp1 ⟨rfl, hbq⟩
    have HBp1 := Lib.hid (HDp.out.trans (hbq.mono HDp.out.size))
    clear hbq
    refine hK.out _ _ (HCE.out _ (HBp1.out)) (fun hHeld => ?_)
    clear hK K
    try simp only [Act.put, List.setIfInBounds_toArray, List.set_cons_zero, List.set_cons_succ]
    refine wpAnyH_ready (rs := [5]) (by kernel_rfl) (by simp) ?_
    refine AllReadyH.cons (o := _) rfl (fun K hK => ?_) AllReadyH.nil
    go_simp
    refine (HTX.out Wp1 HBp1.out).mono ?_
    rintro r Wp2 ⟨⟨A9, c9, rfl, hts⟩, hbq⟩
    have HBp2 := Lib.hid (HBp1.out.trans (hbq.mono HBp1.out.size))
    have HTS := Lib.hid hts
    clear hts
    clear hbq
    refine hK.out _ _ (HCE.out _ (HBp2.out)) (fun hHeld => ?_)
    clear hK K
    try simp only [Act.put, List.setIfInBounds_toArray, List.set_cons_zero, List.set_cons_succ]
    refine wpAnyH_ready (rs := [7]) (by kernel_rfl) (by simp) ?_
    refine AllReadyH.cons (o := _) rfl (fun K hK => ?_) AllReadyH.nil
    go_simp
    refine (HRX.out Wp2 HBp2.out).mono ?_
    rintro r Wp3 ⟨⟨A8, c8, rfl, hrs⟩, hbq⟩
    have HBp3 := Lib.hid (HBp2.out.trans (hbq.mono HBp2.out.size))
    have HTS2 := Lib.hid (HTS.out.later hbq (Nat.le_refl _))
    have HRS := Lib.hid hrs
    clear hrs
    clear hbq
    refine hK.out _ _ (HCE.out _ (HBp3.out)) (fun hHeld => ?_)
    clear hK K
    try simp only [Act.put, List.setIfInBounds_toArray, List.set_cons_zero, List.set_cons_succ]
    refine wpAnyH_ready (rs := [8]) (by kernel_rfl) (by simp) ?_
    refine AllReadyH.cons (o := _) rfl (fun K hK => ?_) AllReadyH.nil
    go_simp
    refine (HFD.out Wp3 A9 c9 A8 c8 HBp3.out HTS2.out HRS.out).mono ?_
    rintro r Wp4 ⟨rfl, hbq⟩
    have HBp4 := Lib.hid (HBp3.out.trans (hbq.mono HBp3.out.size))
    clear hbq
    refine hK.out _ _ (HCE.out _ (HBp4.out)) (fun hHeld => ?_)
    clear hK K
    try simp only [Act.put, List.setIfInBounds_toArray, List.set_cons_zero, List.set_cons_succ]
    refine wpAnyH_take (i := 9) (oi := ?oi9p) (v := ?v9p) ?hi9p ?hs9p ?hf9p ?hr9p ?hQ9p ?hy9p ?hS9p ?h9p
    case hi9p => exact (by simp only [List.getElem?_toArray, List.getElem?_cons_succ, List.getElem?_cons_zero]; rfl)
    case hs9p => kernel_rfl
    case hf9p => kernel_rfl
    case hr9p => kernel_rfl
    case hQ9p => exact fun _ _ _ h => h
    case hy9p =>
      refine Or.inl ⟨rfl, ?_⟩
      intro W hSw
      obtain ⟨y0, y1, y2, y3, y4, y5, y6, y7⟩ := hSw
      go_simp
      try with_reducible rfl
    case hS9p => assumption
    try simp only [Act.put, List.setIfInBounds_toArray, List.set_cons_zero, List.set_cons_succ]
    refine wpAnyH_take (i := 10) (oi := ?oi10p) (v := ?v10p) ?hi10p ?hs10p ?hf10p ?hr10p ?hQ10p ?hy10p ?hS10p ?h10p
    case hi10p => exact (by simp only [List.getElem?_toArray, List.getElem?_cons_succ, List.getElem?_cons_zero]; rfl)
    case hs10p => kernel_rfl
    case hf10p => kernel_rfl
    case hr10p => kernel_rfl
    case hQ10p => exact fun _ _ _ h => h
    case hy10p =>
      refine Or.inl ⟨rfl, ?_⟩
      intro W hSw
      obtain ⟨y0, y1, y2, y3, y4, y5, y6, y7⟩ := hSw
      go_simp
      try with_reducible rfl
    case hS10p => assumption
    try simp only [Act.put, List.setIfInBounds_toArray, List.set_cons_zero, List.set_cons_succ]
    refine wpAnyH_take (i := 11) (oi := ?oi11p) (v := ?v11p) ?hi11p ?hs11p ?hf11p ?hr11p ?hQ11p ?hy11p ?hS11p ?h11p
    case hi11p => exact (by simp only [List.getElem?_toArray, List.getElem?_cons_succ, List.getElem?_cons_zero]; rfl)
    case hs11p => kernel_rfl
    case hf11p => kernel_rfl
    case hr11p => kernel_rfl
    case hQ11p => exact fun _ _ _ h => h
    case hy11p =>
      refine Or.inl ⟨rfl, ?_⟩
      intro W hSw
      obtain ⟨y0, y1, y2, y3, y4, y5, y6, y7⟩ := hSw
      go_simp
      try with_reducible rfl
    case hS11p => assumption
    try simp only [Act.put, List.setIfInBounds_toArray, List.set_cons_zero, List.set_cons_succ]
    refine wpAnyH_take (i := 12) (oi := ?oi12p) (v := ?v12p) ?hi12p ?hs12p ?hf12p ?hr12p ?hQ12p ?hy12p ?hS12p ?h12p
    case hi12p => exact (by simp only [List.getElem?_toArray, List.getElem?_cons_succ, List.getElem?_cons_zero]; rfl)
    case hs12p => kernel_rfl
    case hf12p => kernel_rfl
    case hr12p => kernel_rfl
    case hQ12p => exact fun _ _ _ h => h
    case hy12p =>
      refine Or.inl ⟨rfl, ?_⟩
      intro W hSw
      obtain ⟨y0, y1, y2, y3, y4, y5, y6, y7⟩ := hSw
      go_simp
      try with_reducible rfl
    case hS12p => assumption
    try simp only [Act.put, List.setIfInBounds_toArray, List.set_cons_zero, List.set_cons_succ]
    refine wpAnyH_take (i := 13) (oi := ?oi13p) (v := ?v13p) ?hi13p ?hs13p ?hf13p ?hr13p ?hQ13p ?hy13p ?hS13p ?h13p
    case hi13p => exact (by simp only [List.getElem?_toArray, List.getElem?_cons_succ, List.getElem?_cons_zero]; rfl)
    case hs13p => kernel_rfl
    case hf13p => kernel_rfl
    case hr13p => kernel_rfl
    case hQ13p => exact fun _ _ _ h => h
    case hy13p =>
      refine Or.inl ⟨rfl, ?_⟩
      intro W hSw
      obtain ⟨y0, y1, y2, y3, y4, y5, y6, y7⟩ := hSw
      go_simp
      try with_reducible rfl
    case hS13p => assumption
    try simp only [Act.put, List.setIfInBounds_toArray, List.set_cons_zero, List.set_cons_succ]
    refine wpAnyH_take (i := 14) (oi := ?oi14p) (v := ?v14p) ?hi14p ?hs14p ?hf14p ?hr14p ?hQ14p ?hy14p ?hS14p ?h14p
    case hi14p => exact (by simp only [List.getElem?_toArray, List.getElem?_cons_succ, List.getElem?_cons_zero]; rfl)
    case hs14p => kernel_rfl
    case hf14p => kernel_rfl
    case hr14p => kernel_rfl
    case hQ14p => exact fun _ _ _ h => h
    case hy14p =>
      refine Or.inl ⟨rfl, ?_⟩
      intro W hSw
      obtain ⟨y0, y1, y2, y3, y4, y5, y6, y7⟩ := hSw
      go_simp
      try with_reducible rfl
    case hS14p => assumption
    try simp only [Act.put, List.setIfInBounds_toArray, List.set_cons_zero, List.set_cons_succ]
    refine wpAnyH_take (i := 15) (oi := ?oi15p) (v := ?v15p) ?hi15p ?hs15p ?hf15p ?hr15p ?hQ15p ?hy15p ?hS15p ?h15p
    case hi15p => exact (by simp only [List.getElem?_toArray, List.getElem?_cons_succ, List.getElem?_cons_zero]; rfl)
    case hs15p => kernel_rfl
    case hf15p => kernel_rfl
    case hr15p => kernel_rfl
    case hQ15p => exact fun _ _ _ h => h
    case hy15p =>
      refine Or.inl ⟨rfl, ?_⟩
      intro W hSw
      obtain ⟨y0, y1, y2, y3, y4, y5, y6, y7⟩ := hSw
      go_simp
      try with_reducible rfl
    case hS15p => assumption
    try simp only [Act.put, List.setIfInBounds_toArray, List.set_cons_zero, List.set_cons_succ]
    refine wpAnyH_done (by kernel_rfl) ?_ _
    obtain ⟨y0, y1, y2, y3, y4, y5, y6, y7⟩ := HCE.out Wp4 HBp4.out
    go_wp2_with fail
    refine (HFR.out Wp4 HBp4.out).mono ?_
    rintro r w6 ⟨rfl, hb6⟩
    have HB6 := Lib.hid (HBp4.out.trans (hb6.mono HBp4.out.size))
    clear hb6 y0 y1 y2 y3 y4 y5 y6 y7
    go_wp2_with fail
    refine (HAW.out w6).mono ?_
    rintro r w7 ⟨rfl, hb7⟩
    have HB7 := Lib.hid (HB6.out.trans (hb7.mono HB6.out.size))
    clear hb7
    go_wp2
    go_ret
    exact ⟨by simp, HB0.out.trans (HB7.out.mono HB0.out.size)⟩
  · clear hg
    go_wp2
    go_ret
    exact ⟨rfl, HB0.out.trans (HB1.out.mono HB0.out.size)⟩
end Go.Proofs.Ytccabdhfnjlbdaa
