/- Party: what is told of a party. -/
import Derived.Test.YtjlpmdokmfmdiaaDK
import Derived.Test.YtjlpmdokmfmdiaaE1
namespace Go.Proofs.Ytjlpmdokmfmdiaa.P
open Go.RowKit
set_option maxRecDepth 20000
set_option linter.unusedVariables false
set_option linter.unusedSimpArgs false

def PtP (R : Nat) (vi : Value) (x : Nat) (g : Pt) (w : World) (r : Ending) (w' : World) : Prop := ∃ m v : Sl, r = .returned (.tuple #[.agg (dC x g.ld m v), .bool true]) ∧ Fl w' R vi m g.mem ∧ Fl w' R vi v g.inv ∧ Below w.heap.size w w'
theorem drow36 {w : World} {G : Nat} {a : Array Value} (h : w.heap[G]? = some (.cells a 36 (0, 0))) : ∀ cur, w.heap[G]? ≠ some (.cells cur 26 (0, 0)) := fun cur e => by
  rw [h] at e
  injection e with e
  injection e with _ e
  exact absurd e (by decide)
theorem clone_fl (R : Nat) (vi : Value) (s : Sl) (l : List Nat) (w : World) (hc : Ctx w R vi) (hs : Fl w R vi s l) (hl : l.length ≤ 100) : Calls Try.prog 67 #[.slice s.a s.n s.c] w fun r w' => CallL R vi l s.n w r w' :=
  (clone_rn s.a s.n s.c l w hs.1 hs.rn (by have := hs.1; omega)).mono fun r w' ⟨A, c, h1, h2, h3⟩ => ⟨A, c, h1, Fl.fresh hc (Nat.le_refl _) h2, h3⟩
set_option maxHeartbeats 4000000 in
theorem party_some (B R : Nat) (most : Int) (vi : Value) (L : List Pt) (x : Nat) (g : Pt) (w : World) (h : Bk w B R most vi L) (hl : L.length ≤ 100) (hg : getP L x = some g) (hk : Ok1 g) :
    Calls Try.prog 17 #[bp B, .int .u32 (x : Int)] w fun r w' => PtP R vi x g w r w' := by
  obtain ⟨w0, hw0⟩ : ∃ w0, w0 = w.alloc (.cells dZ 36) := ⟨_, rfl⟩
  have hb0 : Below w.heap.size w w0 := by rw [hw0]; exact (Below.refl _ _).alloc (Nat.le_refl _) _
  have hq0 : w0.heap[w.heap.size]? = some (.cells dZ 36 (0, 0)) := by rw [hw0]; exact heap_alloc_new w _
  have hbk := h.after hb0
  have H0 := Lib.hid hw0
  have HB0 := Lib.hid hb0
  have HQ0 := Lib.hid hq0
  have HG := Lib.hid (at_some B R most vi L x g w0 hbk hl hg)
  have HCT := Lib.hid hbk.ctx
  have HK := Lib.hid hk
  clear hw0 hb0 hq0 hbk h hg hk
  go_enter Try.func17, Try.ntmps17
  go_upto_region 1 with (fail)
  rw [← H0.out]
  go_wp2_with fail
  refine HG.out.mono ?_
  rintro r w2 ⟨y1, y2, y3, rfl, f1, f2, f3, hb2⟩
  obtain ⟨G, hG⟩ : ∃ G, G = w2.heap.size := ⟨_, rfl⟩
  obtain ⟨w3, hw3⟩ : ∃ W, W = w2.alloc (.cells #[.int .u32 (y1 : Int), .slice y2.a y2.n y2.c, .slice y3.a y3.n y3.c] 112) := ⟨_, rfl⟩
  have hq : w3.heap[G]? = some (.cells #[.int .u32 (y1 : Int), .slice y2.a y2.n y2.c, .slice y3.a y3.n y3.c] 112 (0, 0)) := by rw [hw3, hG]; exact heap_alloc_new w2 _
  have hb3 : Below w2.heap.size w2 w3 := by rw [hw3]; exact (Below.refl _ _).alloc (Nat.le_refl _) _
  have hq1 := (hb3.block _ (Nat.lt_of_lt_of_le (lt_of_block HQ0.out) hb2.size)).trans ((hb2.block _ (lt_of_block HQ0.out)).trans HQ0.out)
  have HB2 : Hid (Below w.heap.size w w3) := HB0.out.trans ((hb2.trans (hb3.mono hb2.size)).mono HB0.out.size)
  have HS : Hid (∀ W : World, W.heap[G]? = some (.cells #[.int .u32 (y1 : Int), .slice y2.a y2.n y2.c, .slice y3.a y3.n y3.c] 112 (0, 0)) → (fun W : World => W.cell? ⟨G, 0, none⟩ = some (.int .u32 (y1 : Int)) ∧ W.cell? ⟨G, 1, none⟩ = some (.slice y2.a y2.n y2.c) ∧ W.cell? ⟨G, 2, none⟩ = some (.slice y3.a y3.n y3.c)) W) := fun W hW => ⟨cell_of_row W G 0 _ _ _ hW, cell_of_row W G 1 _ _ _ hW, cell_of_row W G 2 _ _ _ hW⟩
  have HGR : Hid (∀ W, Below w3.heap.size w3 W → W.heap[G]? = some (.cells #[.int .u32 (y1 : Int), .slice y2.a y2.n y2.c, .slice y3.a y3.n y3.c] 112 (0, 0))) := fun W hW => (hW.block _ (lt_of_block hq)).trans hq
  have HQR : Hid (∀ W, Below w3.heap.size w3 W → W.heap[w.heap.size]? = some (.cells dZ 36 (0, 0))) := fun W hW => (hW.block _ (lt_of_block hq1)).trans hq1
  have HGN : Hid (G ≠ w.heap.size) := by have h1 := lt_of_block HQ0.out; have h3 := hb2.size; simp only [Hid]; omega
  have HBB : Hid (Below w3.heap.size w3 w3) := Below.refl _ _
  have HC3 : Hid (Ctx w3 R vi) := (HCT.out.size hb2.size).size hb3.size
  have HF2 : Hid (Fl w3 R vi y2 g.mem ∧ Fl w3 R vi y3 g.inv) := ⟨f2.after hb3, f3.after hb3⟩
  have HCM : Hid (∀ W, Below w3.heap.size w3 W → Calls Try.prog 67 #[.slice y2.a y2.n y2.c] W fun r w' => CallL R vi g.mem y2.n W r w') := fun W hW => clone_fl R vi y2 g.mem W (HC3.out.size hW.size) (HF2.out.1.after hW) (by have := HK.out.four; omega)
  have HCV : Hid (∀ W, Below w3.heap.size w3 W → Calls Try.prog 67 #[.slice y3.a y3.n y3.c] W fun r w' => CallL R vi g.inv y3.n W r w') := fun W hW => clone_fl R vi y3 g.inv W (HC3.out.size hW.size) (HF2.out.2.after hW) (by have := HK.out.four; omega)
  have H3 := Lib.hid hw3
  have HGG := Lib.hid hG
  have HLD : Hid (y1 = g.ld) := f1
  clear hq hq1 hb2 hb3 hw3 hG f1 f2 f3
  go_upto_region 4 with (fail)
  rw [← H3.out, ← HGG.out]
  have HDk : Hid (Below w3.heap.size w3 w3.drew) := HBB.out.drew
  refine wp_region_held_drew (S := fun W : World => W.cell? ⟨G, 0, none⟩ = some (.int .u32 (y1 : Int)) ∧ W.cell? ⟨G, 1, none⟩ = some (.slice y2.a y2.n y2.c) ∧ W.cell? ⟨G, 2, none⟩ = some (.slice y3.a y3.n y3.c)) (by kernel_rfl) (HS.out _ (HGR.out _ (HDk.out))) (fun hHeld => ?_)
  obtain ⟨Wk0, hW0⟩ : ∃ W0, W0 = w3.drew := ⟨_, rfl⟩
  rw [← hW0] at hHeld HDk ⊢
  clear hW0
  refine wpAnyH_take (i := 0) (oi := ?oi0k) (v := ?v0k) ?hi0k ?hs0k ?hf0k ?hr0k ?hQ0k ?hy0k ?hS0k ?h0k
  case hi0k => exact (by simp only [List.getElem?_toArray, List.getElem?_cons_zero]; rfl)
  case hs0k => kernel_rfl
  case hf0k => kernel_rfl
  case hr0k => kernel_rfl
  case hQ0k => exact fun _ _ _ h => h
  case hy0k =>
    refine Or.inl ⟨rfl, ?_⟩
    intro W hSw
    obtain ⟨q0, q1, q2⟩ := hSw
    go_simp
    try with_reducible rfl
  case hS0k => assumption
  try simp only [Act.put, List.setIfInBounds_toArray, List.set_cons_zero, List.set_cons_succ]
  refine wpAnyH_take (i := 1) (oi := ?oi1k) (v := ?v1k) ?hi1k ?hs1k ?hf1k ?hr1k ?hQ1k ?hy1k ?hS1k ?h1k
  case hi1k => exact (by simp only [List.getElem?_toArray, List.getElem?_cons_succ, List.getElem?_cons_zero]; rfl)
  case hs1k => kernel_rfl
  case hf1k => kernel_rfl
  case hr1k => kernel_rfl
  case hQ1k => exact fun _ _ _ h => h
  case hy1k =>
    refine Or.inl ⟨rfl, ?_⟩
    intro W hSw
    obtain ⟨q0, q1, q2⟩ := hSw
    go_simp
    try with_reducible rfl
  case hS1k => assumption
  try simp only [Act.put, List.setIfInBounds_toArray, List.set_cons_zero, List.set_cons_succ]
  refine wpAnyH_take (i := 2) (oi := ?oi2k) (v := ?v2k) ?hi2k ?hs2k ?hf2k ?hr2k ?hQ2k ?hy2k ?hS2k ?h2k
  case hi2k => exact (by simp only [List.getElem?_toArray, List.getElem?_cons_succ, List.getElem?_cons_zero]; rfl)
  case hs2k => kernel_rfl
  case hf2k => kernel_rfl
  case hr2k => kernel_rfl
  case hQ2k => exact fun _ _ _ h => h
  case hy2k =>
    refine Or.inl ⟨rfl, ?_⟩
    intro W hSw
    obtain ⟨q0, q1, q2⟩ := hSw
    go_simp
    try with_reducible rfl
  case hS2k => assumption
  try simp only [Act.put, List.setIfInBounds_toArray, List.set_cons_zero, List.set_cons_succ]
  refine wpAnyH_take (i := 3) (oi := ?oi3k) (v := ?v3k) ?hi3k ?hs3k ?hf3k ?hr3k ?hQ3k ?hy3k ?hS3k ?h3k
  case hi3k => exact (by simp only [List.getElem?_toArray, List.getElem?_cons_succ, List.getElem?_cons_zero]; rfl)
  case hs3k => kernel_rfl
  case hf3k => kernel_rfl
  case hr3k => kernel_rfl
  case hQ3k => exact fun _ _ _ h => h
  case hy3k =>
    refine Or.inl ⟨rfl, ?_⟩
    intro W hSw
    obtain ⟨q0, q1, q2⟩ := hSw
    go_simp
    try with_reducible rfl
  case hS3k => assumption
  try simp only [Act.put, List.setIfInBounds_toArray, List.set_cons_zero, List.set_cons_succ]
  refine wpAnyH_take (i := 4) (oi := ?oi4k) (v := ?v4k) ?hi4k ?hs4k ?hf4k ?hr4k ?hQ4k ?hy4k ?hS4k ?h4k
  case hi4k => exact (by simp only [List.getElem?_toArray, List.getElem?_cons_succ, List.getElem?_cons_zero]; rfl)
  case hs4k => kernel_rfl
  case hf4k => kernel_rfl
  case hr4k => kernel_rfl
  case hQ4k => exact fun _ _ _ h => h
  case hy4k =>
    refine Or.inl ⟨rfl, ?_⟩
    intro W hSw
    obtain ⟨q0, q1, q2⟩ := hSw
    go_simp
    try with_reducible rfl
  case hS4k => assumption
  try simp only [Act.put, List.setIfInBounds_toArray, List.set_cons_zero, List.set_cons_succ]
  refine wpAnyH_take (i := 6) (oi := ?oi6k) (v := ?v6k) ?hi6k ?hs6k ?hf6k ?hr6k ?hQ6k ?hy6k ?hS6k ?h6k
  case hi6k => exact (by simp only [List.getElem?_toArray, List.getElem?_cons_succ, List.getElem?_cons_zero]; rfl)
  case hs6k => kernel_rfl
  case hf6k => kernel_rfl
  case hr6k => kernel_rfl
  case hQ6k => exact fun _ _ _ h => h
  case hy6k =>
    refine Or.inl ⟨rfl, ?_⟩
    intro W hSw
    obtain ⟨q0, q1, q2⟩ := hSw
    go_simp
    try with_reducible rfl
  case hS6k => assumption
  try simp only [Act.put, List.setIfInBounds_toArray, List.set_cons_zero, List.set_cons_succ]
  refine wpAnyH_take (i := 7) (oi := ?oi7k) (v := ?v7k) ?hi7k ?hs7k ?hf7k ?hr7k ?hQ7k ?hy7k ?hS7k ?h7k
  case hi7k => exact (by simp only [List.getElem?_toArray, List.getElem?_cons_succ, List.getElem?_cons_zero]; rfl)
  case hs7k => kernel_rfl
  case hf7k => kernel_rfl
  case hr7k => kernel_rfl
  case hQ7k => exact fun _ _ _ h => h
  case hy7k =>
    refine Or.inl ⟨rfl, ?_⟩
    intro W hSw
    obtain ⟨q0, q1, q2⟩ := hSw
    go_simp
    try with_reducible rfl
  case hS7k => assumption
  try simp only [Act.put, List.setIfInBounds_toArray, List.set_cons_zero, List.set_cons_succ]
  refine wpAnyH_ready (rs := [5]) (by kernel_rfl) (by simp) ?_
  refine AllReadyH.cons (o := _) rfl (fun K hK => ?_) AllReadyH.nil
  go_simp
  refine ((HCM.out Wk0 HDk.out)).mono ?_
  rintro r Wk1 ⟨A2, c2, rfl, f2, hbq⟩
  have HBk1 := Lib.hid (HDk.out.trans (hbq.mono HDk.out.size))
  have F2 := Lib.hid f2
  clear f2
  clear hbq
  refine hK.out _ _ (HS.out _ (HGR.out _ (HBk1.out))) (fun hHeld => ?_)
  clear hK K
  try simp only [Act.put, List.setIfInBounds_toArray, List.set_cons_zero, List.set_cons_succ]
  refine wpAnyH_ready (rs := [8]) (by kernel_rfl) (by simp) ?_
  refine AllReadyH.cons (o := _) rfl (fun K hK => ?_) AllReadyH.nil
  go_simp
  refine ((HCV.out Wk1 HBk1.out)).mono ?_
  rintro r Wk2 ⟨A3, c3, rfl, f3, hbq⟩
  have HBk2 := Lib.hid (HBk1.out.trans (hbq.mono HBk1.out.size))
  have F3 := Lib.hid f3
  have F2b := Lib.hid (F2.out.after hbq)
  clear f3
  clear hbq
  refine hK.out _ _ (HS.out _ (HGR.out _ (HBk2.out))) (fun hHeld => ?_)
  clear hK K
  try simp only [Act.put, List.setIfInBounds_toArray, List.set_cons_zero, List.set_cons_succ]
  refine wpAnyH_take (i := 9) (oi := ?oi9k) (v := ?v9k) ?hi9k ?hs9k ?hf9k ?hr9k ?hQ9k ?hy9k ?hS9k ?h9k
  case hi9k => exact (by simp only [List.getElem?_toArray, List.getElem?_cons_succ, List.getElem?_cons_zero]; rfl)
  case hs9k => kernel_rfl
  case hf9k => kernel_rfl
  case hr9k => kernel_rfl
  case hQ9k => exact fun _ _ _ h => h
  case hy9k =>
    refine Or.inl ⟨rfl, ?_⟩
    intro W hSw
    obtain ⟨q0, q1, q2⟩ := hSw
    go_simp
    try with_reducible rfl
  case hS9k => assumption
  try simp only [Act.put, List.setIfInBounds_toArray, List.set_cons_zero, List.set_cons_succ]
  refine wpAnyH_ready (rs := [10]) (by kernel_rfl) (by simp) ?_
  refine AllReadyH.cons (o := _) rfl (fun K hK => ?_) AllReadyH.nil
  have hqr := HQR.out Wk2 HBk2.out
  have y0 := cell_of_row _ w.heap.size 0 _ _ _ hqr
  have y1' := cell_of_row _ w.heap.size 1 _ _ _ hqr
  have y2' := cell_of_row _ w.heap.size 2 _ _ _ hqr
  have y3' := cell_of_row _ w.heap.size 3 _ _ _ hqr
  simp at y0 y1' y2' y3'
  have yf : ∀ i, Wk2.frozen? ⟨w.heap.size, i, none⟩ = false := fun i => frozen_of_row _ _ i _ _ hqr
  go_simp
  clear y0 y1' y2' y3' yf
  obtain ⟨W9, hW9⟩ : ∃ W9, W9 = ((((Wk2.setCell ⟨w.heap.size, 0, none⟩ (.int .u32 (x : Int))).setCell ⟨w.heap.size, 1, none⟩ (.int .u32 (y1 : Int))).setCell ⟨w.heap.size, 2, none⟩ (.slice A2 y2.n c2)).setCell ⟨w.heap.size, 3, none⟩ (.slice A3 y3.n c3)) := ⟨_, rfl⟩
  have HT : Hid (W9.cell? ⟨w.heap.size, 0, none⟩ = some (.int .u32 (x : Int)) ∧ W9.cell? ⟨w.heap.size, 1, none⟩ = some (.int .u32 (y1 : Int)) ∧ W9.cell? ⟨w.heap.size, 2, none⟩ = some (.slice A2 y2.n c2) ∧ W9.cell? ⟨w.heap.size, 3, none⟩ = some (.slice A3 y3.n c3)) := by simp only [Hid]; rw [hW9]; exact four_cells (.int .u32 (x : Int)) (.int .u32 (y1 : Int)) (.slice A2 y2.n c2) (.slice A3 y3.n c3) hqr
  have HB9 : Hid (Below w.heap.size w W9) := by simp only [Hid]; rw [hW9]; exact four_below (k := w.heap.size) (.int .u32 (x : Int)) (.int .u32 (y1 : Int)) (.slice A2 y2.n c2) (.slice A3 y3.n c3) (HB2.out.trans (HBk2.out.mono HB2.out.size)) (Nat.le_refl w.heap.size)
  have HG9 : Hid (∀ g, g ≠ w.heap.size → W9.heap[g]? = Wk2.heap[g]?) := fun g hg => by rw [hW9]; exact four_other _ _ _ _ hg
  have HNR : Hid (∀ cur, Wk2.heap[w.heap.size]? ≠ some (.cells cur 26 (0, 0))) := drow36 hqr
  rw [← hW9]
  clear hW9 hqr
  refine hK.out _ _ (HS.out _ ((HG9.out G HGN.out).trans (HGR.out _ HBk2.out))) (fun hHeld => ?_)
  clear hK K
  try simp only [Act.put, List.setIfInBounds_toArray, List.set_cons_zero, List.set_cons_succ]
  refine wpAnyH_take (i := 11) (oi := ?oi11k) (v := ?v11k) ?hi11k ?hs11k ?hf11k ?hr11k ?hQ11k ?hy11k ?hS11k ?h11k
  case hi11k => exact (by simp only [List.getElem?_toArray, List.getElem?_cons_succ, List.getElem?_cons_zero]; rfl)
  case hs11k => kernel_rfl
  case hf11k => kernel_rfl
  case hr11k => kernel_rfl
  case hQ11k => exact fun _ _ _ h => h
  case hy11k =>
    refine Or.inl ⟨rfl, ?_⟩
    intro W hSw
    obtain ⟨q0, q1, q2⟩ := hSw
    go_simp
    try with_reducible rfl
  case hS11k => assumption
  try simp only [Act.put, List.setIfInBounds_toArray, List.set_cons_zero, List.set_cons_succ]
  refine wpAnyH_done (by kernel_rfl) ?_ _
  go_wp2
  obtain ⟨e0, e1, e2, e3⟩ := HT.out
  refine bodyPost_ret (v := .tuple #[.agg (dC x y1 ⟨A2, y2.n, c2⟩ ⟨A3, y3.n, c3⟩), .bool true]) (by simp [results, Try.results17, go_sem, e0, e1, e2, e3]) rfl ⟨⟨A2, y2.n, c2⟩, ⟨A3, y3.n, c3⟩, by rw [HLD.out], fl_oth F2b.out HG9.out HNR.out, fl_oth F3.out HG9.out HNR.out, HB9.out⟩
set_option maxHeartbeats 4000000 in
theorem party_none (B R : Nat) (most : Int) (vi : Value) (L : List Pt) (x : Nat) (w : World) (h : Bk w B R most vi L) (hl : L.length ≤ 100) (hg : getP L x = none) :
    Calls Try.prog 17 #[bp B, .int .u32 (x : Int)] w fun r w' => r = .returned (.tuple #[.agg dZ, .bool false]) ∧ Below w.heap.size w w' := by
  obtain ⟨w0, hw0⟩ : ∃ w0, w0 = w.alloc (.cells dZ 36) := ⟨_, rfl⟩
  have hb0 : Below w.heap.size w w0 := by rw [hw0]; exact (Below.refl _ _).alloc (Nat.le_refl _) _
  have hq0 : w0.heap[w.heap.size]? = some (.cells dZ 36 (0, 0)) := by rw [hw0]; exact heap_alloc_new w _
  have hbk := h.after hb0
  have H0 := Lib.hid hw0
  have HB0 := Lib.hid hb0
  have HQ0 := Lib.hid hq0
  have HG := Lib.hid (at_none B R most vi L x w0 hbk hl hg)
  clear hw0 hb0 hq0 hbk h hg
  go_enter Try.func17, Try.ntmps17
  go_upto_region 1 with (fail)
  rw [← H0.out]
  go_wp2_with fail
  refine HG.out.mono ?_
  rintro r w2 ⟨rfl, hb2⟩
  obtain ⟨G, hG⟩ : ∃ G, G = w2.heap.size := ⟨_, rfl⟩
  obtain ⟨w3, hw3⟩ : ∃ W, W = w2.alloc (.cells #[.int .u32 0, .slice none 0 0, .slice none 0 0] 112) := ⟨_, rfl⟩
  have hq : w3.heap[G]? = some (.cells #[.int .u32 0, .slice none 0 0, .slice none 0 0] 112 (0, 0)) := by rw [hw3, hG]; exact heap_alloc_new w2 _
  have hb3 : Below w2.heap.size w2 w3 := by rw [hw3]; exact (Below.refl _ _).alloc (Nat.le_refl _) _
  have hq1 := (hb3.block _ (Nat.lt_of_lt_of_le (lt_of_block HQ0.out) hb2.size)).trans ((hb2.block _ (lt_of_block HQ0.out)).trans HQ0.out)
  have HB2 : Hid (Below w.heap.size w w3) := HB0.out.trans ((hb2.trans (hb3.mono hb2.size)).mono HB0.out.size)
  have y0 := cell_of_row _ w.heap.size 0 _ _ _ hq1
  have y1' := cell_of_row _ w.heap.size 1 _ _ _ hq1
  have y2' := cell_of_row _ w.heap.size 2 _ _ _ hq1
  have y3' := cell_of_row _ w.heap.size 3 _ _ _ hq1
  simp at y0 y1' y2' y3'
  have yf : ∀ i, w3.frozen? ⟨w.heap.size, i, none⟩ = false := fun i => frozen_of_row _ _ i _ _ hq1
  have HT := Lib.hid (four_cells (.int .u32 0) (.int .u32 0) (.slice none 0 0) (.slice none 0 0) hq1)
  have HB9 := Lib.hid (four_below (k := w.heap.size) (.int .u32 0) (.int .u32 0) (.slice none 0 0) (.slice none 0 0) HB2.out (Nat.le_refl w.heap.size))
  have H3 := Lib.hid hw3
  have HGG := Lib.hid hG
  clear hq hq1 hb2 hb3 hw3 hG
  go_upto_region 2 with (fail)
  rw [← H3.out, ← HGG.out]
  go_wp2
  obtain ⟨e0, e1, e2, e3⟩ := HT.out
  exact bodyPost_ret (v := .tuple #[.agg dZ, .bool false]) (by simp [results, Try.results17, go_sem, e0, e1, e2, e3]) rfl ⟨rfl, HB9.out⟩
end Go.Proofs.Ytjlpmdokmfmdiaa.P
