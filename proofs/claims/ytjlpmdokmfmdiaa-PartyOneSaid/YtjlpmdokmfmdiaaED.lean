/- Party: PartyOne. -/
import Derived.Test.YtjlpmdokmfmdiaaEC
namespace Go.Proofs.Ytjlpmdokmfmdiaa.P
open Go.RowKit
set_option maxRecDepth 20000
set_option linter.unusedVariables false
set_option linter.unusedSimpArgs false

/-- A list of one's own, with what stands in it. -/
def Od (w : World) (base : Nat) (s : Sl) (l : List Nat) : Prop := s.n = l.length ∧ (0 < l.length → ∃ (g : Nat), s.a = some ⟨g, 0, none⟩ ∧ base ≤ g ∧ (∃ cur : Array Value, w.heap[g]? = some (Obj.cells cur 26 (0, 0))) ∧ At32 w g 0 l)
theorem Od.of_own {w : World} {base b2 n c : Nat} {A : Option Addr} {l : List Nat} (h : w.ownsRow b2 26 1 (.slice A n c) n (un l)) (hb : base ≤ b2) : Od w base ⟨A, n, c⟩ l := by
  obtain ⟨hn, hr⟩ := Rn.of_own h
  refine ⟨hn, fun hl => ?_⟩
  obtain ⟨b, o, e1, e2, e3⟩ := hr hl
  rcases h.2 with ⟨_, h0⟩ | ⟨g, cap, cur, e, hg, hq, _⟩
  · omega
  · injection e with e _ _
    rw [e1] at e
    injection e with e
    injection e with q1 q2 _
    subst q1 q2
    exact ⟨b, e1, by omega, ⟨cur, hq⟩, e3⟩
theorem Od.blk {w w' : World} {base : Nat} {s : Sl} {l : List Nat} (h : Od w base s l) (hg : ∀ g, base ≤ g → g < w.heap.size → w'.heap[g]? = w.heap[g]?) : Od w' base s l := ⟨h.1, fun hl => by
  obtain ⟨g, e1, e2, ⟨cur, e3⟩, e4⟩ := h.2 hl
  have k := hg g e2 (lt_of_block e3)
  exact ⟨g, e1, e2, ⟨cur, k.trans e3⟩, fun j x hj => (World.cell?_of_block k).trans (e4 j x hj)⟩⟩
theorem Od.after {w w' : World} {base : Nat} {s : Sl} {l : List Nat} (h : Od w base s l) (hb : Below w.heap.size w w') : Od w' base s l := h.blk fun g _ hg => hb.block g hg
theorem Od.oth {w w' : World} {base G : Nat} {s : Sl} {l : List Nat} (h : Od w base s l) (hg : ∀ g, g ≠ G → w'.heap[g]? = w.heap[g]?) (hn : ∀ cur, w.heap[G]? ≠ some (Obj.cells cur 26 (0, 0))) : Od w' base s l := ⟨h.1, fun hl => by
  obtain ⟨g, e1, e2, ⟨cur, e3⟩, e4⟩ := h.2 hl
  have k := hg g (fun e => hn cur (by rw [← e]; exact e3))
  exact ⟨g, e1, e2, ⟨cur, k.trans e3⟩, fun j x hj => (World.cell?_of_block k).trans (e4 j x hj)⟩⟩
theorem Od.rn {w : World} {base : Nat} {s : Sl} {l : List Nat} (h : Od w base s l) : Rn w s.a l := fun hl => by
  obtain ⟨g, e1, e2, ⟨cur, e3⟩, e4⟩ := h.2 hl
  exact ⟨g, 0, e1, lt_of_block e3, e4⟩
def PtB (x : Nat) (g : Pt) (w : World) (r : Ending) (w' : World) : Prop := ∃ m v : Sl, r = .returned (.tuple #[.agg (dC x g.ld m v), .bool true]) ∧ Od w' w.heap.size m g.mem ∧ Od w' w.heap.size v g.inv ∧ Below w.heap.size w w'
def CallB (B : Nat) (l : List Nat) (m : Nat) (w : World) (r : Ending) (w' : World) : Prop := ∃ A c, r = .returned (.slice A m c) ∧ Od w' B ⟨A, m, c⟩ l ∧ Below w.heap.size w w'
theorem clone_od (B : Nat) (R : Nat) (vi : Value) (s : Sl) (l : List Nat) (w : World) (hs : Fl w R vi s l) (hB : B ≤ w.heap.size) (hl : l.length ≤ 100) : Calls Try.prog 67 #[.slice s.a s.n s.c] w fun r w' => CallB B l s.n w r w' :=
  (clone_rn s.a s.n s.c l w hs.1 hs.rn (by have := hs.1; omega)).mono fun r w' ⟨A, c, h1, h2, h3⟩ => ⟨A, c, h1, Od.of_own h2 hB, h3⟩
set_option maxHeartbeats 4000000 in
theorem party_both (B R : Nat) (most : Int) (vi : Value) (L : List Pt) (x : Nat) (g : Pt) (w : World) (h : Bk w B R most vi L) (hl : L.length ≤ 100) (hg : getP L x = some g) (hk : Ok1 g) :
    Calls Try.prog 17 #[bp B, .int .u32 (x : Int)] w fun r w' => PtB x g w r w' := by
  obtain ⟨w0, hw0⟩ : ∃ w0, w0 = w.alloc (.cells dZ 36) := ⟨_, rfl⟩
  have hb0 : Below w.heap.size w w0 := by rw [hw0]; exact (Below.refl _ _).alloc (Nat.le_refl _) _
  have hq0 : w0.heap[w.heap.size]? = some (.cells dZ 36 (0, 0)) := by rw [hw0]; exact heap_alloc_new w _
  have hbk := h.after hb0
  have H0 := Lib.hid hw0
  have HB0 := Lib.hid hb0
  have HQ0 := Lib.hid hq0
  have HG := Lib.hid (at_some B R most vi L x g w0 hbk hl hg)
  have HCT := Lib.hid hbk.ctx
  have HK := Lib.hid hk
  clear hw0 hb0 hq0 hbk h hg hk
  go_enter Try.func17, Try.ntmps17
  go_upto_region 1 with (fail)
  rw [← H0.out]
  go_wp2_with fail
  refine HG.out.mono ?_
  rintro r w2 ⟨y1, y2, y3, rfl, f1, f2, f3, hb2⟩
  obtain ⟨G, hG⟩ : ∃ G, G = w2.heap.size := ⟨_, rfl⟩
  obtain ⟨w3, hw3⟩ : ∃ W, W = w2.alloc (.cells #[.int .u32 (y1 : Int), .slice y2.a y2.n y2.c, .slice y3.a y3.n y3.c] 112) := ⟨_, rfl⟩
  have hq : w3.heap[G]? = some (.cells #[.int .u32 (y1 : Int), .slice y2.a y2.n y2.c, .slice y3.a y3.n y3.c] 112 (0, 0)) := by rw [hw3, hG]; exact heap_alloc_new w2 _
  have hb3 : Below w2.heap.size w2 w3 := by rw [hw3]; exact (Below.refl _ _).alloc (Nat.le_refl _) _
  have hq1 := (hb3.block _ (Nat.lt_of_lt_of_le (lt_of_block HQ0.out) hb2.size)).trans ((hb2.block _ (lt_of_block HQ0.out)).trans HQ0.out)
  have HB2 : Hid (Below w.heap.size w w3) := HB0.out.trans ((hb2.trans (hb3.mono hb2.size)).mono HB0.out.size)
  have HS : Hid (∀ W : World, W.heap[G]? = some (.cells #[.int .u32 (y1 : Int), .slice y2.a y2.n y2.c, .slice y3.a y3.n y3.c] 112 (0, 0)) → (fun W : World => W.cell? ⟨G, 0, none⟩ = some (.int .u32 (y1 : Int)) ∧ W.cell? ⟨G, 1, none⟩ = some (.slice y2.a y2.n y2.c) ∧ W.cell? ⟨G, 2, none⟩ = some (.slice y3.a y3.n y3.c)) W) := fun W hW => ⟨cell_of_row W G 0 _ _ _ hW, cell_of_row W G 1 _ _ _ hW, cell_of_row W G 2 _ _ _ hW⟩
  have HGR : Hid (∀ W, Below w3.heap.size w3 W → W.heap[G]? = some (.cells #[.int .u32 (y1 : Int), .slice y2.a y2.n y2.c, .slice y3.a y3.n y3.c] 112 (0, 0))) := fun W hW => (hW.block _ (lt_of_block hq)).trans hq
  have HQR : Hid (∀ W, Below w3.heap.size w3 W → W.heap[w.heap.size]? = some (.cells dZ 36 (0, 0))) := fun W hW => (hW.block _ (lt_of_block hq1)).trans hq1
  have HGN : Hid (G ≠ w.heap.size) := by have h1 := lt_of_block HQ0.out; have h3 := hb2.size; simp only [Hid]; omega
  have HBB : Hid (Below w3.heap.size w3 w3) := Below.refl _ _
  have HC3 : Hid (Ctx w3 R vi) := (HCT.out.size hb2.size).size hb3.size
  have HF2 : Hid (Fl w3 R vi y2 g.mem ∧ Fl w3 R vi y3 g.inv) := ⟨f2.after hb3, f3.after hb3⟩
  have HCM : Hid (∀ W, Below w3.heap.size w3 W → Calls Try.prog 67 #[.slice y2.a y2.n y2.c] W fun r w' => CallB w.heap.size g.mem y2.n W r w') := fun W hW => clone_od w.heap.size R vi y2 g.mem W (HF2.out.1.after hW) (Nat.le_trans HB2.out.size hW.size) (by have := HK.out.four; omega)
  have HCV : Hid (∀ W, Below w3.heap.size w3 W → Calls Try.prog 67 #[.slice y3.a y3.n y3.c] W fun r w' => CallB w.heap.size g.inv y3.n W r w') := fun W hW => clone_od w.heap.size R vi y3 g.inv W (HF2.out.2.after hW) (Nat.le_trans HB2.out.size hW.size) (by have := HK.out.four; omega)
  have H3 := Lib.hid hw3
  have HGG := Lib.hid hG
  have HLD : Hid (y1 = g.ld) := f1
  clear hq hq1 hb2 hb3 hw3 hG f1 f2 f3
  go_upto_region 4 with (fail)
  rw [← H3.out, ← HGG.out]
  have HDk : Hid (Below w3.heap.size w3 w3.drew) := HBB.out.drew
  refine wp_region_held_drew (S := fun W : World => W.cell? ⟨G, 0, none⟩ = some (.int .u32 (y1 : Int)) ∧ W.cell? ⟨G, 1, none⟩ = some (.slice y2.a y2.n y2.c) ∧ W.cell? ⟨G, 2, none⟩ = some (.slice y3.a y3.n y3.c)) (by kernel_rfl) (HS.out _ (HGR.out _ (HDk.out))) (fun hHeld => ?_)
  obtain ⟨Wk0, hW0⟩ : ∃ W0, W0 = w3.drew := ⟨_, rfl⟩
  rw [← hW0] at hHeld HDk ⊢
  clear hW0
  refine wpAnyH_take (i := 0) (oi := ?oi0k) (v := ?v0k) ?hi0k ?hs0k ?hf0k ?hr0k ?hQ0k ?hy0k ?hS0k ?h0k
  case hi0k => exact (by simp only [List.getElem?_toArray, List.getElem?_cons_zero]; rfl)
  case hs0k => kernel_rfl
  case hf0k => kernel_rfl
  case hr0k => kernel_rfl
  case hQ0k => exact fun _ _ _ h => h
  case hy0k =>
    refine Or.inl ⟨rfl, ?_⟩
    intro W hSw
    obtain ⟨q0, q1, q2⟩ := hSw
    go_simp
    try with_reducible rfl
  case hS0k => assumption
  try simp only [Act.put, List.setIfInBounds_toArray, List.set_cons_zero, List.set_cons_succ]
  refine wpAnyH_take (i := 1) (oi := ?oi1k) (v := ?v1k) ?hi1k ?hs1k ?hf1k ?hr1k ?hQ1k ?hy1k ?hS1k ?h1k
  case hi1k => exact (by simp only [List.getElem?_toArray, List.getElem?_cons_succ, List.getElem?_cons_zero]; rfl)
  case hs1k => kernel_rfl
  case hf1k => kernel_rfl
  case hr1k => kernel_rfl
  case hQ1k => exact fun _ _ _ h => h
  case hy1k =>
    refine Or.inl ⟨rfl, ?_⟩
    intro W hSw
    obtain ⟨q0, q1, q2⟩ := hSw
    go_simp
    try with_reducible rfl
  case hS1k => assumption
  try simp only [Act.put, List.setIfInBounds_toArray, List.set_cons_zero, List.set_cons_succ]
  refine wpAnyH_take (i := 2) (oi := ?oi2k) (v := ?v2k) ?hi2k ?hs2k ?hf2k ?hr2k ?hQ2k ?hy2k ?hS2k ?h2k
  case hi2k => exact (by simp only [List.getElem?_toArray, List.getElem?_cons_succ, List.getElem?_cons_zero]; rfl)
  case hs2k => kernel_rfl
  case hf2k => kernel_rfl
  case hr2k => kernel_rfl
  case hQ2k => exact fun _ _ _ h => h
  case hy2k =>
    refine Or.inl ⟨rfl, ?_⟩
    intro W hSw
    obtain ⟨q0, q1, q2⟩ := hSw
    go_simp
    try with_reducible rfl
  case hS2k => assumption
  try simp only [Act.put, List.setIfInBounds_toArray, List.set_cons_zero, List.set_cons_succ]
  refine wpAnyH_take (i := 3) (oi := ?oi3k) (v := ?v3k) ?hi3k ?hs3k ?hf3k ?hr3k ?hQ3k ?hy3k ?hS3k ?h3k
  case hi3k => exact (by simp only [List.getElem?_toArray, List.getElem?_cons_succ, List.getElem?_cons_zero]; rfl)
  case hs3k => kernel_rfl
  case hf3k => kernel_rfl
  case hr3k => kernel_rfl
  case hQ3k => exact fun _ _ _ h => h
  case hy3k =>
    refine Or.inl ⟨rfl, ?_⟩
    intro W hSw
    obtain ⟨q0, q1, q2⟩ := hSw
    go_simp
    try with_reducible rfl
  case hS3k => assumption
  try simp only [Act.put, List.setIfInBounds_toArray, List.set_cons_zero, List.set_cons_succ]
  refine wpAnyH_take (i := 4) (oi := ?oi4k) (v := ?v4k) ?hi4k ?hs4k ?hf4k ?hr4k ?hQ4k ?hy4k ?hS4k ?h4k
  case hi4k => exact (by simp only [List.getElem?_toArray, List.getElem?_cons_succ, List.getElem?_cons_zero]; rfl)
  case hs4k => kernel_rfl
  case hf4k => kernel_rfl
  case hr4k => kernel_rfl
  case hQ4k => exact fun _ _ _ h => h
  case hy4k =>
    refine Or.inl ⟨rfl, ?_⟩
    intro W hSw
    obtain ⟨q0, q1, q2⟩ := hSw
    go_simp
    try with_reducible rfl
  case hS4k => assumption
  try simp only [Act.put, List.setIfInBounds_toArray, List.set_cons_zero, List.set_cons_succ]
  refine wpAnyH_take (i := 6) (oi := ?oi6k) (v := ?v6k) ?hi6k ?hs6k ?hf6k ?hr6k ?hQ6k ?hy6k ?hS6k ?h6k
  case hi6k => exact (by simp only [List.getElem?_toArray, List.getElem?_cons_succ, List.getElem?_cons_zero]; rfl)
  case hs6k => kernel_rfl
  case hf6k => kernel_rfl
  case hr6k => kernel_rfl
  case hQ6k => exact fun _ _ _ h => h
  case hy6k =>
    refine Or.inl ⟨rfl, ?_⟩
    intro W hSw
    obtain ⟨q0, q1, q2⟩ := hSw
    go_simp
    try with_reducible rfl
  case hS6k => assumption
  try simp only [Act.put, List.setIfInBounds_toArray, List.set_cons_zero, List.set_cons_succ]
  refine wpAnyH_take (i := 7) (oi := ?oi7k) (v := ?v7k) ?hi7k ?hs7k ?hf7k ?hr7k ?hQ7k ?hy7k ?hS7k ?h7k
  case hi7k => exact (by simp only [List.getElem?_toArray, List.getElem?_cons_succ, List.getElem?_cons_zero]; rfl)
  case hs7k => kernel_rfl
  case hf7k => kernel_rfl
  case hr7k => kernel_rfl
  case hQ7k => exact fun _ _ _ h => h
  case hy7k =>
    refine Or.inl ⟨rfl, ?_⟩
    intro W hSw
    obtain ⟨q0, q1, q2⟩ := hSw
    go_simp
    try with_reducible rfl
  case hS7k => assumption
  try simp only [Act.put, List.setIfInBounds_toArray, List.set_cons_zero, List.set_cons_succ]
  refine wpAnyH_ready (rs := [5]) (by kernel_rfl) (by simp) ?_
  refine AllReadyH.cons (o := _) rfl (fun K hK => ?_) AllReadyH.nil
  go_simp
  refine ((HCM.out Wk0 HDk.out)).mono ?_
  rintro r Wk1 ⟨A2, c2, rfl, f2, hbq⟩
  have HBk1 := Lib.hid (HDk.out.trans (hbq.mono HDk.out.size))
  have F2 := Lib.hid f2
  clear f2
  clear hbq
  refine hK.out _ _ (HS.out _ (HGR.out _ (HBk1.out))) (fun hHeld => ?_)
  clear hK K
  try simp only [Act.put, List.setIfInBounds_toArray, List.set_cons_zero, List.set_cons_succ]
  refine wpAnyH_ready (rs := [8]) (by kernel_rfl) (by simp) ?_
  refine AllReadyH.cons (o := _) rfl (fun K hK => ?_) AllReadyH.nil
  go_simp
  refine ((HCV.out Wk1 HBk1.out)).mono ?_
  rintro r Wk2 ⟨A3, c3, rfl, f3, hbq⟩
  have HBk2 := Lib.hid (HBk1.out.trans (hbq.mono HBk1.out.size))
  have F3 := Lib.hid f3
  have F2b := Lib.hid (F2.out.after hbq)
  clear f3
  clear hbq
  refine hK.out _ _ (HS.out _ (HGR.out _ (HBk2.out))) (fun hHeld => ?_)
  clear hK K
  try simp only [Act.put, List.setIfInBounds_toArray, List.set_cons_zero, List.set_cons_succ]
  refine wpAnyH_take (i := 9) (oi := ?oi9k) (v := ?v9k) ?hi9k ?hs9k ?hf9k ?hr9k ?hQ9k ?hy9k ?hS9k ?h9k
  case hi9k => exact (by simp only [List.getElem?_toArray, List.getElem?_cons_succ, List.getElem?_cons_zero]; rfl)
  case hs9k => kernel_rfl
  case hf9k => kernel_rfl
  case hr9k => kernel_rfl
  case hQ9k => exact fun _ _ _ h => h
  case hy9k =>
    refine Or.inl ⟨rfl, ?_⟩
    intro W hSw
    obtain ⟨q0, q1, q2⟩ := hSw
    go_simp
    try with_reducible rfl
  case hS9k => assumption
  try simp only [Act.put, List.setIfInBounds_toArray, List.set_cons_zero, List.set_cons_succ]
  refine wpAnyH_ready (rs := [10]) (by kernel_rfl) (by simp) ?_
  refine AllReadyH.cons (o := _) rfl (fun K hK => ?_) AllReadyH.nil
  have hqr := HQR.out Wk2 HBk2.out
  have y0 := cell_of_row _ w.heap.size 0 _ _ _ hqr
  have y1' := cell_of_row _ w.heap.size 1 _ _ _ hqr
  have y2' := cell_of_row _ w.heap.size 2 _ _ _ hqr
  have y3' := cell_of_row _ w.heap.size 3 _ _ _ hqr
  simp at y0 y1' y2' y3'
  have yf : ∀ i, Wk2.frozen? ⟨w.heap.size, i, none⟩ = false := fun i => frozen_of_row _ _ i _ _ hqr
  go_simp
  clear y0 y1' y2' y3' yf
  obtain ⟨W9, hW9⟩ : ∃ W9, W9 = ((((Wk2.setCell ⟨w.heap.size, 0, none⟩ (.int .u32 (x : Int))).setCell ⟨w.heap.size, 1, none⟩ (.int .u32 (y1 : Int))).setCell ⟨w.heap.size, 2, none⟩ (.slice A2 y2.n c2)).setCell ⟨w.heap.size, 3, none⟩ (.slice A3 y3.n c3)) := ⟨_, rfl⟩
  have HT : Hid (W9.cell? ⟨w.heap.size, 0, none⟩ = some (.int .u32 (x : Int)) ∧ W9.cell? ⟨w.heap.size, 1, none⟩ = some (.int .u32 (y1 : Int)) ∧ W9.cell? ⟨w.heap.size, 2, none⟩ = some (.slice A2 y2.n c2) ∧ W9.cell? ⟨w.heap.size, 3, none⟩ = some (.slice A3 y3.n c3)) := by simp only [Hid]; rw [hW9]; exact four_cells (.int .u32 (x : Int)) (.int .u32 (y1 : Int)) (.slice A2 y2.n c2) (.slice A3 y3.n c3) hqr
  have HB9 : Hid (Below w.heap.size w W9) := by simp only [Hid]; rw [hW9]; exact four_below (k := w.heap.size) (.int .u32 (x : Int)) (.int .u32 (y1 : Int)) (.slice A2 y2.n c2) (.slice A3 y3.n c3) (HB2.out.trans (HBk2.out.mono HB2.out.size)) (Nat.le_refl w.heap.size)
  have HG9 : Hid (∀ g, g ≠ w.heap.size → W9.heap[g]? = Wk2.heap[g]?) := fun g hg => by rw [hW9]; exact four_other _ _ _ _ hg
  have HNR : Hid (∀ cur, Wk2.heap[w.heap.size]? ≠ some (.cells cur 26 (0, 0))) := drow36 hqr
  rw [← hW9]
  clear hW9 hqr
  refine hK.out _ _ (HS.out _ ((HG9.out G HGN.out).trans (HGR.out _ HBk2.out))) (fun hHeld => ?_)
  clear hK K
  try simp only [Act.put, List.setIfInBounds_toArray, List.set_cons_zero, List.set_cons_succ]
  refine wpAnyH_take (i := 11) (oi := ?oi11k) (v := ?v11k) ?hi11k ?hs11k ?hf11k ?hr11k ?hQ11k ?hy11k ?hS11k ?h11k
  case hi11k => exact (by simp only [List.getElem?_toArray, List.getElem?_cons_succ, List.getElem?_cons_zero]; rfl)
  case hs11k => kernel_rfl
  case hf11k => kernel_rfl
  case hr11k => kernel_rfl
  case hQ11k => exact fun _ _ _ h => h
  case hy11k =>
    refine Or.inl ⟨rfl, ?_⟩
    intro W hSw
    obtain ⟨q0, q1, q2⟩ := hSw
    go_simp
    try with_reducible rfl
  case hS11k => assumption
  try simp only [Act.put, List.setIfInBounds_toArray, List.set_cons_zero, List.set_cons_succ]
  refine wpAnyH_done (by kernel_rfl) ?_ _
  go_wp2
  obtain ⟨e0, e1, e2, e3⟩ := HT.out
  refine bodyPost_ret (v := .tuple #[.agg (dC x y1 ⟨A2, y2.n, c2⟩ ⟨A3, y3.n, c3⟩), .bool true]) (by simp [results, Try.results17, go_sem, e0, e1, e2, e3]) rfl ⟨⟨A2, y2.n, c2⟩, ⟨A3, y3.n, c3⟩, by rw [HLD.out], Od.oth F2b.out HG9.out HNR.out, Od.oth F3.out HG9.out HNR.out, HB9.out⟩
theorem wrap_a (a b : Nat) (h : a ≤ 4 ∧ b ≤ 4) : IntKind.i64.wrap ((a : Int) + (b : Int)) = (a : Int) + (b : Int) := by
  have h1 := h.1
  have h2 := h.2
  have e : (a : Int) + (b : Int) = ((a + b : Nat) : Int) := by omega
  rw [e]
  obtain ⟨c, hc⟩ : ∃ c, c = a + b := ⟨_, rfl⟩
  rw [← hc]
  have : c ≤ 8 := by omega
  match c, this with
  | 0, _ | 1, _ | 2, _ | 3, _ | 4, _ | 5, _ | 6, _ | 7, _ | 8, _ => decide
theorem wpList_append_u32_at {w : World} {ops : Array Oper} {rest : List Oper} {op : Oper} {a : Act} {Q : Exit → Act → World → Prop} (hgd : op.guard = none) (s x : Operand)
    (ho : op.op = .call { callee := .builtin .append, args := #[s, x], argTypes := #[34, 34] }) (base G : Nat) (v : Value) (m : Nat) (xs : List Value) (y : Nat) (hs : a.eval s = v) (hx : a.eval x = .slice (some ⟨G, 0, none⟩) 1 1)
    (hown : w.ownsRow base 26 1 v m xs) (hG : w.heap[G]? = some (.cells #[.int .u32 (y : Int)] 26 (0, 0))) (hm : m ≤ 1000) (hbase : base ≤ w.heap.size)
    (h : ∀ v' w', w'.ownsRow base 26 1 v' (m + 1) (xs ++ [.int .u32 (y : Int)]) → w.grownBy w' v.ownBlock → (v'.ownBlock = v.ownBlock ∨ v'.ownBlock = some w.heap.size) → wpList Try.prog ops Q rest (a.put op.dst v') w') : wpList Try.prog ops Q (op :: rest) a w := by
  refine wpList_plain hgd fun K hK => ?_
  obtain ⟨i0, hi, hz0, hz1, hz2⟩ := info_parts info26
  obtain ⟨v', w', hr, h2, h3, _, h5⟩ := run_append_own_at (P := Try.prog) w base 34 op.type 26 i0 _ 1 _ Try.underlying34 hi hz0 hz1 hz2 rfl (by decide) v m xs hown ⟨G, 0, none⟩ 1 1 [.int .u32 (y : Int)] rfl (fun j u hu => by
    have := cell_of_row w G j _ _ _ hG
    rw [show (#[.int .u32 (y : Int)] : Array Value) = ([.int .u32 (y : Int)] : List Value).toArray from rfl, List.getElem?_toArray, hu] at this
    rw [← this, Go.WideShapes.add_plain, Nat.zero_add]) (by
    intro u hu
    simp only [List.mem_cons, List.not_mem_nil, or_false] at hu
    rw [hu]
    rfl) (by unfold maxLen; omega) (by omega) hbase
  unfold Oper.wp execOp
  simp only [ho, resolve, invoke, builtin, Sem.run_bind, Sem.run_pure, Result.andThen_ok, List.map_toArray, List.map_cons, List.map_nil, hs, hx, hr]
  exact hK _ _ (h v' w' h2 h3 h5)
def metL (L : List Pt) (k : Nat) : List Nat := (L.take k).flatMap (·.mem)
theorem flat_len : ∀ (l : List Pt), (∀ e ∈ l, e.mem.length ≤ 4) → (l.flatMap (·.mem)).length ≤ 4 * l.length
  | [], _ => by simp
  | e :: l, h => by
    have h1 := flat_len l (fun e he => h e (List.mem_cons_of_mem _ he))
    have h2 := h e (List.mem_cons_self ..)
    rw [List.flatMap_cons, List.length_append, List.length_cons]
    omega
theorem metL_len {L : List Pt} (h : Inv L) (k : Nat) : (metL L k).length ≤ 4 * L.length := by
  have h1 := flat_len (L.take k) (fun e he => by have := (h.each e (List.mem_of_mem_take he)).four; omega)
  have h2 := List.length_take_le k L
  have h3 : (L.take k).length ≤ L.length := by rw [List.length_take]; omega
  unfold metL
  omega
theorem metL_snoc {L : List Pt} {k : Nat} {g : Pt} (h : L[k]? = some g) : metL L (k + 1) = metL L k ++ g.mem := by
  unfold metL
  rw [List.take_add_one, h, List.flatMap_append]
  simp
theorem not_met {L : List Pt} (h : Inv L) {k j y : Nat} {g : Pt} (hk : L[k]? = some g) (hj : g.mem[j]? = some y) : y ∉ metL L k ++ g.mem.take j := by
  intro hy
  have hyg := List.mem_of_getElem? hj
  have hgm := List.mem_of_getElem? hk
  rcases List.mem_append.1 hy with hy | hy
  · unfold metL at hy
    obtain ⟨e, he, hye⟩ := List.mem_flatMap.1 hy
    have hid := h.one e (List.mem_of_mem_take he) g hgm y hye hyg
    obtain ⟨i, hi⟩ := List.getElem?_of_mem he
    rw [List.getElem?_take] at hi
    split at hi
    · rename_i hik
      obtain ⟨q1, q2⟩ := List.getElem?_eq_some_iff.1 hi
      obtain ⟨q3, q4⟩ := List.getElem?_eq_some_iff.1 hk
      have := List.pairwise_iff_getElem.1 h.ris i k q1 q3 hik
      rw [q2, q4] at this
      omega
    · cases hi
  · have hn := (h.each g hgm).nod
    obtain ⟨i, hi⟩ := List.getElem?_of_mem hy
    rw [List.getElem?_take] at hi
    split at hi
    · rename_i hij
      obtain ⟨q1, q2⟩ := List.getElem?_eq_some_iff.1 hi
      obtain ⟨q3, q4⟩ := List.getElem?_eq_some_iff.1 hj
      have := List.pairwise_iff_getElem.1 hn i j q1 q3 hij
      rw [q2, q4] at this
      exact this rfl
    · cases hi
/-- While one goes through a party's members. -/
def T3 (w3 w6 : World) (S1 : Nat) (ma : Option Addr) (mn mc : Nat) (l : List Nat) (wr : World) : Prop :=
  wr.ownsRow w3.heap.size 26 1 (.slice ma mn mc) mn (un l) ∧ Below w3.heap.size w3 wr ∧ (∀ g, S1 ≤ g → g < w6.heap.size → wr.heap[g]? = w6.heap[g]?) ∧ (∀ g, (Value.slice ma mn mc).ownBlock = some g → g < S1 ∨ w6.heap.size ≤ g) ∧ w6.heap.size ≤ wr.heap.size
theorem T3.below {w3 w6 : World} {S1 : Nat} {ma : Option Addr} {mn mc : Nat} {l : List Nat} {wr W : World} (h : T3 w3 w6 S1 ma mn mc l wr) (hb : Below wr.heap.size wr W) : T3 w3 w6 S1 ma mn mc l W := by
  obtain ⟨h1, h2, h3, h4, h5⟩ := h
  exact ⟨own_after h1 fun g hg => hb.block g (ownlt h1 g hg).2, h2.trans (hb.mono h2.size), fun g q1 q2 => (hb.block g (Nat.lt_of_lt_of_le q2 h5)).trans (h3 g q1 q2), h4, Nat.le_trans h5 hb.size⟩
theorem T3.app {w3 w6 : World} {S1 : Nat} {ma : Option Addr} {mn mc y : Nat} {l : List Nat} {W w7 : World} {A8 : Option Addr} {c8 : Nat} {o : Obj} (h : T3 w3 w6 S1 ma mn mc l W)
    (hown : w7.ownsRow w3.heap.size 26 1 (.slice A8 (mn + 1) c8) (mn + 1) (un l ++ [.int .u32 (y : Int)])) (hg : (W.alloc o).grownBy w7 (Value.slice ma mn mc).ownBlock) (h8 : (Value.slice A8 (mn + 1) c8).ownBlock = (Value.slice ma mn mc).ownBlock ∨ (Value.slice A8 (mn + 1) c8).ownBlock = some (W.alloc o).heap.size) : T3 w3 w6 S1 A8 (mn + 1) c8 (l ++ [y]) w7 := by
  obtain ⟨h1, h2, h3, h4, h5⟩ := h
  have hsz : (W.alloc o).heap.size = W.heap.size + 1 := by simp
  refine ⟨by rw [un_snoc]; exact hown, (h2.alloc h2.size o).grown hg (by have := h2.size; omega) (fun g hh => (ownlt h1 g hh).1), fun g q1 q2 => ?_, fun g hh => ?_, by have := hg.size; omega⟩
  · have hlt : g < W.heap.size := Nat.lt_of_lt_of_le q2 h5
    refine ((hg.block g (by omega) (fun e => ?_)).trans (Below.heap_alloc _ _ _ hlt)).trans (h3 g q1 q2)
    have := h4 g e.symm
    omega
  · rcases h8 with e | e
    · exact h4 g (by rw [← e]; exact hh)
    · rw [e] at hh
      injection hh with hh
      omega
def PO (w : World) (B : Nat) (L : List Pt) (wr : World) : Prop := ∃ vi, Bk wr B w.heap.size 5 vi L ∧ Inv L ∧ (L.length : Int) ≤ 5 ∧ Below w.heap.size w wr
set_option maxHeartbeats 16000000 in
theorem one_any (p : Option Addr × Nat) (acts : List Ac) (w : World) (hA : As w w.heap.size p.1 acts) (hl : acts.length ≤ 9223372036854775807) (hR : ∀ e ∈ acts, Ra e) :
    Calls Try.prog 4 #[.slice p.1 acts.length p.2] w fun r w' => r = .returned (.bool true) ∧ Below w.heap.size w w' := by
  obtain ⟨P, cp⟩ := p
  simp only at hA ⊢
  obtain ⟨n0, hn⟩ : ∃ n, n = acts.length := ⟨_, rfl⟩
  rw [← hn] at hl ⊢
  have HA := Lib.hid hA
  have HN := Lib.hid hn
  have HAW : Hid (∀ W, Calls Try.prog 18 #[] W fun r w' => r = .returned (.bool true) ∧ Below W.heap.size W w') := fun W => awake_any W
  have HNW := Lib.hid (new_bk 5 w)
  clear hA hR hn
  by_cases h80 : 80 < n0
  · go_enter Try.func4, Try.ntmps4
    go_wp2
    go_ret
    exact ⟨rfl, Below.refl _ _⟩
  go_enter Try.func4, Try.ntmps4
  go_wp2_with fail
  refine HNW.out.mono ?_
  rintro r w1 ⟨B, rfl, hB, hbk, hb1⟩
  rw [show max (5 : Int) 0 = 5 from by decide] at hbk
  have HS : Hid (PO w B [] w1) := ⟨_, hbk, Inv.nil, by simp, hb1⟩
  clear hbk hb1
  go_wp2_with fail
  go_loopw [5] (fun i wr => ∃ (k0 : Nat) (L : List Pt), k0 ≤ n0 ∧ i = .int .i64 (k0 : Int) ∧ Hid (PO w B L wr)) (fun i _ => n0 - (intOf i).toNat)
  case atStart => exact ⟨0, [], Nat.zero_le _, rfl, HS.out⟩
  case round =>
    obtain ⟨k0, L0, hk0, rfl, HM⟩ := hrel
    by_cases hlt : k0 < n0
    · obtain ⟨⟨d, a', b'⟩, hy⟩ : ∃ e, acts[k0]? = some e := ⟨acts[k0]'(by rw [← HN.out]; exact hlt), List.getElem?_eq_getElem _⟩
      obtain ⟨b1, o1, rfl, hb1, ha1⟩ := HA.out (by have := HN.out; omega)
      obtain ⟨e0, e1, e2⟩ := ha1 k0 _ hy
      obtain ⟨vi, h1, h2, h3, h4⟩ := HM.out
      have d0 := (h4.cell (p := ⟨b1, _, none⟩) hb1).trans e0
      have d1 := (h4.cell (p := ⟨b1, _, none⟩) hb1).trans e1
      have d2 := (h4.cell (p := ⟨b1, _, none⟩) hb1).trans e2
      simp only at d0 d1 d2
      obtain ⟨L, hL⟩ : ∃ L, L = actL 5 d L0 a' b' := ⟨_, rfl⟩
      have HACT := Lib.hid (dog_any B w.heap.size 5 vi L0 [] none 0 0 a' b' wr h1 ⟨rfl, Dr.nil, h1.ctx⟩ h2 Inv.nil (by omega) (by omega) (by decide) d)
      rw [← hL] at HACT
      have HIN : Hid (Inv L ∧ L.length ≤ 5) := by
        have q1 := nx_act h2 (by omega) 5 d a' b'
        have q2 := act_most h3 d a' b'
        rw [← hL] at q1 q2
        exact ⟨q1.1, by omega⟩
      have HB4 := Lib.hid h4
      clear hy ha1 hb1 e0 e1 e2 h1 h2 h3 h4 hL
      go_wp2_with fail
      refine HACT.out.mono ?_
      rintro r w2 ⟨A2, n2, c2, vi2, t, rfl, hbk, hst⟩
      have HBK := Lib.hid hbk
      have HB2 : Hid (Below w.heap.size w w2) := HB4.out.trans hst.below
      have HPA := Lib.hid (parties_any B w.heap.size 5 vi2 L w2 hbk (by have := HIN.out.2; omega))
      clear hbk hst d0 d1 d2
      go_wp2_with fail
      refine HPA.out.mono ?_
      rintro r w3 ⟨A3, n3, c3, rfl, ho3, hb3⟩
      obtain ⟨hn3, hr3⟩ := Rn.of_own ho3
      rw [List.length_map] at hn3
      have HN3 := Lib.hid hn3
      have HR3 := Lib.hid hr3
      have HB3 : Hid (Below w.heap.size w w3) := HB2.out.trans (hb3.mono HB2.out.size)
      have HBK3 := Lib.hid (HBK.out.after hb3)
      have HPT : Hid (∀ W, Below w3.heap.size w3 W → ∀ (k : Nat) g, L[k]? = some g → Calls Try.prog 17 #[bp B, .int .u32 (g.id : Int)] W fun r w' => PtB g.id g W r w') := fun W hW k g hk => party_both B w.heap.size 5 vi2 L g.id g W (HBK3.out.after hW) (by have := HIN.out.2; omega) (get_at HIN.out.1.ris hk) (HIN.out.1.each g (List.mem_of_getElem? hk))
      have HOFA : Hid (∀ W, Below w3.heap.size w3 W → ∀ y : Nat, Calls Try.prog 15 #[bp B, .int .u32 (y : Int)] W fun r w' => r = .returned (.int .u32 (ofP L y : Int)) ∧ Below W.heap.size W w') := fun W hW y => of_any B w.heap.size 5 vi2 L y W (HBK3.out.after hW) (by have := HIN.out.2; omega) (fun e he => by have := (HIN.out.1.each e he).four; omega)
      have HLM : Hid (∀ k, (metL L k).length ≤ 20) := fun k => by have h1 := metL_len HIN.out.1 k; have h2 := HIN.out.2; omega
      have HB00 : Hid (Below w3.heap.size w3 w3) := Below.refl _ _
      have hn5 : n3 ≤ 5 := by have := HIN.out.2; omega
      clear ho3 hb3 hn3 hr3
      go_wp2_with fail
      go_loopw [7, 8] (fun mv kv wr => ∃ (k mn mc : Nat) (ma : Option Addr), k ≤ n3 ∧ kv = .int .i64 (k : Int) ∧ mv = .slice ma mn mc ∧ Hid (wr.ownsRow w3.heap.size 26 1 (.slice ma mn mc) mn (un (metL L k)) ∧ Below w3.heap.size w3 wr)) (fun _ kv _ => n3 - (intOf kv).toNat)
      case atStart => exact ⟨0, 0, 0, none, by omega, rfl, rfl, World.ownsRow_nil w3 _ 26 1, HB00.out⟩
      case round =>
        obtain ⟨k, mn, mc, ma, hk, rfl, rfl, HO⟩ := hrel
        by_cases hlt3 : k < n3
        · obtain ⟨g, hy⟩ : ∃ e, L[k]? = some e := ⟨L[k]'(by rw [← HN3.out]; exact hlt3), List.getElem?_eq_getElem _⟩
          obtain ⟨b, o, rfl, hbb, hat⟩ := HR3.out (by rw [List.length_map]; have := HN3.out; omega)
          obtain ⟨x, hx⟩ : ∃ x, x = g.id := ⟨_, rfl⟩
          have q0 := hat k x (by rw [List.getElem?_map, hy, hx]; rfl)
          have d0 := (HO.out.2.cell (p := ⟨b, _, none⟩) hbb).trans q0
          have HP := Lib.hid (HPT.out wr HO.out.2 k g hy)
          rw [← hx] at HP
          have HQ0 := Lib.hid q0
          have HBB := Lib.hid hbb
          have HK := Lib.hid (HIN.out.1.each g (List.mem_of_getElem? hy))
          have HX := Lib.hid hx
          have HY := Lib.hid hy
          have HLD : Hid (∃ l, l = g.ld) := ⟨_, rfl⟩
          clear hy hat q0 hx hbb
          go_wp2_with fail
          obtain ⟨wc, hwc⟩ : ∃ W, W = wr := ⟨_, rfl⟩
          rw [← hwc] at HO HP ⊢
          clear hwc d0
          refine HP.out.mono ?_
          rintro r w5 ⟨⟨ma2, mn2, mc2⟩, v, rfl, om, ov, hb5⟩
          obtain ⟨l, hl'⟩ := HLD.out
          rw [← hl']
          obtain ⟨G, hG⟩ : ∃ G, G = w5.heap.size := ⟨_, rfl⟩
          obtain ⟨w6, hw6⟩ : ∃ W, W = w5.alloc (.cells #[.int .u32 (x : Int), .int .u32 (l : Int), .slice ma2 mn2 mc2, .slice v.a v.n v.c] 36) := ⟨_, rfl⟩
          have hq : w6.heap[G]? = some (.cells #[.int .u32 (x : Int), .int .u32 (l : Int), .slice ma2 mn2 mc2, .slice v.a v.n v.c] 36 (0, 0)) := by rw [hw6, hG]; exact heap_alloc_new w5 _
          have hb6 : Below w5.heap.size w5 w6 := by rw [hw6]; exact (Below.refl _ _).alloc (Nat.le_refl _) _
          have hbc := hb5.trans (hb6.mono hb5.size)
          have HB6 : Hid (Below w3.heap.size w3 w6) := HO.out.2.trans (hbc.mono HO.out.2.size)
          have HOM := Lib.hid (om.after hb6)
          have HOV := Lib.hid (ov.after hb6)
          have HT6 : Hid (T3 w3 w6 wc.heap.size ma mn mc (metL L k ++ g.mem.take 0) w6) := ⟨by rw [List.take_zero, List.append_nil]; exact own_after HO.out.1 fun q hq => hbc.block q (ownlt HO.out.1 q hq).2, HB6.out, fun q _ _ => rfl, fun q hq => .inl (ownlt HO.out.1 q hq).2, Nat.le_refl _⟩
          have HQG := Lib.hid hq
          have HGL : Hid (wc.heap.size ≤ G) := by have := hb5.size; simp only [Hid]; omega
          have hm4 : mn2 = g.mem.length ∧ v.n = g.inv.length := ⟨HOM.out.1, HOV.out.1⟩
          have hmv : mn2 ≤ 4 ∧ v.n ≤ 4 := by have := HK.out.four; omega
          have hi1 : ¬ ((mn2 : Int) < 1) := by have := List.length_pos_of_mem HK.out.ld; omega
          have hi2 : ¬ ((mn2 : Int) + (v.n : Int) < 2) := by have := HK.out.two; omega
          have hi3 : ¬ ((4 : Int) < (mn2 : Int) + (v.n : Int)) := by have := HK.out.four; omega
          have HWR : Hid (IntKind.i64.wrap ((mn2 : Int) + (v.n : Int)) = (mn2 : Int) + (v.n : Int)) := wrap_a mn2 v.n hmv
          have HHL : Hid (∀ W, Below w6.heap.size w6 W → Calls Try.prog 20 #[.slice ma2 mn2 mc2, .int .u32 (l : Int)] W fun r w' => r = .returned (.bool true) ∧ Below W.heap.size W w') := fun W hW => by
            have hh := has_any ma2 mn2 mc2 g.mem l W HOM.out.1 (HOM.out.after hW).rn (by omega)
            rw [decide_eq_true (by rw [hl']; exact HK.out.ld)] at hh
            exact hh.mono fun r w' q => ⟨q.1, by rw [q.2]; exact Below.refl _ _⟩
          have HC0 : Hid (∀ W, Below w3.heap.size w3 W → W.cell? ⟨b, o + k, none⟩ = some (.int .u32 (x : Int))) := fun W hW => (hW.cell (p := ⟨b, _, none⟩) HBB.out).trans HQ0.out
          have HCE : Hid (∀ W : World, Below w6.heap.size w6 W → (fun W : World => W.cell? ⟨G, 0, none⟩ = some (.int .u32 (x : Int)) ∧ W.cell? ⟨G, 1, none⟩ = some (.int .u32 (l : Int)) ∧ W.cell? ⟨G, 2, none⟩ = some (.slice ma2 mn2 mc2) ∧ W.cell? ⟨G, 3, none⟩ = some (.slice v.a v.n v.c) ∧ W.cell? ⟨b, o + k, none⟩ = some (.int .u32 (x : Int))) W) := fun W hW => by
            have hr := (hW.block _ (lt_of_block HQG.out)).trans HQG.out
            exact ⟨cell_of_row W G 0 _ _ _ hr, cell_of_row W G 1 _ _ _ hr, cell_of_row W G 2 _ _ _ hr, cell_of_row W G 3 _ _ _ hr, HC0.out W (HB6.out.trans (hW.mono HB6.out.size))⟩
          have HBS : Hid (Below w6.heap.size w6 w6) := Below.refl _ _
          have H6 := Lib.hid hw6
          have HGG := Lib.hid hG
          have HMN : Hid (mn2 = g.mem.length) := hm4.1
          clear hw6 hG hq hb6 hb5 hbc om ov hm4 hl'
          go_upto_region 15 with (fail)
          rw [← H6.out, ← HGG.out]
          have HDp : Hid (Below w6.heap.size w6 w6.drew) := HBS.out.drew
          refine wp_region_held_drew (S := fun W : World => W.cell? ⟨G, 0, none⟩ = some (.int .u32 (x : Int)) ∧ W.cell? ⟨G, 1, none⟩ = some (.int .u32 (l : Int)) ∧ W.cell? ⟨G, 2, none⟩ = some (.slice ma2 mn2 mc2) ∧ W.cell? ⟨G, 3, none⟩ = some (.slice v.a v.n v.c) ∧ W.cell? ⟨b, o + k, none⟩ = some (.int .u32 (x : Int))) (by kernel_rfl) (HCE.out _ (HDp.out)) (fun hHeld => ?_)
          obtain ⟨Wp0, hW0⟩ : ∃ W0, W0 = w6.drew := ⟨_, rfl⟩
          rw [← hW0] at hHeld HDp ⊢
          clear hW0
          refine wpAnyH_take (i := 0) (oi := ?oi0p) (v := ?v0p) ?hi0p ?hs0p ?hf0p ?hr0p ?hQ0p ?hy0p ?hS0p ?h0p
          case hi0p => exact (by simp only [List.getElem?_toArray, List.getElem?_cons_zero]; rfl)
          case hs0p => kernel_rfl
          case hf0p => kernel_rfl
          case hr0p => kernel_rfl
          case hQ0p => exact fun _ _ _ h => h
          case hy0p =>
            refine Or.inl ⟨rfl, ?_⟩
            intro W hSw
            obtain ⟨q0, q1, q2, q3, p0⟩ := hSw
            go_simp
            try with_reducible rfl
          case hS0p => assumption
          try simp only [Act.put, List.setIfInBounds_toArray, List.set_cons_zero, List.set_cons_succ]
          refine wpAnyH_take (i := 1) (oi := ?oi1p) (v := (.bool false)) ?hi1p ?hs1p ?hf1p ?hr1p ?hQ1p ?hy1p ?hS1p ?h1p
          case hi1p => exact (by simp only [List.getElem?_toArray, List.getElem?_cons_succ, List.getElem?_cons_zero]; rfl)
          case hs1p => kernel_rfl
          case hf1p => kernel_rfl
          case hr1p => kernel_rfl
          case hQ1p => exact fun _ _ _ h => h
          case hy1p =>
            refine Or.inl ⟨rfl, ?_⟩
            intro W hSw
            obtain ⟨q0, q1, q2, q3, p0⟩ := hSw
            go_simp
            try simp
          case hS1p => assumption
          try simp only [Act.put, List.setIfInBounds_toArray, List.set_cons_zero, List.set_cons_succ]
          refine wpAnyH_take (i := 2) (oi := ?oi2p) (v := ?v2p) ?hi2p ?hs2p ?hf2p ?hr2p ?hQ2p ?hy2p ?hS2p ?h2p
          case hi2p => exact (by simp only [List.getElem?_toArray, List.getElem?_cons_succ, List.getElem?_cons_zero]; rfl)
          case hs2p => kernel_rfl
          case hf2p => kernel_rfl
          case hr2p => kernel_rfl
          case hQ2p => exact fun _ _ _ h => h
          case hy2p =>
            refine Or.inl ⟨rfl, ?_⟩
            intro W hSw
            obtain ⟨q0, q1, q2, q3, p0⟩ := hSw
            go_simp
            try with_reducible rfl
          case hS2p => assumption
          try simp only [Act.put, List.setIfInBounds_toArray, List.set_cons_zero, List.set_cons_succ]
          refine wpAnyH_take (i := 3) (oi := ?oi3p) (v := ?v3p) ?hi3p ?hs3p ?hf3p ?hr3p ?hQ3p ?hy3p ?hS3p ?h3p
          case hi3p => exact (by simp only [List.getElem?_toArray, List.getElem?_cons_succ, List.getElem?_cons_zero]; rfl)
          case hs3p => kernel_rfl
          case hf3p => kernel_rfl
          case hr3p => kernel_rfl
          case hQ3p => exact fun _ _ _ h => h
          case hy3p =>
            refine Or.inl ⟨rfl, ?_⟩
            intro W hSw
            obtain ⟨q0, q1, q2, q3, p0⟩ := hSw
            go_simp
            try with_reducible rfl
          case hS3p => assumption
          try simp only [Act.put, List.setIfInBounds_toArray, List.set_cons_zero, List.set_cons_succ]
          refine wpAnyH_take (i := 4) (oi := ?oi4p) (v := ?v4p) ?hi4p ?hs4p ?hf4p ?hr4p ?hQ4p ?hy4p ?hS4p ?h4p
          case hi4p => exact (by simp only [List.getElem?_toArray, List.getElem?_cons_succ, List.getElem?_cons_zero]; rfl)
          case hs4p => kernel_rfl
          case hf4p => kernel_rfl
          case hr4p => kernel_rfl
          case hQ4p => exact fun _ _ _ h => h
          case hy4p =>
            refine Or.inl ⟨rfl, ?_⟩
            intro W hSw
            obtain ⟨q0, q1, q2, q3, p0⟩ := hSw
            go_simp
            try with_reducible rfl
          case hS4p => assumption
          try simp only [Act.put, List.setIfInBounds_toArray, List.set_cons_zero, List.set_cons_succ]
          refine wpAnyH_take (i := 5) (oi := ?oi5p) (v := ?v5p) ?hi5p ?hs5p ?hf5p ?hr5p ?hQ5p ?hy5p ?hS5p ?h5p
          case hi5p => exact (by simp only [List.getElem?_toArray, List.getElem?_cons_succ, List.getElem?_cons_zero]; rfl)
          case hs5p => kernel_rfl
          case hf5p => kernel_rfl
          case hr5p => kernel_rfl
          case hQ5p => exact fun _ _ _ h => h
          case hy5p =>
            refine Or.inl ⟨rfl, ?_⟩
            intro W hSw
            obtain ⟨q0, q1, q2, q3, p0⟩ := hSw
            go_simp
            try with_reducible rfl
          case hS5p => assumption
          try simp only [Act.put, List.setIfInBounds_toArray, List.set_cons_zero, List.set_cons_succ]
          refine wpAnyH_take (i := 6) (oi := ?oi6p) (v := ?v6p) ?hi6p ?hs6p ?hf6p ?hr6p ?hQ6p ?hy6p ?hS6p ?h6p
          case hi6p => exact (by simp only [List.getElem?_toArray, List.getElem?_cons_succ, List.getElem?_cons_zero]; rfl)
          case hs6p => kernel_rfl
          case hf6p => kernel_rfl
          case hr6p => kernel_rfl
          case hQ6p => exact fun _ _ _ h => h
          case hy6p =>
            refine Or.inl ⟨rfl, ?_⟩
            intro W hSw
            obtain ⟨q0, q1, q2, q3, p0⟩ := hSw
            go_simp
            try with_reducible rfl
          case hS6p => assumption
          try simp only [Act.put, List.setIfInBounds_toArray, List.set_cons_zero, List.set_cons_succ]
          refine wpAnyH_take (i := 7) (oi := ?oi7p) (v := ?v7p) ?hi7p ?hs7p ?hf7p ?hr7p ?hQ7p ?hy7p ?hS7p ?h7p
          case hi7p => exact (by simp only [List.getElem?_toArray, List.getElem?_cons_succ, List.getElem?_cons_zero]; rfl)
          case hs7p => kernel_rfl
          case hf7p => kernel_rfl
          case hr7p => kernel_rfl
          case hQ7p => exact fun _ _ _ h => h
          case hy7p =>
            refine Or.inl ⟨rfl, ?_⟩
            intro W hSw
            obtain ⟨q0, q1, q2, q3, p0⟩ := hSw
            go_simp
            try with_reducible rfl
          case hS7p => assumption
          try simp only [Act.put, List.setIfInBounds_toArray, List.set_cons_zero, List.set_cons_succ]
          refine wpAnyH_take (i := 8) (oi := ?oi8p) (v := ?v8p) ?hi8p ?hs8p ?hf8p ?hr8p ?hQ8p ?hy8p ?hS8p ?h8p
          case hi8p => exact (by simp only [List.getElem?_toArray, List.getElem?_cons_succ, List.getElem?_cons_zero]; rfl)
          case hs8p => kernel_rfl
          case hf8p => kernel_rfl
          case hr8p => kernel_rfl
          case hQ8p => exact fun _ _ _ h => h
          case hy8p =>
            refine Or.inl ⟨rfl, ?_⟩
            intro W hSw
            obtain ⟨q0, q1, q2, q3, p0⟩ := hSw
            go_simp
            try with_reducible rfl
          case hS8p => assumption
          try simp only [Act.put, List.setIfInBounds_toArray, List.set_cons_zero, List.set_cons_succ]
          refine wpAnyH_take (i := 9) (oi := ?oi9p) (v := (.bool false)) ?hi9p ?hs9p ?hf9p ?hr9p ?hQ9p ?hy9p ?hS9p ?h9p
          case hi9p => exact (by simp only [List.getElem?_toArray, List.getElem?_cons_succ, List.getElem?_cons_zero]; rfl)
          case hs9p => kernel_rfl
          case hf9p => kernel_rfl
          case hr9p => kernel_rfl
          case hQ9p => exact fun _ _ _ h => h
          case hy9p =>
            refine Or.inl ⟨rfl, ?_⟩
            intro W hSw
            obtain ⟨q0, q1, q2, q3, p0⟩ := hSw
            go_simp
            try simp
          case hS9p => assumption
          try simp only [Act.put, List.setIfInBounds_toArray, List.set_cons_zero, List.set_cons_succ]
          refine wpAnyH_take (i := 10) (oi := ?oi10p) (v := ?v10p) ?hi10p ?hs10p ?hf10p ?hr10p ?hQ10p ?hy10p ?hS10p ?h10p
          case hi10p => exact (by simp only [List.getElem?_toArray, List.getElem?_cons_succ, List.getElem?_cons_zero]; rfl)
          case hs10p => kernel_rfl
          case hf10p => kernel_rfl
          case hr10p => kernel_rfl
          case hQ10p => exact fun _ _ _ h => h
          case hy10p =>
            refine Or.inl ⟨rfl, ?_⟩
            intro W hSw
            obtain ⟨q0, q1, q2, q3, p0⟩ := hSw
            go_simp
            try with_reducible rfl
          case hS10p => assumption
          try simp only [Act.put, List.setIfInBounds_toArray, List.set_cons_zero, List.set_cons_succ]
          refine wpAnyH_take (i := 11) (oi := ?oi11p) (v := ?v11p) ?hi11p ?hs11p ?hf11p ?hr11p ?hQ11p ?hy11p ?hS11p ?h11p
          case hi11p => exact (by simp only [List.getElem?_toArray, List.getElem?_cons_succ, List.getElem?_cons_zero]; rfl)
          case hs11p => kernel_rfl
          case hf11p => kernel_rfl
          case hr11p => kernel_rfl
          case hQ11p => exact fun _ _ _ h => h
          case hy11p =>
            refine Or.inl ⟨rfl, ?_⟩
            intro W hSw
            obtain ⟨q0, q1, q2, q3, p0⟩ := hSw
            go_simp
            try with_reducible rfl
          case hS11p => assumption
          try simp only [Act.put, List.setIfInBounds_toArray, List.set_cons_zero, List.set_cons_succ]
          refine wpAnyH_take (i := 12) (oi := ?oi12p) (v := ?v12p) ?hi12p ?hs12p ?hf12p ?hr12p ?hQ12p ?hy12p ?hS12p ?h12p
          case hi12p => exact (by simp only [List.getElem?_toArray, List.getElem?_cons_succ, List.getElem?_cons_zero]; rfl)
          case hs12p => kernel_rfl
          case hf12p => kernel_rfl
          case hr12p => kernel_rfl
          case hQ12p => exact fun _ _ _ h => h
          case hy12p =>
            refine Or.inl ⟨rfl, ?_⟩
            intro W hSw
            obtain ⟨q0, q1, q2, q3, p0⟩ := hSw
            go_simp
            try with_reducible rfl
          case hS12p => assumption
          try simp only [Act.put, List.setIfInBounds_toArray, List.set_cons_zero, List.set_cons_succ]
          refine wpAnyH_take (i := 13) (oi := ?oi13p) (v := ?v13p) ?hi13p ?hs13p ?hf13p ?hr13p ?hQ13p ?hy13p ?hS13p ?h13p
          case hi13p => exact (by simp only [List.getElem?_toArray, List.getElem?_cons_succ, List.getElem?_cons_zero]; rfl)
          case hs13p => kernel_rfl
          case hf13p => kernel_rfl
          case hr13p => kernel_rfl
          case hQ13p => exact fun _ _ _ h => h
          case hy13p =>
            refine Or.inl ⟨rfl, ?_⟩
            intro W hSw
            obtain ⟨q0, q1, q2, q3, p0⟩ := hSw
            go_simp
            try with_reducible rfl
          case hS13p => assumption
          try simp only [Act.put, List.setIfInBounds_toArray, List.set_cons_zero, List.set_cons_succ]
          refine wpAnyH_take (i := 14) (oi := ?oi14p) (v := ?v14p) ?hi14p ?hs14p ?hf14p ?hr14p ?hQ14p ?hy14p ?hS14p ?h14p
          case hi14p => exact (by simp only [List.getElem?_toArray, List.getElem?_cons_succ, List.getElem?_cons_zero]; rfl)
          case hs14p => kernel_rfl
          case hf14p => kernel_rfl
          case hr14p => kernel_rfl
          case hQ14p => exact fun _ _ _ h => h
          case hy14p =>
            refine Or.inl ⟨rfl, ?_⟩
            intro W hSw
            obtain ⟨q0, q1, q2, q3, p0⟩ := hSw
            go_simp
            try with_reducible rfl
          case hS14p => assumption
          try simp only [Act.put, List.setIfInBounds_toArray, List.set_cons_zero, List.set_cons_succ]
          refine wpAnyH_take (i := 15) (oi := ?oi15p) (v := (.bool false)) ?hi15p ?hs15p ?hf15p ?hr15p ?hQ15p ?hy15p ?hS15p ?h15p
          case hi15p => exact (by simp only [List.getElem?_toArray, List.getElem?_cons_succ, List.getElem?_cons_zero]; rfl)
          case hs15p => kernel_rfl
          case hf15p => kernel_rfl
          case hr15p => kernel_rfl
          case hQ15p => exact fun _ _ _ h => h
          case hy15p =>
            refine Or.inl ⟨rfl, ?_⟩
            intro W hSw
            obtain ⟨q0, q1, q2, q3, p0⟩ := hSw
            go_simp
            try simp
            try omega
          case hS15p => assumption
          try simp only [Act.put, List.setIfInBounds_toArray, List.set_cons_zero, List.set_cons_succ]
          refine wpAnyH_take (i := 16) (oi := ?oi16p) (v := ?v16p) ?hi16p ?hs16p ?hf16p ?hr16p ?hQ16p ?hy16p ?hS16p ?h16p
          case hi16p => exact (by simp only [List.getElem?_toArray, List.getElem?_cons_succ, List.getElem?_cons_zero]; rfl)
          case hs16p => kernel_rfl
          case hf16p => kernel_rfl
          case hr16p => kernel_rfl
          case hQ16p => exact fun _ _ _ h => h
          case hy16p =>
            refine Or.inl ⟨rfl, ?_⟩
            intro W hSw
            obtain ⟨q0, q1, q2, q3, p0⟩ := hSw
            go_simp
            try with_reducible rfl
          case hS16p => assumption
          try simp only [Act.put, List.setIfInBounds_toArray, List.set_cons_zero, List.set_cons_succ]
          refine wpAnyH_take (i := 17) (oi := ?oi17p) (v := ?v17p) ?hi17p ?hs17p ?hf17p ?hr17p ?hQ17p ?hy17p ?hS17p ?h17p
          case hi17p => exact (by simp only [List.getElem?_toArray, List.getElem?_cons_succ, List.getElem?_cons_zero]; rfl)
          case hs17p => kernel_rfl
          case hf17p => kernel_rfl
          case hr17p => kernel_rfl
          case hQ17p => exact fun _ _ _ h => h
          case hy17p =>
            refine Or.inl ⟨rfl, ?_⟩
            intro W hSw
            obtain ⟨q0, q1, q2, q3, p0⟩ := hSw
            go_simp
            try with_reducible rfl
          case hS17p => assumption
          try simp only [Act.put, List.setIfInBounds_toArray, List.set_cons_zero, List.set_cons_succ]
          refine wpAnyH_take (i := 18) (oi := ?oi18p) (v := ?v18p) ?hi18p ?hs18p ?hf18p ?hr18p ?hQ18p ?hy18p ?hS18p ?h18p
          case hi18p => exact (by simp only [List.getElem?_toArray, List.getElem?_cons_succ, List.getElem?_cons_zero]; rfl)
          case hs18p => kernel_rfl
          case hf18p => kernel_rfl
          case hr18p => kernel_rfl
          case hQ18p => exact fun _ _ _ h => h
          case hy18p =>
            refine Or.inl ⟨rfl, ?_⟩
            intro W hSw
            obtain ⟨q0, q1, q2, q3, p0⟩ := hSw
            go_simp
            try with_reducible rfl
          case hS18p => assumption
          try simp only [Act.put, List.setIfInBounds_toArray, List.set_cons_zero, List.set_cons_succ]
          refine wpAnyH_take (i := 19) (oi := ?oi19p) (v := ?v19p) ?hi19p ?hs19p ?hf19p ?hr19p ?hQ19p ?hy19p ?hS19p ?h19p
          case hi19p => exact (by simp only [List.getElem?_toArray, List.getElem?_cons_succ, List.getElem?_cons_zero]; rfl)
          case hs19p => kernel_rfl
          case hf19p => kernel_rfl
          case hr19p => kernel_rfl
          case hQ19p => exact fun _ _ _ h => h
          case hy19p =>
            refine Or.inl ⟨rfl, ?_⟩
            intro W hSw
            obtain ⟨q0, q1, q2, q3, p0⟩ := hSw
            go_simp
            try with_reducible rfl
          case hS19p => assumption
          try simp only [Act.put, List.setIfInBounds_toArray, List.set_cons_zero, List.set_cons_succ]
          refine wpAnyH_take (i := 20) (oi := ?oi20p) (v := ?v20p) ?hi20p ?hs20p ?hf20p ?hr20p ?hQ20p ?hy20p ?hS20p ?h20p
          case hi20p => exact (by simp only [List.getElem?_toArray, List.getElem?_cons_succ, List.getElem?_cons_zero]; rfl)
          case hs20p => kernel_rfl
          case hf20p => kernel_rfl
          case hr20p => kernel_rfl
          case hQ20p => exact fun _ _ _ h => h
          case hy20p =>
            refine Or.inl ⟨rfl, ?_⟩
            intro W hSw
            obtain ⟨q0, q1, q2, q3, p0⟩ := hSw
            go_simp
            try with_reducible rfl
          case hS20p => assumption
          try simp only [Act.put, List.setIfInBounds_toArray, List.set_cons_zero, List.set_cons_succ]
          refine wpAnyH_take (i := 21) (oi := ?oi21p) (v := ?v21p) ?hi21p ?hs21p ?hf21p ?hr21p ?hQ21p ?hy21p ?hS21p ?h21p
          case hi21p => exact (by simp only [List.getElem?_toArray, List.getElem?_cons_succ, List.getElem?_cons_zero]; rfl)
          case hs21p => kernel_rfl
          case hf21p => kernel_rfl
          case hr21p => kernel_rfl
          case hQ21p => exact fun _ _ _ h => h
          case hy21p =>
            refine Or.inl ⟨rfl, ?_⟩
            intro W hSw
            obtain ⟨q0, q1, q2, q3, p0⟩ := hSw
            go_simp
            try with_reducible rfl
          case hS21p => assumption
          try simp only [Act.put, List.setIfInBounds_toArray, List.set_cons_zero, List.set_cons_succ]
          refine wpAnyH_take (i := 22) (oi := ?oi22p) (v := ?v22p) ?hi22p ?hs22p ?hf22p ?hr22p ?hQ22p ?hy22p ?hS22p ?h22p
          case hi22p => exact (by simp only [List.getElem?_toArray, List.getElem?_cons_succ, List.getElem?_cons_zero]; rfl)
          case hs22p => kernel_rfl
          case hf22p => kernel_rfl
          case hr22p => kernel_rfl
          case hQ22p => exact fun _ _ _ h => h
          case hy22p =>
            refine Or.inl ⟨rfl, ?_⟩
            intro W hSw
            obtain ⟨q0, q1, q2, q3, p0⟩ := hSw
            go_simp
            try with_reducible rfl
          case hS22p => assumption
          try simp only [Act.put, List.setIfInBounds_toArray, List.set_cons_zero, List.set_cons_succ]
          refine wpAnyH_take (i := 23) (oi := ?oi23p) (v := ?v23p) ?hi23p ?hs23p ?hf23p ?hr23p ?hQ23p ?hy23p ?hS23p ?h23p
          case hi23p => exact (by simp only [List.getElem?_toArray, List.getElem?_cons_succ, List.getElem?_cons_zero]; rfl)
          case hs23p => kernel_rfl
          case hf23p => kernel_rfl
          case hr23p => kernel_rfl
          case hQ23p => exact fun _ _ _ h => h
          case hy23p =>
            refine Or.inl ⟨rfl, ?_⟩
            intro W hSw
            obtain ⟨q0, q1, q2, q3, p0⟩ := hSw
            go_simp
            try with_reducible rfl
          case hS23p => assumption
          try simp only [Act.put, List.setIfInBounds_toArray, List.set_cons_zero, List.set_cons_succ]
          refine wpAnyH_take (i := 24) (oi := ?oi24p) (v := (.int .i64 ((mn2 : Int) + (v.n : Int)))) ?hi24p ?hs24p ?hf24p ?hr24p ?hQ24p ?hy24p ?hS24p ?h24p
          case hi24p => exact (by simp only [List.getElem?_toArray, List.getElem?_cons_succ, List.getElem?_cons_zero]; rfl)
          case hs24p => kernel_rfl
          case hf24p => kernel_rfl
          case hr24p => kernel_rfl
          case hQ24p => exact fun _ _ _ h => h
          case hy24p =>
            refine Or.inl ⟨rfl, ?_⟩
            intro W hSw
            obtain ⟨q0, q1, q2, q3, p0⟩ := hSw
            go_simp
            first
              | exact HWR.out
              | (rw [HWR.out]; done)
              | (simp only [HWR.out]; done)
              | simp [HWR.out]
          case hS24p => assumption
          try simp only [Act.put, List.setIfInBounds_toArray, List.set_cons_zero, List.set_cons_succ]
          refine wpAnyH_take (i := 25) (oi := ?oi25p) (v := (.bool false)) ?hi25p ?hs25p ?hf25p ?hr25p ?hQ25p ?hy25p ?hS25p ?h25p
          case hi25p => exact (by simp only [List.getElem?_toArray, List.getElem?_cons_succ, List.getElem?_cons_zero]; rfl)
          case hs25p => kernel_rfl
          case hf25p => kernel_rfl
          case hr25p => kernel_rfl
          case hQ25p => exact fun _ _ _ h => h
          case hy25p =>
            refine Or.inl ⟨rfl, ?_⟩
            intro W hSw
            obtain ⟨q0, q1, q2, q3, p0⟩ := hSw
            go_simp
            try simp
            try omega
          case hS25p => assumption
          try simp only [Act.put, List.setIfInBounds_toArray, List.set_cons_zero, List.set_cons_succ]
          refine wpAnyH_take (i := 26) (oi := ?oi26p) (v := ?v26p) ?hi26p ?hs26p ?hf26p ?hr26p ?hQ26p ?hy26p ?hS26p ?h26p
          case hi26p => exact (by simp only [List.getElem?_toArray, List.getElem?_cons_succ, List.getElem?_cons_zero]; rfl)
          case hs26p => kernel_rfl
          case hf26p => kernel_rfl
          case hr26p => kernel_rfl
          case hQ26p => exact fun _ _ _ h => h
          case hy26p =>
            refine Or.inl ⟨rfl, ?_⟩
            intro W hSw
            obtain ⟨q0, q1, q2, q3, p0⟩ := hSw
            go_simp
            try with_reducible rfl
          case hS26p => assumption
          try simp only [Act.put, List.setIfInBounds_toArray, List.set_cons_zero, List.set_cons_succ]
          refine wpAnyH_take (i := 27) (oi := ?oi27p) (v := ?v27p) ?hi27p ?hs27p ?hf27p ?hr27p ?hQ27p ?hy27p ?hS27p ?h27p
          case hi27p => exact (by simp only [List.getElem?_toArray, List.getElem?_cons_succ, List.getElem?_cons_zero]; rfl)
          case hs27p => kernel_rfl
          case hf27p => kernel_rfl
          case hr27p => kernel_rfl
          case hQ27p => exact fun _ _ _ h => h
          case hy27p =>
            refine Or.inl ⟨rfl, ?_⟩
            intro W hSw
            obtain ⟨q0, q1, q2, q3, p0⟩ := hSw
            go_simp
            try with_reducible rfl
          case hS27p => assumption
          try simp only [Act.put, List.setIfInBounds_toArray, List.set_cons_zero, List.set_cons_succ]
          refine wpAnyH_take (i := 28) (oi := ?oi28p) (v := ?v28p) ?hi28p ?hs28p ?hf28p ?hr28p ?hQ28p ?hy28p ?hS28p ?h28p
          case hi28p => exact (by simp only [List.getElem?_toArray, List.getElem?_cons_succ, List.getElem?_cons_zero]; rfl)
          case hs28p => kernel_rfl
          case hf28p => kernel_rfl
          case hr28p => kernel_rfl
          case hQ28p => exact fun _ _ _ h => h
          case hy28p =>
            refine Or.inl ⟨rfl, ?_⟩
            intro W hSw
            obtain ⟨q0, q1, q2, q3, p0⟩ := hSw
            go_simp
            try with_reducible rfl
          case hS28p => assumption
          try simp only [Act.put, List.setIfInBounds_toArray, List.set_cons_zero, List.set_cons_succ]
          refine wpAnyH_take (i := 29) (oi := ?oi29p) (v := ?v29p) ?hi29p ?hs29p ?hf29p ?hr29p ?hQ29p ?hy29p ?hS29p ?h29p
          case hi29p => exact (by simp only [List.getElem?_toArray, List.getElem?_cons_succ, List.getElem?_cons_zero]; rfl)
          case hs29p => kernel_rfl
          case hf29p => kernel_rfl
          case hr29p => kernel_rfl
          case hQ29p => exact fun _ _ _ h => h
          case hy29p =>
            refine Or.inl ⟨rfl, ?_⟩
            intro W hSw
            obtain ⟨q0, q1, q2, q3, p0⟩ := hSw
            go_simp
            try with_reducible rfl
          case hS29p => assumption
          try simp only [Act.put, List.setIfInBounds_toArray, List.set_cons_zero, List.set_cons_succ]
          refine wpAnyH_take (i := 30) (oi := ?oi30p) (v := ?v30p) ?hi30p ?hs30p ?hf30p ?hr30p ?hQ30p ?hy30p ?hS30p ?h30p
          case hi30p => exact (by simp only [List.getElem?_toArray, List.getElem?_cons_succ, List.getElem?_cons_zero]; rfl)
          case hs30p => kernel_rfl
          case hf30p => kernel_rfl
          case hr30p => kernel_rfl
          case hQ30p => exact fun _ _ _ h => h
          case hy30p =>
            refine Or.inl ⟨rfl, ?_⟩
            intro W hSw
            obtain ⟨q0, q1, q2, q3, p0⟩ := hSw
            go_simp
            try with_reducible rfl
          case hS30p => assumption
          try simp only [Act.put, List.setIfInBounds_toArray, List.set_cons_zero, List.set_cons_succ]
          refine wpAnyH_take (i := 31) (oi := ?oi31p) (v := ?v31p) ?hi31p ?hs31p ?hf31p ?hr31p ?hQ31p ?hy31p ?hS31p ?h31p
          case hi31p => exact (by simp only [List.getElem?_toArray, List.getElem?_cons_succ, List.getElem?_cons_zero]; rfl)
          case hs31p => kernel_rfl
          case hf31p => kernel_rfl
          case hr31p => kernel_rfl
          case hQ31p => exact fun _ _ _ h => h
          case hy31p =>
            refine Or.inl ⟨rfl, ?_⟩
            intro W hSw
            obtain ⟨q0, q1, q2, q3, p0⟩ := hSw
            go_simp
            try with_reducible rfl
          case hS31p => assumption
          try simp only [Act.put, List.setIfInBounds_toArray, List.set_cons_zero, List.set_cons_succ]
          refine wpAnyH_take (i := 32) (oi := ?oi32p) (v := ?v32p) ?hi32p ?hs32p ?hf32p ?hr32p ?hQ32p ?hy32p ?hS32p ?h32p
          case hi32p => exact (by simp only [List.getElem?_toArray, List.getElem?_cons_succ, List.getElem?_cons_zero]; rfl)
          case hs32p => kernel_rfl
          case hf32p => kernel_rfl
          case hr32p => kernel_rfl
          case hQ32p => exact fun _ _ _ h => h
          case hy32p =>
            refine Or.inl ⟨rfl, ?_⟩
            intro W hSw
            obtain ⟨q0, q1, q2, q3, p0⟩ := hSw
            go_simp
            try with_reducible rfl
          case hS32p => assumption
          try simp only [Act.put, List.setIfInBounds_toArray, List.set_cons_zero, List.set_cons_succ]
          refine wpAnyH_take (i := 33) (oi := ?oi33p) (v := ?v33p) ?hi33p ?hs33p ?hf33p ?hr33p ?hQ33p ?hy33p ?hS33p ?h33p
          case hi33p => exact (by simp only [List.getElem?_toArray, List.getElem?_cons_succ, List.getElem?_cons_zero]; rfl)
          case hs33p => kernel_rfl
          case hf33p => kernel_rfl
          case hr33p => kernel_rfl
          case hQ33p => exact fun _ _ _ h => h
          case hy33p =>
            refine Or.inl ⟨rfl, ?_⟩
            intro W hSw
            obtain ⟨q0, q1, q2, q3, p0⟩ := hSw
            go_simp
            try with_reducible rfl
          case hS33p => assumption
          try simp only [Act.put, List.setIfInBounds_toArray, List.set_cons_zero, List.set_cons_succ]
          refine wpAnyH_take (i := 34) (oi := ?oi34p) (v := (.int .i64 ((mn2 : Int) + (v.n : Int)))) ?hi34p ?hs34p ?hf34p ?hr34p ?hQ34p ?hy34p ?hS34p ?h34p
          case hi34p => exact (by simp only [List.getElem?_toArray, List.getElem?_cons_succ, List.getElem?_cons_zero]; rfl)
          case hs34p => kernel_rfl
          case hf34p => kernel_rfl
          case hr34p => kernel_rfl
          case hQ34p => exact fun _ _ _ h => h
          case hy34p =>
            refine Or.inl ⟨rfl, ?_⟩
            intro W hSw
            obtain ⟨q0, q1, q2, q3, p0⟩ := hSw
            go_simp
            first
              | exact HWR.out
              | (rw [HWR.out]; done)
              | (simp only [HWR.out]; done)
              | simp [HWR.out]
          case hS34p => assumption
          try simp only [Act.put, List.setIfInBounds_toArray, List.set_cons_zero, List.set_cons_succ]
          refine wpAnyH_take (i := 35) (oi := ?oi35p) (v := (.bool false)) ?hi35p ?hs35p ?hf35p ?hr35p ?hQ35p ?hy35p ?hS35p ?h35p
          case hi35p => exact (by simp only [List.getElem?_toArray, List.getElem?_cons_succ, List.getElem?_cons_zero]; rfl)
          case hs35p => kernel_rfl
          case hf35p => kernel_rfl
          case hr35p => kernel_rfl
          case hQ35p => exact fun _ _ _ h => h
          case hy35p =>
            refine Or.inl ⟨rfl, ?_⟩
            intro W hSw
            obtain ⟨q0, q1, q2, q3, p0⟩ := hSw
            go_simp
            try simp
            try omega
          case hS35p => assumption
          try simp only [Act.put, List.setIfInBounds_toArray, List.set_cons_zero, List.set_cons_succ]
          refine wpAnyH_take (i := 36) (oi := ?oi36p) (v := ?v36p) ?hi36p ?hs36p ?hf36p ?hr36p ?hQ36p ?hy36p ?hS36p ?h36p
          case hi36p => exact (by simp only [List.getElem?_toArray, List.getElem?_cons_succ, List.getElem?_cons_zero]; rfl)
          case hs36p => kernel_rfl
          case hf36p => kernel_rfl
          case hr36p => kernel_rfl
          case hQ36p => exact fun _ _ _ h => h
          case hy36p =>
            refine Or.inl ⟨rfl, ?_⟩
            intro W hSw
            obtain ⟨q0, q1, q2, q3, p0⟩ := hSw
            go_simp
            try with_reducible rfl
          case hS36p => assumption
          try simp only [Act.put, List.setIfInBounds_toArray, List.set_cons_zero, List.set_cons_succ]
          refine wpAnyH_take (i := 37) (oi := ?oi37p) (v := ?v37p) ?hi37p ?hs37p ?hf37p ?hr37p ?hQ37p ?hy37p ?hS37p ?h37p
          case hi37p => exact (by simp only [List.getElem?_toArray, List.getElem?_cons_succ, List.getElem?_cons_zero]; rfl)
          case hs37p => kernel_rfl
          case hf37p => kernel_rfl
          case hr37p => kernel_rfl
          case hQ37p => exact fun _ _ _ h => h
          case hy37p =>
            refine Or.inl ⟨rfl, ?_⟩
            intro W hSw
            obtain ⟨q0, q1, q2, q3, p0⟩ := hSw
            go_simp
            try with_reducible rfl
          case hS37p => assumption
          try simp only [Act.put, List.setIfInBounds_toArray, List.set_cons_zero, List.set_cons_succ]
          refine wpAnyH_take (i := 38) (oi := ?oi38p) (v := ?v38p) ?hi38p ?hs38p ?hf38p ?hr38p ?hQ38p ?hy38p ?hS38p ?h38p
          case hi38p => exact (by simp only [List.getElem?_toArray, List.getElem?_cons_succ, List.getElem?_cons_zero]; rfl)
          case hs38p => kernel_rfl
          case hf38p => kernel_rfl
          case hr38p => kernel_rfl
          case hQ38p => exact fun _ _ _ h => h
          case hy38p =>
            refine Or.inl ⟨rfl, ?_⟩
            intro W hSw
            obtain ⟨q0, q1, q2, q3, p0⟩ := hSw
            go_simp
            try with_reducible rfl
          case hS38p => assumption
          try simp only [Act.put, List.setIfInBounds_toArray, List.set_cons_zero, List.set_cons_succ]
          refine wpAnyH_take (i := 39) (oi := ?oi39p) (v := ?v39p) ?hi39p ?hs39p ?hf39p ?hr39p ?hQ39p ?hy39p ?hS39p ?h39p
          case hi39p => exact (by simp only [List.getElem?_toArray, List.getElem?_cons_succ, List.getElem?_cons_zero]; rfl)
          case hs39p => kernel_rfl
          case hf39p => kernel_rfl
          case hr39p => kernel_rfl
          case hQ39p => exact fun _ _ _ h => h
          case hy39p =>
            refine Or.inl ⟨rfl, ?_⟩
            intro W hSw
            obtain ⟨q0, q1, q2, q3, p0⟩ := hSw
            go_simp
            try with_reducible rfl
          case hS39p => assumption
          try simp only [Act.put, List.setIfInBounds_toArray, List.set_cons_zero, List.set_cons_succ]
          refine wpAnyH_take (i := 40) (oi := ?oi40p) (v := ?v40p) ?hi40p ?hs40p ?hf40p ?hr40p ?hQ40p ?hy40p ?hS40p ?h40p
          case hi40p => exact (by simp only [List.getElem?_toArray, List.getElem?_cons_succ, List.getElem?_cons_zero]; rfl)
          case hs40p => kernel_rfl
          case hf40p => kernel_rfl
          case hr40p => kernel_rfl
          case hQ40p => exact fun _ _ _ h => h
          case hy40p =>
            refine Or.inl ⟨rfl, ?_⟩
            intro W hSw
            obtain ⟨q0, q1, q2, q3, p0⟩ := hSw
            go_simp
            try with_reducible rfl
          case hS40p => assumption
          try simp only [Act.put, List.setIfInBounds_toArray, List.set_cons_zero, List.set_cons_succ]
          refine wpAnyH_take (i := 41) (oi := ?oi41p) (v := ?v41p) ?hi41p ?hs41p ?hf41p ?hr41p ?hQ41p ?hy41p ?hS41p ?h41p
          case hi41p => exact (by simp only [List.getElem?_toArray, List.getElem?_cons_succ, List.getElem?_cons_zero]; rfl)
          case hs41p => kernel_rfl
          case hf41p => kernel_rfl
          case hr41p => kernel_rfl
          case hQ41p => exact fun _ _ _ h => h
          case hy41p =>
            refine Or.inl ⟨rfl, ?_⟩
            intro W hSw
            obtain ⟨q0, q1, q2, q3, p0⟩ := hSw
            go_simp
            try with_reducible rfl
          case hS41p => assumption
          try simp only [Act.put, List.setIfInBounds_toArray, List.set_cons_zero, List.set_cons_succ]
          refine wpAnyH_ready (rs := [42]) (by kernel_rfl) (by simp) ?_
          refine AllReadyH.cons (o := _) rfl (fun K hK => ?_) AllReadyH.nil
          go_simp
          refine ((HHL.out Wp0 HDp.out)).mono ?_
          rintro r Wp1 ⟨rfl, hbq⟩
          have HBp1 := Lib.hid (HDp.out.trans (hbq.mono HDp.out.size))
          clear hbq
          refine hK.out _ _ (HCE.out _ (HBp1.out)) (fun hHeld => ?_)
          clear hK K
          try simp only [Act.put, List.setIfInBounds_toArray, List.set_cons_zero, List.set_cons_succ]
          refine wpAnyH_take (i := 43) (oi := ?oi43p) (v := (.bool false)) ?hi43p ?hs43p ?hf43p ?hr43p ?hQ43p ?hy43p ?hS43p ?h43p
          case hi43p => exact (by simp only [List.getElem?_toArray, List.getElem?_cons_succ, List.getElem?_cons_zero]; rfl)
          case hs43p => kernel_rfl
          case hf43p => kernel_rfl
          case hr43p => kernel_rfl
          case hQ43p => exact fun _ _ _ h => h
          case hy43p =>
            refine Or.inl ⟨rfl, ?_⟩
            intro W hSw
            obtain ⟨q0, q1, q2, q3, p0⟩ := hSw
            go_simp
            try simp
          case hS43p => assumption
          try simp only [Act.put, List.setIfInBounds_toArray, List.set_cons_zero, List.set_cons_succ]
          refine wpAnyH_take (i := 44) (oi := ?oi44p) (v := ?v44p) ?hi44p ?hs44p ?hf44p ?hr44p ?hQ44p ?hy44p ?hS44p ?h44p
          case hi44p => exact (by simp only [List.getElem?_toArray, List.getElem?_cons_succ, List.getElem?_cons_zero]; rfl)
          case hs44p => kernel_rfl
          case hf44p => kernel_rfl
          case hr44p => kernel_rfl
          case hQ44p => exact fun _ _ _ h => h
          case hy44p =>
            refine Or.inl ⟨rfl, ?_⟩
            intro W hSw
            obtain ⟨q0, q1, q2, q3, p0⟩ := hSw
            go_simp
            try with_reducible rfl
          case hS44p => assumption
          try simp only [Act.put, List.setIfInBounds_toArray, List.set_cons_zero, List.set_cons_succ]
          refine wpAnyH_done (by kernel_rfl) ?_ _
          have HT15 := Lib.hid (HT6.out.below HBp1.out)
          have z := (HCE.out _ HBp1.out).2.2.1
          clear hi1 hi2 hi3
          go_wp2_with fail
          go_loopw [7, 11] (fun mv jv wr => ∃ (j mn mc : Nat) (ma : Option Addr), j ≤ mn2 ∧ jv = .int .i64 (j : Int) ∧ mv = .slice ma mn mc ∧ Hid (T3 w3 w6 wc.heap.size ma mn mc (metL L k ++ g.mem.take j) wr)) (fun _ jv _ => mn2 - (intOf jv).toNat)
          case atStart => exact ⟨0, mn, mc, ma, by omega, rfl, rfl, HT15.out⟩
          case round =>
            clear z
            obtain ⟨j, mn, mc, ma, hj, rfl, rfl, HT⟩ := hrel
            have hrow := (HT.out.2.2.1 G HGL.out (lt_of_block HQG.out)).trans HQG.out
            have z := cell_of_row wr G 2 _ _ _ hrow
            simp at z
            by_cases hltj : j < mn2
            · obtain ⟨y, hy⟩ : ∃ y, g.mem[j]? = some y := ⟨g.mem[j]'(by rw [← HMN.out]; exact hltj), List.getElem?_eq_getElem _⟩
              have hom := HOM.out.blk HT.out.2.2.1
              have hov := HOV.out.blk HT.out.2.2.1
              obtain ⟨b2, e1, -, ⟨cur, e3⟩, e4⟩ := hom.2 (by have := HMN.out; omega)
              simp only at e1
              subst e1
              have hyc := e4 j y hy
              rw [Nat.zero_add] at hyc
              have hyg := List.mem_of_getElem? hy
              have hmn : mn ≤ 1000 := by
                have q1 := (Rn.of_own HT.out.1).1
                rw [List.length_append, List.length_take] at q1
                have q2 := HLM.out k
                omega
              have HMT : Hid (∀ W, Below wr.heap.size wr W → Calls Try.prog 20 #[.slice ma mn mc, .int .u32 (y : Int)] W fun r w' => r = .returned (.bool false) ∧ Below W.heap.size W w') := fun W hW => by
                have hr := Rn.of_own (HT.out.below hW).1
                have hh := has_any ma mn mc _ y W hr.1 hr.2 hmn
                rw [decide_eq_false (not_met HIN.out.1 HY.out hy)] at hh
                exact hh.mono fun r w' q => ⟨q.1, by rw [q.2]; exact Below.refl _ _⟩
              have HIV : Hid (∀ W, Below wr.heap.size wr W → Calls Try.prog 20 #[.slice v.a v.n v.c, .int .u32 (y : Int)] W fun r w' => r = .returned (.bool false) ∧ Below W.heap.size W w') := fun W hW => by
                have hh := has_any v.a v.n v.c g.inv y W hov.1 (hov.after hW).rn (by omega)
                rw [decide_eq_false (HK.out.dis y hyg)] at hh
                exact hh.mono fun r w' q => ⟨q.1, by rw [q.2]; exact Below.refl _ _⟩
              have HOF : Hid (∀ W, Below wr.heap.size wr W → Calls Try.prog 15 #[bp B, .int .u32 (y : Int)] W fun r w' => r = .returned (.int .u32 (x : Int)) ∧ Below W.heap.size W w') := fun W hW => by
                have hh := HOFA.out W (HT.out.2.1.trans (hW.mono HT.out.2.1.size)) y
                rw [of_mem HIN.out.1 (List.mem_of_getElem? HY.out) hyg, ← HX.out] at hh
                exact hh
              have HCS : Hid (∀ W : World, Below wr.heap.size wr W → (fun W : World => W.cell? ⟨G, 2, none⟩ = some (.slice (some ⟨b2, 0, none⟩) mn2 mc2) ∧ W.cell? ⟨G, 3, none⟩ = some (.slice v.a v.n v.c) ∧ W.cell? ⟨b, o + k, none⟩ = some (.int .u32 (x : Int)) ∧ W.cell? ⟨b2, j, none⟩ = some (.int .u32 (y : Int))) W) := fun W hW => by
                have hr := (hW.block _ (lt_of_block hrow)).trans hrow
                exact ⟨cell_of_row W G 2 _ _ _ hr, cell_of_row W G 3 _ _ _ hr, HC0.out W (HT.out.2.1.trans (hW.mono HT.out.2.1.size)), (hW.cell (p := ⟨b2, _, none⟩) (lt_of_block e3)).trans hyc⟩
              have HBR : Hid (Below wr.heap.size wr wr) := Below.refl _ _
              have HTK : Hid (metL L k ++ g.mem.take (j + 1) = (metL L k ++ g.mem.take j) ++ [y]) := by
                simp only [Hid]
                rw [List.take_add_one, hy, List.append_assoc]
                rfl
              clear hy hom hov e3 e4 hyc hyg hrow
              go_upto_region 20 with (fail)
              clear z
              have HDs : Hid (Below wr.heap.size wr wr.drew) := HBR.out.drew
              refine wp_region_held_drew (S := fun W : World => W.cell? ⟨G, 2, none⟩ = some (.slice (some ⟨b2, 0, none⟩) mn2 mc2) ∧ W.cell? ⟨G, 3, none⟩ = some (.slice v.a v.n v.c) ∧ W.cell? ⟨b, o + k, none⟩ = some (.int .u32 (x : Int)) ∧ W.cell? ⟨b2, j, none⟩ = some (.int .u32 (y : Int))) (by kernel_rfl) (HCS.out _ (HDs.out)) (fun hHeld => ?_)
              obtain ⟨Ws0, hW0⟩ : ∃ W0, W0 = wr.drew := ⟨_, rfl⟩
              rw [← hW0] at hHeld HDs ⊢
              clear hW0
              refine wpAnyH_take (i := 0) (oi := ?oi0s) (v := ?v0s) ?hi0s ?hs0s ?hf0s ?hr0s ?hQ0s ?hy0s ?hS0s ?h0s
              case hi0s => exact (by simp only [List.getElem?_toArray, List.getElem?_cons_zero]; rfl)
              case hs0s => kernel_rfl
              case hf0s => kernel_rfl
              case hr0s => kernel_rfl
              case hQ0s => exact fun _ _ _ h => h
              case hy0s =>
                refine Or.inl ⟨rfl, ?_⟩
                intro W hSw
                obtain ⟨q2, q3, p0, p1⟩ := hSw
                go_simp
                try with_reducible rfl
              case hS0s => assumption
              try simp only [Act.put, List.setIfInBounds_toArray, List.set_cons_zero, List.set_cons_succ]
              refine wpAnyH_take (i := 1) (oi := ?oi1s) (v := ?v1s) ?hi1s ?hs1s ?hf1s ?hr1s ?hQ1s ?hy1s ?hS1s ?h1s
              case hi1s => exact (by simp only [List.getElem?_toArray, List.getElem?_cons_succ, List.getElem?_cons_zero]; rfl)
              case hs1s => kernel_rfl
              case hf1s => kernel_rfl
              case hr1s => kernel_rfl
              case hQ1s => exact fun _ _ _ h => h
              case hy1s =>
                refine Or.inl ⟨rfl, ?_⟩
                intro W hSw
                obtain ⟨q2, q3, p0, p1⟩ := hSw
                go_simp
                try with_reducible rfl
              case hS1s => assumption
              try simp only [Act.put, List.setIfInBounds_toArray, List.set_cons_zero, List.set_cons_succ]
              refine wpAnyH_take (i := 2) (oi := ?oi2s) (v := ?v2s) ?hi2s ?hs2s ?hf2s ?hr2s ?hQ2s ?hy2s ?hS2s ?h2s
              case hi2s => exact (by simp only [List.getElem?_toArray, List.getElem?_cons_succ, List.getElem?_cons_zero]; rfl)
              case hs2s => kernel_rfl
              case hf2s => kernel_rfl
              case hr2s => kernel_rfl
              case hQ2s => exact fun _ _ _ h => h
              case hy2s =>
                refine Or.inl ⟨rfl, ?_⟩
                intro W hSw
                obtain ⟨q2, q3, p0, p1⟩ := hSw
                go_simp
                try with_reducible rfl
              case hS2s => assumption
              try simp only [Act.put, List.setIfInBounds_toArray, List.set_cons_zero, List.set_cons_succ]
              refine wpAnyH_take (i := 3) (oi := ?oi3s) (v := ?v3s) ?hi3s ?hs3s ?hf3s ?hr3s ?hQ3s ?hy3s ?hS3s ?h3s
              case hi3s => exact (by simp only [List.getElem?_toArray, List.getElem?_cons_succ, List.getElem?_cons_zero]; rfl)
              case hs3s => kernel_rfl
              case hf3s => kernel_rfl
              case hr3s => kernel_rfl
              case hQ3s => exact fun _ _ _ h => h
              case hy3s =>
                refine Or.inl ⟨rfl, ?_⟩
                intro W hSw
                obtain ⟨q2, q3, p0, p1⟩ := hSw
                go_simp
                try with_reducible rfl
              case hS3s => assumption
              try simp only [Act.put, List.setIfInBounds_toArray, List.set_cons_zero, List.set_cons_succ]
              refine wpAnyH_take (i := 4) (oi := ?oi4s) (v := ?v4s) ?hi4s ?hs4s ?hf4s ?hr4s ?hQ4s ?hy4s ?hS4s ?h4s
              case hi4s => exact (by simp only [List.getElem?_toArray, List.getElem?_cons_succ, List.getElem?_cons_zero]; rfl)
              case hs4s => kernel_rfl
              case hf4s => kernel_rfl
              case hr4s => kernel_rfl
              case hQ4s => exact fun _ _ _ h => h
              case hy4s =>
                refine Or.inl ⟨rfl, ?_⟩
                intro W hSw
                obtain ⟨q2, q3, p0, p1⟩ := hSw
                go_simp
                try with_reducible rfl
              case hS4s => assumption
              try simp only [Act.put, List.setIfInBounds_toArray, List.set_cons_zero, List.set_cons_succ]
              refine wpAnyH_take (i := 5) (oi := ?oi5s) (v := ?v5s) ?hi5s ?hs5s ?hf5s ?hr5s ?hQ5s ?hy5s ?hS5s ?h5s
              case hi5s => exact (by simp only [List.getElem?_toArray, List.getElem?_cons_succ, List.getElem?_cons_zero]; rfl)
              case hs5s => kernel_rfl
              case hf5s => kernel_rfl
              case hr5s => kernel_rfl
              case hQ5s => exact fun _ _ _ h => h
              case hy5s =>
                refine Or.inl ⟨rfl, ?_⟩
                intro W hSw
                obtain ⟨q2, q3, p0, p1⟩ := hSw
                go_simp
                try with_reducible rfl
              case hS5s => assumption
              try simp only [Act.put, List.setIfInBounds_toArray, List.set_cons_zero, List.set_cons_succ]
              refine wpAnyH_ready (rs := [6]) (by kernel_rfl) (by simp) ?_
              refine AllReadyH.cons (o := _) rfl (fun K hK => ?_) AllReadyH.nil
              go_simp
              refine ((HMT.out Ws0 HDs.out)).mono ?_
              rintro r Ws1 ⟨rfl, hbq⟩
              have HBs1 := Lib.hid (HDs.out.trans (hbq.mono HDs.out.size))
              clear hbq
              refine hK.out _ _ (HCS.out _ (HBs1.out)) (fun hHeld => ?_)
              clear hK K
              try simp only [Act.put, List.setIfInBounds_toArray, List.set_cons_zero, List.set_cons_succ]
              refine wpAnyH_take (i := 7) (oi := ?oi7s) (v := ?v7s) ?hi7s ?hs7s ?hf7s ?hr7s ?hQ7s ?hy7s ?hS7s ?h7s
              case hi7s => exact (by simp only [List.getElem?_toArray, List.getElem?_cons_succ, List.getElem?_cons_zero]; rfl)
              case hs7s => kernel_rfl
              case hf7s => kernel_rfl
              case hr7s => kernel_rfl
              case hQ7s => exact fun _ _ _ h => h
              case hy7s =>
                refine Or.inl ⟨rfl, ?_⟩
                intro W hSw
                obtain ⟨q2, q3, p0, p1⟩ := hSw
                go_simp
                try with_reducible rfl
              case hS7s => assumption
              try simp only [Act.put, List.setIfInBounds_toArray, List.set_cons_zero, List.set_cons_succ]
              refine wpAnyH_take (i := 8) (oi := ?oi8s) (v := ?v8s) ?hi8s ?hs8s ?hf8s ?hr8s ?hQ8s ?hy8s ?hS8s ?h8s
              case hi8s => exact (by simp only [List.getElem?_toArray, List.getElem?_cons_succ, List.getElem?_cons_zero]; rfl)
              case hs8s => kernel_rfl
              case hf8s => kernel_rfl
              case hr8s => kernel_rfl
              case hQ8s => exact fun _ _ _ h => h
              case hy8s =>
                refine Or.inl ⟨rfl, ?_⟩
                intro W hSw
                obtain ⟨q2, q3, p0, p1⟩ := hSw
                go_simp
                try with_reducible rfl
              case hS8s => assumption
              try simp only [Act.put, List.setIfInBounds_toArray, List.set_cons_zero, List.set_cons_succ]
              refine wpAnyH_take (i := 9) (oi := ?oi9s) (v := ?v9s) ?hi9s ?hs9s ?hf9s ?hr9s ?hQ9s ?hy9s ?hS9s ?h9s
              case hi9s => exact (by simp only [List.getElem?_toArray, List.getElem?_cons_succ, List.getElem?_cons_zero]; rfl)
              case hs9s => kernel_rfl
              case hf9s => kernel_rfl
              case hr9s => kernel_rfl
              case hQ9s => exact fun _ _ _ h => h
              case hy9s =>
                refine Or.inl ⟨rfl, ?_⟩
                intro W hSw
                obtain ⟨q2, q3, p0, p1⟩ := hSw
                go_simp
                try with_reducible rfl
              case hS9s => assumption
              try simp only [Act.put, List.setIfInBounds_toArray, List.set_cons_zero, List.set_cons_succ]
              refine wpAnyH_take (i := 10) (oi := ?oi10s) (v := ?v10s) ?hi10s ?hs10s ?hf10s ?hr10s ?hQ10s ?hy10s ?hS10s ?h10s
              case hi10s => exact (by simp only [List.getElem?_toArray, List.getElem?_cons_succ, List.getElem?_cons_zero]; rfl)
              case hs10s => kernel_rfl
              case hf10s => kernel_rfl
              case hr10s => kernel_rfl
              case hQ10s => exact fun _ _ _ h => h
              case hy10s =>
                refine Or.inl ⟨rfl, ?_⟩
                intro W hSw
                obtain ⟨q2, q3, p0, p1⟩ := hSw
                go_simp
                try with_reducible rfl
              case hS10s => assumption
              try simp only [Act.put, List.setIfInBounds_toArray, List.set_cons_zero, List.set_cons_succ]
              refine wpAnyH_take (i := 11) (oi := ?oi11s) (v := ?v11s) ?hi11s ?hs11s ?hf11s ?hr11s ?hQ11s ?hy11s ?hS11s ?h11s
              case hi11s => exact (by simp only [List.getElem?_toArray, List.getElem?_cons_succ, List.getElem?_cons_zero]; rfl)
              case hs11s => kernel_rfl
              case hf11s => kernel_rfl
              case hr11s => kernel_rfl
              case hQ11s => exact fun _ _ _ h => h
              case hy11s =>
                refine Or.inl ⟨rfl, ?_⟩
                intro W hSw
                obtain ⟨q2, q3, p0, p1⟩ := hSw
                go_simp
                try with_reducible rfl
              case hS11s => assumption
              try simp only [Act.put, List.setIfInBounds_toArray, List.set_cons_zero, List.set_cons_succ]
              refine wpAnyH_take (i := 12) (oi := ?oi12s) (v := ?v12s) ?hi12s ?hs12s ?hf12s ?hr12s ?hQ12s ?hy12s ?hS12s ?h12s
              case hi12s => exact (by simp only [List.getElem?_toArray, List.getElem?_cons_succ, List.getElem?_cons_zero]; rfl)
              case hs12s => kernel_rfl
              case hf12s => kernel_rfl
              case hr12s => kernel_rfl
              case hQ12s => exact fun _ _ _ h => h
              case hy12s =>
                refine Or.inl ⟨rfl, ?_⟩
                intro W hSw
                obtain ⟨q2, q3, p0, p1⟩ := hSw
                go_simp
                try with_reducible rfl
              case hS12s => assumption
              try simp only [Act.put, List.setIfInBounds_toArray, List.set_cons_zero, List.set_cons_succ]
              refine wpAnyH_take (i := 13) (oi := ?oi13s) (v := ?v13s) ?hi13s ?hs13s ?hf13s ?hr13s ?hQ13s ?hy13s ?hS13s ?h13s
              case hi13s => exact (by simp only [List.getElem?_toArray, List.getElem?_cons_succ, List.getElem?_cons_zero]; rfl)
              case hs13s => kernel_rfl
              case hf13s => kernel_rfl
              case hr13s => kernel_rfl
              case hQ13s => exact fun _ _ _ h => h
              case hy13s =>
                refine Or.inl ⟨rfl, ?_⟩
                intro W hSw
                obtain ⟨q2, q3, p0, p1⟩ := hSw
                go_simp
                try with_reducible rfl
              case hS13s => assumption
              try simp only [Act.put, List.setIfInBounds_toArray, List.set_cons_zero, List.set_cons_succ]
              refine wpAnyH_take (i := 14) (oi := ?oi14s) (v := ?v14s) ?hi14s ?hs14s ?hf14s ?hr14s ?hQ14s ?hy14s ?hS14s ?h14s
              case hi14s => exact (by simp only [List.getElem?_toArray, List.getElem?_cons_succ, List.getElem?_cons_zero]; rfl)
              case hs14s => kernel_rfl
              case hf14s => kernel_rfl
              case hr14s => kernel_rfl
              case hQ14s => exact fun _ _ _ h => h
              case hy14s =>
                refine Or.inl ⟨rfl, ?_⟩
                intro W hSw
                obtain ⟨q2, q3, p0, p1⟩ := hSw
                go_simp
                try with_reducible rfl
              case hS14s => assumption
              try simp only [Act.put, List.setIfInBounds_toArray, List.set_cons_zero, List.set_cons_succ]
              refine wpAnyH_ready (rs := [15]) (by kernel_rfl) (by simp) ?_
              refine AllReadyH.cons (o := _) rfl (fun K hK => ?_) AllReadyH.nil
              go_simp
              refine ((HIV.out Ws1 HBs1.out)).mono ?_
              rintro r Ws2 ⟨rfl, hbq⟩
              have HBs2 := Lib.hid (HBs1.out.trans (hbq.mono HBs1.out.size))
              clear hbq
              refine hK.out _ _ (HCS.out _ (HBs2.out)) (fun hHeld => ?_)
              clear hK K
              try simp only [Act.put, List.setIfInBounds_toArray, List.set_cons_zero, List.set_cons_succ]
              refine wpAnyH_take (i := 16) (oi := ?oi16s) (v := ?v16s) ?hi16s ?hs16s ?hf16s ?hr16s ?hQ16s ?hy16s ?hS16s ?h16s
              case hi16s => exact (by simp only [List.getElem?_toArray, List.getElem?_cons_succ, List.getElem?_cons_zero]; rfl)
              case hs16s => kernel_rfl
              case hf16s => kernel_rfl
              case hr16s => kernel_rfl
              case hQ16s => exact fun _ _ _ h => h
              case hy16s =>
                refine Or.inl ⟨rfl, ?_⟩
                intro W hSw
                obtain ⟨q2, q3, p0, p1⟩ := hSw
                go_simp
                try with_reducible rfl
              case hS16s => assumption
              try simp only [Act.put, List.setIfInBounds_toArray, List.set_cons_zero, List.set_cons_succ]
              refine wpAnyH_take (i := 17) (oi := ?oi17s) (v := ?v17s) ?hi17s ?hs17s ?hf17s ?hr17s ?hQ17s ?hy17s ?hS17s ?h17s
              case hi17s => exact (by simp only [List.getElem?_toArray, List.getElem?_cons_succ, List.getElem?_cons_zero]; rfl)
              case hs17s => kernel_rfl
              case hf17s => kernel_rfl
              case hr17s => kernel_rfl
              case hQ17s => exact fun _ _ _ h => h
              case hy17s =>
                refine Or.inl ⟨rfl, ?_⟩
                intro W hSw
                obtain ⟨q2, q3, p0, p1⟩ := hSw
                go_simp
                try with_reducible rfl
              case hS17s => assumption
              try simp only [Act.put, List.setIfInBounds_toArray, List.set_cons_zero, List.set_cons_succ]
              refine wpAnyH_take (i := 18) (oi := ?oi18s) (v := ?v18s) ?hi18s ?hs18s ?hf18s ?hr18s ?hQ18s ?hy18s ?hS18s ?h18s
              case hi18s => exact (by simp only [List.getElem?_toArray, List.getElem?_cons_succ, List.getElem?_cons_zero]; rfl)
              case hs18s => kernel_rfl
              case hf18s => kernel_rfl
              case hr18s => kernel_rfl
              case hQ18s => exact fun _ _ _ h => h
              case hy18s =>
                refine Or.inl ⟨rfl, ?_⟩
                intro W hSw
                obtain ⟨q2, q3, p0, p1⟩ := hSw
                go_simp
                try with_reducible rfl
              case hS18s => assumption
              try simp only [Act.put, List.setIfInBounds_toArray, List.set_cons_zero, List.set_cons_succ]
              refine wpAnyH_take (i := 19) (oi := ?oi19s) (v := ?v19s) ?hi19s ?hs19s ?hf19s ?hr19s ?hQ19s ?hy19s ?hS19s ?h19s
              case hi19s => exact (by simp only [List.getElem?_toArray, List.getElem?_cons_succ, List.getElem?_cons_zero]; rfl)
              case hs19s => kernel_rfl
              case hf19s => kernel_rfl
              case hr19s => kernel_rfl
              case hQ19s => exact fun _ _ _ h => h
              case hy19s =>
                refine Or.inl ⟨rfl, ?_⟩
                intro W hSw
                obtain ⟨q2, q3, p0, p1⟩ := hSw
                go_simp
                try with_reducible rfl
              case hS19s => assumption
              try simp only [Act.put, List.setIfInBounds_toArray, List.set_cons_zero, List.set_cons_succ]
              refine wpAnyH_take (i := 20) (oi := ?oi20s) (v := ?v20s) ?hi20s ?hs20s ?hf20s ?hr20s ?hQ20s ?hy20s ?hS20s ?h20s
              case hi20s => exact (by simp only [List.getElem?_toArray, List.getElem?_cons_succ, List.getElem?_cons_zero]; rfl)
              case hs20s => kernel_rfl
              case hf20s => kernel_rfl
              case hr20s => kernel_rfl
              case hQ20s => exact fun _ _ _ h => h
              case hy20s =>
                refine Or.inl ⟨rfl, ?_⟩
                intro W hSw
                obtain ⟨q2, q3, p0, p1⟩ := hSw
                go_simp
                try with_reducible rfl
              case hS20s => assumption
              try simp only [Act.put, List.setIfInBounds_toArray, List.set_cons_zero, List.set_cons_succ]
              refine wpAnyH_take (i := 21) (oi := ?oi21s) (v := ?v21s) ?hi21s ?hs21s ?hf21s ?hr21s ?hQ21s ?hy21s ?hS21s ?h21s
              case hi21s => exact (by simp only [List.getElem?_toArray, List.getElem?_cons_succ, List.getElem?_cons_zero]; rfl)
              case hs21s => kernel_rfl
              case hf21s => kernel_rfl
              case hr21s => kernel_rfl
              case hQ21s => exact fun _ _ _ h => h
              case hy21s =>
                refine Or.inl ⟨rfl, ?_⟩
                intro W hSw
                obtain ⟨q2, q3, p0, p1⟩ := hSw
                go_simp
                try with_reducible rfl
              case hS21s => assumption
              try simp only [Act.put, List.setIfInBounds_toArray, List.set_cons_zero, List.set_cons_succ]
              refine wpAnyH_take (i := 22) (oi := ?oi22s) (v := ?v22s) ?hi22s ?hs22s ?hf22s ?hr22s ?hQ22s ?hy22s ?hS22s ?h22s
              case hi22s => exact (by simp only [List.getElem?_toArray, List.getElem?_cons_succ, List.getElem?_cons_zero]; rfl)
              case hs22s => kernel_rfl
              case hf22s => kernel_rfl
              case hr22s => kernel_rfl
              case hQ22s => exact fun _ _ _ h => h
              case hy22s =>
                refine Or.inl ⟨rfl, ?_⟩
                intro W hSw
                obtain ⟨q2, q3, p0, p1⟩ := hSw
                go_simp
                try with_reducible rfl
              case hS22s => assumption
              try simp only [Act.put, List.setIfInBounds_toArray, List.set_cons_zero, List.set_cons_succ]
              refine wpAnyH_take (i := 23) (oi := ?oi23s) (v := ?v23s) ?hi23s ?hs23s ?hf23s ?hr23s ?hQ23s ?hy23s ?hS23s ?h23s
              case hi23s => exact (by simp only [List.getElem?_toArray, List.getElem?_cons_succ, List.getElem?_cons_zero]; rfl)
              case hs23s => kernel_rfl
              case hf23s => kernel_rfl
              case hr23s => kernel_rfl
              case hQ23s => exact fun _ _ _ h => h
              case hy23s =>
                refine Or.inl ⟨rfl, ?_⟩
                intro W hSw
                obtain ⟨q2, q3, p0, p1⟩ := hSw
                go_simp
                try with_reducible rfl
              case hS23s => assumption
              try simp only [Act.put, List.setIfInBounds_toArray, List.set_cons_zero, List.set_cons_succ]
              refine wpAnyH_take (i := 25) (oi := ?oi25s) (v := ?v25s) ?hi25s ?hs25s ?hf25s ?hr25s ?hQ25s ?hy25s ?hS25s ?h25s
              case hi25s => exact (by simp only [List.getElem?_toArray, List.getElem?_cons_succ, List.getElem?_cons_zero]; rfl)
              case hs25s => kernel_rfl
              case hf25s => kernel_rfl
              case hr25s => kernel_rfl
              case hQ25s => exact fun _ _ _ h => h
              case hy25s =>
                refine Or.inl ⟨rfl, ?_⟩
                intro W hSw
                obtain ⟨q2, q3, p0, p1⟩ := hSw
                go_simp
                try with_reducible rfl
              case hS25s => assumption
              try simp only [Act.put, List.setIfInBounds_toArray, List.set_cons_zero, List.set_cons_succ]
              refine wpAnyH_take (i := 26) (oi := ?oi26s) (v := ?v26s) ?hi26s ?hs26s ?hf26s ?hr26s ?hQ26s ?hy26s ?hS26s ?h26s
              case hi26s => exact (by simp only [List.getElem?_toArray, List.getElem?_cons_succ, List.getElem?_cons_zero]; rfl)
              case hs26s => kernel_rfl
              case hf26s => kernel_rfl
              case hr26s => kernel_rfl
              case hQ26s => exact fun _ _ _ h => h
              case hy26s =>
                refine Or.inl ⟨rfl, ?_⟩
                intro W hSw
                obtain ⟨q2, q3, p0, p1⟩ := hSw
                go_simp
                try with_reducible rfl
              case hS26s => assumption
              try simp only [Act.put, List.setIfInBounds_toArray, List.set_cons_zero, List.set_cons_succ]
              refine wpAnyH_take (i := 27) (oi := ?oi27s) (v := ?v27s) ?hi27s ?hs27s ?hf27s ?hr27s ?hQ27s ?hy27s ?hS27s ?h27s
              case hi27s => exact (by simp only [List.getElem?_toArray, List.getElem?_cons_succ, List.getElem?_cons_zero]; rfl)
              case hs27s => kernel_rfl
              case hf27s => kernel_rfl
              case hr27s => kernel_rfl
              case hQ27s => exact fun _ _ _ h => h
              case hy27s =>
                refine Or.inl ⟨rfl, ?_⟩
                intro W hSw
                obtain ⟨q2, q3, p0, p1⟩ := hSw
                go_simp
                try with_reducible rfl
              case hS27s => assumption
              try simp only [Act.put, List.setIfInBounds_toArray, List.set_cons_zero, List.set_cons_succ]
              refine wpAnyH_take (i := 28) (oi := ?oi28s) (v := ?v28s) ?hi28s ?hs28s ?hf28s ?hr28s ?hQ28s ?hy28s ?hS28s ?h28s
              case hi28s => exact (by simp only [List.getElem?_toArray, List.getElem?_cons_succ, List.getElem?_cons_zero]; rfl)
              case hs28s => kernel_rfl
              case hf28s => kernel_rfl
              case hr28s => kernel_rfl
              case hQ28s => exact fun _ _ _ h => h
              case hy28s =>
                refine Or.inl ⟨rfl, ?_⟩
                intro W hSw
                obtain ⟨q2, q3, p0, p1⟩ := hSw
                go_simp
                try with_reducible rfl
              case hS28s => assumption
              try simp only [Act.put, List.setIfInBounds_toArray, List.set_cons_zero, List.set_cons_succ]
              refine wpAnyH_ready (rs := [24]) (by kernel_rfl) (by simp) ?_
              refine AllReadyH.cons (o := _) rfl (fun K hK => ?_) AllReadyH.nil
              go_simp
              refine ((HOF.out Ws2 HBs2.out)).mono ?_
              rintro r Ws3 ⟨rfl, hbq⟩
              have HBs3 := Lib.hid (HBs2.out.trans (hbq.mono HBs2.out.size))
              clear hbq
              refine hK.out _ _ (HCS.out _ (HBs3.out)) (fun hHeld => ?_)
              clear hK K
              try simp only [Act.put, List.setIfInBounds_toArray, List.set_cons_zero, List.set_cons_succ]
              refine wpAnyH_take (i := 29) (oi := ?oi29s) (v := (.bool false)) ?hi29s ?hs29s ?hf29s ?hr29s ?hQ29s ?hy29s ?hS29s ?h29s
              case hi29s => exact (by simp only [List.getElem?_toArray, List.getElem?_cons_succ, List.getElem?_cons_zero]; rfl)
              case hs29s => kernel_rfl
              case hf29s => kernel_rfl
              case hr29s => kernel_rfl
              case hQ29s => exact fun _ _ _ h => h
              case hy29s =>
                refine Or.inl ⟨rfl, ?_⟩
                intro W hSw
                obtain ⟨q2, q3, p0, p1⟩ := hSw
                go_simp
                try simp
              case hS29s => assumption
              try simp only [Act.put, List.setIfInBounds_toArray, List.set_cons_zero, List.set_cons_succ]
              refine wpAnyH_take (i := 30) (oi := ?oi30s) (v := ?v30s) ?hi30s ?hs30s ?hf30s ?hr30s ?hQ30s ?hy30s ?hS30s ?h30s
              case hi30s => exact (by simp only [List.getElem?_toArray, List.getElem?_cons_succ, List.getElem?_cons_zero]; rfl)
              case hs30s => kernel_rfl
              case hf30s => kernel_rfl
              case hr30s => kernel_rfl
              case hQ30s => exact fun _ _ _ h => h
              case hy30s =>
                refine Or.inl ⟨rfl, ?_⟩
                intro W hSw
                obtain ⟨q2, q3, p0, p1⟩ := hSw
                go_simp
                try with_reducible rfl
              case hS30s => assumption
              try simp only [Act.put, List.setIfInBounds_toArray, List.set_cons_zero, List.set_cons_succ]
              refine wpAnyH_done (by kernel_rfl) ?_ _
              have HTz := Lib.hid (HT.out.below HBs3.out)
              obtain ⟨z2, z3, z4, z5⟩ := HCS.out _ HBs3.out
              go_wp2_with (at_builtin; refine wpList_append_u32_at rfl _ _ rfl w3.heap.size Ws3.heap.size (.slice ma mn mc) mn _ y rfl rfl (HTz.out.1.alloc _) (heap_alloc_new _ _) (by omega) (by have := HTz.out.2.1.size; simp; omega) ?_; intro v7 w7 hown7 hg7 h87; obtain ⟨A8, c8, rfl⟩ := own_form1 hown7; have HT7 := Lib.hid (T3.app HTz.out hown7 hg7 h87); clear hown7 hg7 h87)
              go_roundw
              case rel => exact ⟨j + 1, mn + 1, c8, A8, by omega, by go_num, rfl, by rw [HTK.out]; exact HT7.out⟩
              case measure => simp [intOf] <;> omega
            · have hjn : mn2 = j := by omega
              subst hjn
              have HOX : Hid (wr.ownsRow w3.heap.size 26 1 (.slice ma mn mc) mn (un (metL L (k + 1))) ∧ Below w3.heap.size w3 wr) := ⟨by
                rw [metL_snoc HY.out]
                have h := HT.out.1
                rw [List.take_of_length_le (by rw [HMN.out]; exact Nat.le_refl _)] at h
                exact h, HT.out.2.1⟩
              clear hrow
              go_wp2_with fail
              go_roundw
              case rel => exact ⟨k + 1, mn, mc, ma, by omega, by go_num, rfl, HOX.out⟩
              case measure => simp [intOf] <;> omega
        · have hkn : n3 = k := by omega
          subst hkn
          have HPO : Hid (PO w B L wr) := ⟨vi2, HBK3.out.after HO.out.2, HIN.out.1, by have := HIN.out.2; omega, HB3.out.trans (HO.out.2.mono HB3.out.size)⟩
          go_wp2_with fail
          go_roundw
          case rel => exact ⟨k0 + 1, L, by omega, by go_num, HPO.out⟩
          case measure => simp [intOf] <;> omega
    · have hkn : n0 = k0 := by omega
      subst hkn
      have HBF : Hid (Below w.heap.size w wr) := by
        obtain ⟨vi, h1, h2, h3, h4⟩ := HM.out
        exact h4
      go_wp2_with fail
      refine (HAW.out wr).mono ?_
      rintro r w9 ⟨rfl, hb⟩
      have HB9 := Lib.hid (HBF.out.trans (hb.mono HBF.out.size))
      clear hb
      go_wp2
      go_ret
      exact ⟨rfl, HB9.out⟩
end Go.Proofs.Ytjlpmdokmfmdiaa.P
