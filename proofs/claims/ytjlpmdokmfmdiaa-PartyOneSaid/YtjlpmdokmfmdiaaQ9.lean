/- Party: who leads. -/
import Derived.Test.YtjlpmdokmfmdiaaQ8
namespace Go.Proofs.Ytjlpmdokmfmdiaa.P
open Go.RowKit
set_option maxRecDepth 20000
set_option linter.unusedVariables false
set_option linter.unusedSimpArgs false

/-- What is wrong with what a player, as a leader, wants of another one. -/
def ledC (L : List Pt) (a p : Nat) : Nat := match getP L (ofP L a) with
  | none => 12
  | some g => if g.ld ≠ a then 18 else if a = p then 16 else 0
set_option maxHeartbeats 4000000 in
theorem led_12 (B R : Nat) (most : Int) (vi : Value) (L : List Pt) (a p : Nat) (w : World) (h : Bk w B R most vi L) (hI : Inv L) (hl : L.length ≤ 100) (hg : getP L (ofP L a) = none) :
    Calls Try.prog 76 #[bp B, .int .u32 (a : Int), .int .u32 (p : Int)] w fun r w' => r = .returned (.tuple #[.int .u32 0, .agg mZ, .int .i64 12]) ∧ Below w.heap.size w w' := by
  obtain ⟨w0, hw0⟩ : ∃ w0, w0 = w.alloc (.cells (mZ) 112) := ⟨_, rfl⟩
  have hb0 : Below w.heap.size w w0 := by rw [hw0]; exact (Below.refl _ _).alloc (Nat.le_refl _) _
  have hq0 : w0.heap[w.heap.size]? = some (.cells (mZ) 112 (0, 0)) := by rw [hw0]; exact heap_alloc_new w _
  have hbk := h.after hb0
  have H0 := Lib.hid hw0
  have HB0 := Lib.hid hb0
  have HQ0 := Lib.hid hq0
  have HBK := Lib.hid hbk
  have HOF := Lib.hid (of_any B R most vi L a w0 hbk hl (fun e he => by have := (hI.each e he).four; omega))
  have HI := Lib.hid hI
  have HL := Lib.hid hl
  obtain ⟨z, hz⟩ : ∃ z, z = ofP L a := ⟨_, rfl⟩
  rw [← hz] at HOF
  have HZ := Lib.hid hz
  clear hw0 hb0 hq0 hbk h hI hl hz
  go_enter Try.func76, Try.ntmps76
  go_upto_region 1 with (fail)
  rw [← H0.out]
  go_wp2_with fail
  refine HOF.out.mono ?_
  rintro r w1 ⟨rfl, hb1⟩
  have HG := Lib.hid (at_none B R most vi L z w1 (HBK.out.after hb1) HL.out (by rw [HZ.out]; exact hg))
  clear hg
  go_wp2_with fail
  refine HG.out.mono ?_
  rintro r w2 ⟨rfl, hb2⟩
  obtain ⟨G, hG⟩ : ∃ G, G = w2.heap.size := ⟨_, rfl⟩
  obtain ⟨w3, hw3⟩ : ∃ W, W = w2.alloc (.cells #[.int .u32 0, .slice none 0 0, .slice none 0 0] 112) := ⟨_, rfl⟩
  have hq : w3.heap[G]? = some (.cells #[.int .u32 0, .slice none 0 0, .slice none 0 0] 112 (0, 0)) := by rw [hw3, hG]; exact heap_alloc_new w2 _
  have hb3 : Below w2.heap.size w2 w3 := by rw [hw3]; exact (Below.refl _ _).alloc (Nat.le_refl _) _
  have hq1 := (hb3.block _ (Nat.lt_of_lt_of_le (lt_of_block HQ0.out) (Nat.le_trans hb1.size hb2.size))).trans ((hb2.block _ (Nat.lt_of_lt_of_le (lt_of_block HQ0.out) hb1.size)).trans ((hb1.block _ (lt_of_block HQ0.out)).trans HQ0.out))
  have HB3 : Hid (Below w.heap.size w w3) := HB0.out.trans ((hb1.trans ((hb2.trans (hb3.mono hb2.size)).mono hb1.size)).mono HB0.out.size)
  have y0 := cell_of_row _ w.heap.size 0 _ _ _ hq1
  have y1' := cell_of_row _ w.heap.size 1 _ _ _ hq1
  have y2' := cell_of_row _ w.heap.size 2 _ _ _ hq1
  have z0 := cell_of_row _ G 0 _ _ _ hq
  simp at y0 y1' y2' z0
  have yf : ∀ i, w3.frozen? ⟨w.heap.size, i, none⟩ = false := fun i => frozen_of_row _ _ i _ _ hq1
  have HT := Lib.hid (three (.int .u32 0) (.slice none 0 0) (.slice none 0 0) hq1)
  have HTB := Lib.hid (three_below (.int .u32 0) (.slice none 0 0) (.slice none 0 0) HB3.out (Nat.le_refl w.heap.size))
  have H3 := Lib.hid hw3
  have HGG := Lib.hid hG
  clear hq hq1 hb1 hb2 hb3 hw3 hG
  go_upto_region 3 with (fail)
  rw [← H3.out, ← HGG.out]
  go_wp2
  obtain ⟨e0, e1, e2, _⟩ := HT.out
  exact bodyPost_ret (v := .tuple #[.int .u32 0, .agg mZ, .int .i64 12]) (by simp [results, Try.results76, go_sem, e0, e1, e2]) rfl ⟨rfl, HTB.out⟩
set_option maxHeartbeats 4000000 in
theorem led_18 (B R : Nat) (most : Int) (vi : Value) (L : List Pt) (a p : Nat) (g : Pt) (w : World) (h : Bk w B R most vi L) (hI : Inv L) (hl : L.length ≤ 100) (hg : getP L (ofP L a) = some g) (hne : g.ld ≠ a) :
    Calls Try.prog 76 #[bp B, .int .u32 (a : Int), .int .u32 (p : Int)] w fun r w' => r = .returned (.tuple #[.int .u32 0, .agg mZ, .int .i64 18]) ∧ Below w.heap.size w w' := by
  skip
  obtain ⟨w0, hw0⟩ : ∃ w0, w0 = w.alloc (.cells (mZ) 112) := ⟨_, rfl⟩
  have hb0 : Below w.heap.size w w0 := by rw [hw0]; exact (Below.refl _ _).alloc (Nat.le_refl _) _
  have hq0 : w0.heap[w.heap.size]? = some (.cells (mZ) 112 (0, 0)) := by rw [hw0]; exact heap_alloc_new w _
  have hbk := h.after hb0
  have H0 := Lib.hid hw0
  have HB0 := Lib.hid hb0
  have HQ0 := Lib.hid hq0
  have HBK := Lib.hid hbk
  have HNE := Lib.hid hne
  clear hne
  have HOF := Lib.hid (of_any B R most vi L a w0 hbk hl (fun e he => by have := (hI.each e he).four; omega))
  have HI := Lib.hid hI
  have HL := Lib.hid hl
  obtain ⟨z, hz⟩ : ∃ z, z = ofP L a := ⟨_, rfl⟩
  rw [← hz] at HOF
  have HZ := Lib.hid hz
  clear hw0 hb0 hq0 hbk h hI hl hz
  go_enter Try.func76, Try.ntmps76
  go_upto_region 1 with (fail)
  rw [← H0.out]
  go_wp2_with fail
  refine HOF.out.mono ?_
  rintro r w1 ⟨rfl, hb1⟩
  have HG := Lib.hid (at_some B R most vi L z g w1 (HBK.out.after hb1) HL.out (by rw [HZ.out]; exact hg))
  clear hg
  go_wp2_with fail
  refine HG.out.mono ?_
  rintro r w2 ⟨y1, y2, y3, rfl, f1, f2, f3, hb2⟩

  obtain ⟨G, hG⟩ : ∃ G, G = w2.heap.size := ⟨_, rfl⟩
  obtain ⟨w3, hw3⟩ : ∃ W, W = w2.alloc (.cells #[.int .u32 (y1 : Int), .slice y2.a y2.n y2.c, .slice y3.a y3.n y3.c] 112) := ⟨_, rfl⟩
  have hq : w3.heap[G]? = some (.cells #[.int .u32 (y1 : Int), .slice y2.a y2.n y2.c, .slice y3.a y3.n y3.c] 112 (0, 0)) := by rw [hw3, hG]; exact heap_alloc_new w2 _
  have hb3 : Below w2.heap.size w2 w3 := by rw [hw3]; exact (Below.refl _ _).alloc (Nat.le_refl _) _
  have hq1 := (hb3.block _ (Nat.lt_of_lt_of_le (lt_of_block HQ0.out) (Nat.le_trans hb1.size hb2.size))).trans ((hb2.block _ (Nat.lt_of_lt_of_le (lt_of_block HQ0.out) hb1.size)).trans ((hb1.block _ (lt_of_block HQ0.out)).trans HQ0.out))
  have HB3 : Hid (Below w.heap.size w w3) := HB0.out.trans ((hb1.trans ((hb2.trans (hb3.mono hb2.size)).mono hb1.size)).mono HB0.out.size)
  have y0 := cell_of_row _ w.heap.size 0 _ _ _ hq1
  have y1' := cell_of_row _ w.heap.size 1 _ _ _ hq1
  have y2' := cell_of_row _ w.heap.size 2 _ _ _ hq1
  have z0 := cell_of_row _ G 0 _ _ _ hq
  simp at y0 y1' y2' z0
  have yf : ∀ i, w3.frozen? ⟨w.heap.size, i, none⟩ = false := fun i => frozen_of_row _ _ i _ _ hq1
  have HT := Lib.hid (three (.int .u32 0) (.slice none 0 0) (.slice none 0 0) hq1)
  have HTB := Lib.hid (three_below (.int .u32 0) (.slice none 0 0) (.slice none 0 0) HB3.out (Nat.le_refl w.heap.size))
  have H3 := Lib.hid hw3
  have HGG := Lib.hid hG
  have hne' : ¬ ((y1 : Int) = (a : Int)) := by rw [f1]; have := HNE.out; omega
  clear f1 f2 f3
  clear hq hq1 hb1 hb2 hb3 hw3 hG
  go_upto_region 3 with (fail)
  rw [← H3.out, ← HGG.out]
  go_wp2
  obtain ⟨e0, e1, e2, _⟩ := HT.out
  exact bodyPost_ret (v := .tuple #[.int .u32 0, .agg mZ, .int .i64 18]) (by simp [results, Try.results76, go_sem, e0, e1, e2]) rfl ⟨rfl, HTB.out⟩
set_option maxHeartbeats 4000000 in
theorem led_16 (B R : Nat) (most : Int) (vi : Value) (L : List Pt) (a p : Nat) (g : Pt) (w : World) (h : Bk w B R most vi L) (hI : Inv L) (hl : L.length ≤ 100) (hg : getP L (ofP L a) = some g) (hne : g.ld = a) (hap : a = p) :
    Calls Try.prog 76 #[bp B, .int .u32 (a : Int), .int .u32 (p : Int)] w fun r w' => r = .returned (.tuple #[.int .u32 0, .agg mZ, .int .i64 16]) ∧ Below w.heap.size w w' := by
  subst hap
  obtain ⟨w0, hw0⟩ : ∃ w0, w0 = w.alloc (.cells (mZ) 112) := ⟨_, rfl⟩
  have hb0 : Below w.heap.size w w0 := by rw [hw0]; exact (Below.refl _ _).alloc (Nat.le_refl _) _
  have hq0 : w0.heap[w.heap.size]? = some (.cells (mZ) 112 (0, 0)) := by rw [hw0]; exact heap_alloc_new w _
  have hbk := h.after hb0
  have H0 := Lib.hid hw0
  have HB0 := Lib.hid hb0
  have HQ0 := Lib.hid hq0
  have HBK := Lib.hid hbk
  have HNE := Lib.hid hne
  clear hne
  have HOF := Lib.hid (of_any B R most vi L a w0 hbk hl (fun e he => by have := (hI.each e he).four; omega))
  have HI := Lib.hid hI
  have HL := Lib.hid hl
  obtain ⟨z, hz⟩ : ∃ z, z = ofP L a := ⟨_, rfl⟩
  rw [← hz] at HOF
  have HZ := Lib.hid hz
  clear hw0 hb0 hq0 hbk h hI hl hz
  go_enter Try.func76, Try.ntmps76
  go_upto_region 1 with (fail)
  rw [← H0.out]
  go_wp2_with fail
  refine HOF.out.mono ?_
  rintro r w1 ⟨rfl, hb1⟩
  have HG := Lib.hid (at_some B R most vi L z g w1 (HBK.out.after hb1) HL.out (by rw [HZ.out]; exact hg))
  clear hg
  go_wp2_with fail
  refine HG.out.mono ?_
  rintro r w2 ⟨y1, y2, y3, rfl, f1, f2, f3, hb2⟩
  obtain rfl : y1 = a := by rw [f1]; exact HNE.out
  obtain ⟨G, hG⟩ : ∃ G, G = w2.heap.size := ⟨_, rfl⟩
  obtain ⟨w3, hw3⟩ : ∃ W, W = w2.alloc (.cells #[.int .u32 (y1 : Int), .slice y2.a y2.n y2.c, .slice y3.a y3.n y3.c] 112) := ⟨_, rfl⟩
  have hq : w3.heap[G]? = some (.cells #[.int .u32 (y1 : Int), .slice y2.a y2.n y2.c, .slice y3.a y3.n y3.c] 112 (0, 0)) := by rw [hw3, hG]; exact heap_alloc_new w2 _
  have hb3 : Below w2.heap.size w2 w3 := by rw [hw3]; exact (Below.refl _ _).alloc (Nat.le_refl _) _
  have hq1 := (hb3.block _ (Nat.lt_of_lt_of_le (lt_of_block HQ0.out) (Nat.le_trans hb1.size hb2.size))).trans ((hb2.block _ (Nat.lt_of_lt_of_le (lt_of_block HQ0.out) hb1.size)).trans ((hb1.block _ (lt_of_block HQ0.out)).trans HQ0.out))
  have HB3 : Hid (Below w.heap.size w w3) := HB0.out.trans ((hb1.trans ((hb2.trans (hb3.mono hb2.size)).mono hb1.size)).mono HB0.out.size)
  have y0 := cell_of_row _ w.heap.size 0 _ _ _ hq1
  have y1' := cell_of_row _ w.heap.size 1 _ _ _ hq1
  have y2' := cell_of_row _ w.heap.size 2 _ _ _ hq1
  have z0 := cell_of_row _ G 0 _ _ _ hq
  simp at y0 y1' y2' z0
  have yf : ∀ i, w3.frozen? ⟨w.heap.size, i, none⟩ = false := fun i => frozen_of_row _ _ i _ _ hq1
  have HT := Lib.hid (three (.int .u32 0) (.slice none 0 0) (.slice none 0 0) hq1)
  have HTB := Lib.hid (three_below (.int .u32 0) (.slice none 0 0) (.slice none 0 0) HB3.out (Nat.le_refl w.heap.size))
  have H3 := Lib.hid hw3
  have HGG := Lib.hid hG
  clear f1 f2 f3
  clear hq hq1 hb1 hb2 hb3 hw3 hG
  go_upto_region 3 with (fail)
  rw [← H3.out, ← HGG.out]
  go_wp2
  obtain ⟨e0, e1, e2, _⟩ := HT.out
  exact bodyPost_ret (v := .tuple #[.int .u32 0, .agg mZ, .int .i64 16]) (by simp [results, Try.results76, go_sem, e0, e1, e2]) rfl ⟨rfl, HTB.out⟩
def LedP (R : Nat) (vi : Value) (g : Pt) (w : World) (r : Ending) (w' : World) : Prop := ∃ (y1 : Nat) (y2 y3 : Sl), r = .returned (.tuple #[.int .u32 (g.id : Int), mV y1 y2 y3, .int .i64 0]) ∧ y1 = g.ld ∧ Fl w' R vi y2 g.mem ∧ Fl w' R vi y3 g.inv ∧ Below w.heap.size w w'
set_option maxHeartbeats 4000000 in
theorem led_0 (B R : Nat) (most : Int) (vi : Value) (L : List Pt) (a p : Nat) (g : Pt) (w : World) (h : Bk w B R most vi L) (hI : Inv L) (hl : L.length ≤ 100) (hg : getP L (ofP L a) = some g) (hgi : ofP L a = g.id) (hne : g.ld = a) (hap : a ≠ p) :
    Calls Try.prog 76 #[bp B, .int .u32 (a : Int), .int .u32 (p : Int)] w fun r w' => LedP R vi g w r w' := by
  have hap' : ¬ ((a : Int) = (p : Int)) := by omega
  clear hap
  obtain ⟨w0, hw0⟩ : ∃ w0, w0 = w.alloc (.cells (mZ) 112) := ⟨_, rfl⟩
  have hb0 : Below w.heap.size w w0 := by rw [hw0]; exact (Below.refl _ _).alloc (Nat.le_refl _) _
  have hq0 : w0.heap[w.heap.size]? = some (.cells (mZ) 112 (0, 0)) := by rw [hw0]; exact heap_alloc_new w _
  have hbk := h.after hb0
  have H0 := Lib.hid hw0
  have HB0 := Lib.hid hb0
  have HQ0 := Lib.hid hq0
  have HBK := Lib.hid hbk
  have HNE := Lib.hid hne
  have HGI := Lib.hid hgi
  clear hne hgi
  have HOF := Lib.hid (of_any B R most vi L a w0 hbk hl (fun e he => by have := (hI.each e he).four; omega))
  have HI := Lib.hid hI
  have HL := Lib.hid hl
  obtain ⟨z, hz⟩ : ∃ z, z = ofP L a := ⟨_, rfl⟩
  rw [← hz] at HOF
  have HZ := Lib.hid hz
  clear hw0 hb0 hq0 hbk h hI hl hz
  go_enter Try.func76, Try.ntmps76
  go_upto_region 1 with (fail)
  rw [← H0.out]
  go_wp2_with fail
  refine HOF.out.mono ?_
  rintro r w1 ⟨rfl, hb1⟩
  have HG := Lib.hid (at_some B R most vi L z g w1 (HBK.out.after hb1) HL.out (by rw [HZ.out]; exact hg))
  clear hg
  go_wp2_with fail
  refine HG.out.mono ?_
  rintro r w2 ⟨y1, y2, y3, rfl, f1, f2, f3, hb2⟩
  obtain rfl : y1 = a := by rw [f1]; exact HNE.out
  obtain ⟨G, hG⟩ : ∃ G, G = w2.heap.size := ⟨_, rfl⟩
  obtain ⟨w3, hw3⟩ : ∃ W, W = w2.alloc (.cells #[.int .u32 (y1 : Int), .slice y2.a y2.n y2.c, .slice y3.a y3.n y3.c] 112) := ⟨_, rfl⟩
  have hq : w3.heap[G]? = some (.cells #[.int .u32 (y1 : Int), .slice y2.a y2.n y2.c, .slice y3.a y3.n y3.c] 112 (0, 0)) := by rw [hw3, hG]; exact heap_alloc_new w2 _
  have hb3 : Below w2.heap.size w2 w3 := by rw [hw3]; exact (Below.refl _ _).alloc (Nat.le_refl _) _
  have hq1 := (hb3.block _ (Nat.lt_of_lt_of_le (lt_of_block HQ0.out) (Nat.le_trans hb1.size hb2.size))).trans ((hb2.block _ (Nat.lt_of_lt_of_le (lt_of_block HQ0.out) hb1.size)).trans ((hb1.block _ (lt_of_block HQ0.out)).trans HQ0.out))
  have HB2 : Hid (Below w.heap.size w w3) := HB0.out.trans ((hb1.trans ((hb2.trans (hb3.mono hb2.size)).mono hb1.size)).mono HB0.out.size)
  have HS : Hid (∀ W : World, W.heap[G]? = some (.cells #[.int .u32 (y1 : Int), .slice y2.a y2.n y2.c, .slice y3.a y3.n y3.c] 112 (0, 0)) → (fun W : World => W.cell? ⟨G, 0, none⟩ = some (.int .u32 (y1 : Int)) ∧ W.cell? ⟨G, 1, none⟩ = some (.slice y2.a y2.n y2.c) ∧ W.cell? ⟨G, 2, none⟩ = some (.slice y3.a y3.n y3.c)) W) := fun W hW => ⟨cell_of_row W G 0 _ _ _ hW, cell_of_row W G 1 _ _ _ hW, cell_of_row W G 2 _ _ _ hW⟩
  have HGR : Hid (∀ W, Below w3.heap.size w3 W → W.heap[G]? = some (.cells #[.int .u32 (y1 : Int), .slice y2.a y2.n y2.c, .slice y3.a y3.n y3.c] 112 (0, 0))) := fun W hW => (hW.block _ (lt_of_block hq)).trans hq
  have HQR : Hid (∀ W, Below w3.heap.size w3 W → W.heap[w.heap.size]? = some (.cells (mZ) 112 (0, 0))) := fun W hW => (hW.block _ (lt_of_block hq1)).trans hq1
  have HGN : Hid (G ≠ w.heap.size) := by have h1 := lt_of_block HQ0.out; have h2 := hb1.size; have h3 := hb2.size; simp only [Hid]; omega
  have HBB : Hid (Below w3.heap.size w3 w3) := Below.refl _ _
  have HF2 : Hid (y1 = g.ld ∧ Fl w3 R vi y2 g.mem ∧ Fl w3 R vi y3 g.inv) := ⟨f1, f2.after hb3, f3.after hb3⟩
  have z0 := cell_of_row _ G 0 _ _ _ hq
  simp at z0
  have H3 := Lib.hid hw3
  have HGG := Lib.hid hG
  have HZG : Hid (z = g.id) := HZ.out.trans HGI.out
  clear hq hq1 hb1 hb2 hb3 hw3 hG f1 f2 f3
  go_upto_region 3 with (fail)
  rw [← H3.out, ← HGG.out]
  go_upto_region 9 with (fail)
  have HDk : Hid (Below w3.heap.size w3 w3.drew) := HBB.out.drew
  refine wp_region_held_drew (S := fun W : World => W.cell? ⟨G, 0, none⟩ = some (.int .u32 (y1 : Int)) ∧ W.cell? ⟨G, 1, none⟩ = some (.slice y2.a y2.n y2.c) ∧ W.cell? ⟨G, 2, none⟩ = some (.slice y3.a y3.n y3.c)) (by kernel_rfl) (HS.out _ (HGR.out _ (HDk.out))) (fun hHeld => ?_)
  obtain ⟨Wk0, hW0⟩ : ∃ W0, W0 = w3.drew := ⟨_, rfl⟩
  rw [← hW0] at hHeld HDk ⊢
  clear hW0
  refine wpAnyH_take (i := 0) (oi := ?oi0k) (v := ?v0k) ?hi0k ?hs0k ?hf0k ?hr0k ?hQ0k ?hy0k ?hS0k ?h0k
  case hi0k => exact (by simp only [List.getElem?_toArray, List.getElem?_cons_zero]; rfl)
  case hs0k => kernel_rfl
  case hf0k => kernel_rfl
  case hr0k => kernel_rfl
  case hQ0k => exact fun _ _ _ h => h
  case hy0k =>
    refine Or.inl ⟨rfl, ?_⟩
    intro W hSw
    obtain ⟨q0, q1, q2⟩ := hSw
    go_simp
    try with_reducible rfl
  case hS0k => assumption
  try simp only [Act.put, List.setIfInBounds_toArray, List.set_cons_zero, List.set_cons_succ]
  refine wpAnyH_take (i := 1) (oi := ?oi1k) (v := ?v1k) ?hi1k ?hs1k ?hf1k ?hr1k ?hQ1k ?hy1k ?hS1k ?h1k
  case hi1k => exact (by simp only [List.getElem?_toArray, List.getElem?_cons_succ, List.getElem?_cons_zero]; rfl)
  case hs1k => kernel_rfl
  case hf1k => kernel_rfl
  case hr1k => kernel_rfl
  case hQ1k => exact fun _ _ _ h => h
  case hy1k =>
    refine Or.inl ⟨rfl, ?_⟩
    intro W hSw
    obtain ⟨q0, q1, q2⟩ := hSw
    go_simp
    try with_reducible rfl
  case hS1k => assumption
  try simp only [Act.put, List.setIfInBounds_toArray, List.set_cons_zero, List.set_cons_succ]
  refine wpAnyH_take (i := 2) (oi := ?oi2k) (v := ?v2k) ?hi2k ?hs2k ?hf2k ?hr2k ?hQ2k ?hy2k ?hS2k ?h2k
  case hi2k => exact (by simp only [List.getElem?_toArray, List.getElem?_cons_succ, List.getElem?_cons_zero]; rfl)
  case hs2k => kernel_rfl
  case hf2k => kernel_rfl
  case hr2k => kernel_rfl
  case hQ2k => exact fun _ _ _ h => h
  case hy2k =>
    refine Or.inl ⟨rfl, ?_⟩
    intro W hSw
    obtain ⟨q0, q1, q2⟩ := hSw
    go_simp
    try with_reducible rfl
  case hS2k => assumption
  try simp only [Act.put, List.setIfInBounds_toArray, List.set_cons_zero, List.set_cons_succ]
  refine wpAnyH_ready (rs := [3]) (by kernel_rfl) (by simp) ?_
  refine AllReadyH.cons (o := _) rfl (fun K hK => ?_) AllReadyH.nil
  have hqr := HQR.out Wk0 HDk.out
  have y0 := cell_of_row _ w.heap.size 0 _ _ _ hqr
  have y1' := cell_of_row _ w.heap.size 1 _ _ _ hqr
  have y2' := cell_of_row _ w.heap.size 2 _ _ _ hqr
  simp at y0 y1' y2'
  have yf : ∀ i, Wk0.frozen? ⟨w.heap.size, i, none⟩ = false := fun i => frozen_of_row _ _ i _ _ hqr
  go_simp
  clear y0 y1' y2' yf
  obtain ⟨W9, hW9⟩ : ∃ W9, W9 = (((Wk0.setCell ⟨w.heap.size, 0, none⟩ (.int .u32 (y1 : Int))).setCell ⟨w.heap.size, 1, none⟩ (.slice y2.a y2.n y2.c)).setCell ⟨w.heap.size, 2, none⟩ (.slice y3.a y3.n y3.c)) := ⟨_, rfl⟩
  have HT := Lib.hid (three (.int .u32 (y1 : Int)) (.slice y2.a y2.n y2.c) (.slice y3.a y3.n y3.c) hqr)
  have HB9 := Lib.hid (three_below (k := w.heap.size) (.int .u32 (y1 : Int)) (.slice y2.a y2.n y2.c) (.slice y3.a y3.n y3.c) (HB2.out.trans (HDk.out.mono HB2.out.size)) (Nat.le_refl w.heap.size))
  have HG9 : Hid (∀ g, g ≠ w.heap.size → W9.heap[g]? = Wk0.heap[g]?) := fun g hg => by rw [hW9]; exact ((Below.heap_setCell _ _ _ _ hg).trans (Below.heap_setCell _ _ _ _ hg)).trans (Below.heap_setCell _ _ _ _ hg)
  rw [← hW9] at HT HB9 ⊢
  clear hW9 hqr
  refine hK.out _ _ (HS.out _ ((HG9.out G HGN.out).trans (HGR.out _ HDk.out))) (fun hHeld => ?_)
  clear hK K
  try simp only [Act.put, List.setIfInBounds_toArray, List.set_cons_zero, List.set_cons_succ]
  refine wpAnyH_take (i := 4) (oi := ?oi4k) (v := ?v4k) ?hi4k ?hs4k ?hf4k ?hr4k ?hQ4k ?hy4k ?hS4k ?h4k
  case hi4k => exact (by simp only [List.getElem?_toArray, List.getElem?_cons_succ, List.getElem?_cons_zero]; rfl)
  case hs4k => kernel_rfl
  case hf4k => kernel_rfl
  case hr4k => kernel_rfl
  case hQ4k => exact fun _ _ _ h => h
  case hy4k =>
    refine Or.inl ⟨rfl, ?_⟩
    intro W hSw
    obtain ⟨q0, q1, q2⟩ := hSw
    go_simp
    try with_reducible rfl
  case hS4k => assumption
  try simp only [Act.put, List.setIfInBounds_toArray, List.set_cons_zero, List.set_cons_succ]
  refine wpAnyH_done (by kernel_rfl) ?_ _
  go_wp2
  obtain ⟨e0, e1, e2, _⟩ := HT.out
  have hn := not26 (HQR.out _ HDk.out)
  refine bodyPost_ret (v := .tuple #[.int .u32 (z : Int), mV y1 y2 y3, .int .i64 0]) (by simp [results, Try.results76, go_sem, e0, e1, e2]) rfl ?_
  rw [HZG.out]
  exact ⟨y1, y2, y3, rfl, HF2.out.1, fl_other (HF2.out.2.1.after HDk.out) HG9.out hn, fl_other (HF2.out.2.2.after HDk.out) HG9.out hn, HB9.out⟩
end Go.Proofs.Ytjlpmdokmfmdiaa.P
