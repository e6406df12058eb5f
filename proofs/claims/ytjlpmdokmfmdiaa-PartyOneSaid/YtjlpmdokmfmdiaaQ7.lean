/- Party: all; over; who is invited; who leads; puts, drops. -/
import Derived.Test.YtjlpmdokmfmdiaaQ6
import Derived.Test.YtjlpmdokmfmdiaaPG
namespace Go.Proofs.Ytjlpmdokmfmdiaa.P
open Go.RowKit
set_option maxRecDepth 20000
set_option linter.unusedVariables false
set_option linter.unusedSimpArgs false

set_option maxHeartbeats 2000000 in
theorem all_any (y1 : Nat) (y2 y3 : Sl) (l1 l2 : List Nat) (w : World) (h2 : y2.n = l1.length) (r2 : Rn w y2.a l1) (h3 : y3.n = l2.length) (r3 : Rn w y3.a l2) (h1 : 0 < l1.length) (hl : l1.length + l2.length ≤ 200) :
    Calls Try.prog 71 #[mV y1 y2 y3] w fun r w' => ∃ A n c, r = .returned (.slice A n c) ∧ w'.ownsRow w.heap.size 26 1 (.slice A n c) n (un (l1 ++ l2)) ∧ Below w.heap.size w w' := by
  obtain ⟨w0, hw0⟩ : ∃ w0, w0 = w.alloc (.cells (mC y1 y2 y3) 112) := ⟨_, rfl⟩
  have hb0 : Below w.heap.size w w0 := by rw [hw0]; exact (Below.refl _ _).alloc (Nat.le_refl _) _
  have hq0 : w0.heap[w.heap.size]? = some (.cells (mC y1 y2 y3) 112 (0, 0)) := by rw [hw0]; exact heap_alloc_new w _
  have c1 := cell_of_row w0 w.heap.size 1 _ _ _ hq0
  have c2 := cell_of_row w0 w.heap.size 2 _ _ _ hq0
  simp at c1 c2
  obtain ⟨w1, hw1⟩ : ∃ w1, w1 = w0.alloc (.cells #[.slice y2.a y2.n y2.c, .slice y3.a y3.n y3.c] 34) := ⟨_, rfl⟩
  have hb1 : Below w0.heap.size w0 w1 := by rw [hw1]; exact (Below.refl _ _).alloc (Nat.le_refl _) _
  have hq1 : w1.heap[w0.heap.size]? = some (.cells #[.slice y2.a y2.n y2.c, .slice y3.a y3.n y3.c] 34 (0, 0)) := by rw [hw1]; exact heap_alloc_new w0 _
  have HC := Lib.hid (concat_any w0.heap.size y2.a y3.a y2.n y3.n y2.c y3.c l1 l2 w1 hq1 h2 ((r2.after hb0).after hb1) h3 ((r3.after hb0).after hb1) (by omega) (by omega))
  have HB1 : Hid (Below w.heap.size w w1) := hb0.trans (hb1.mono hb0.size)
  have H0 := Lib.hid hw0
  rw [hw1] at HC
  have H1 := Lib.hid hw1
  clear hw0 hb0 hq0 hw1 hb1 hq1 r2 r3 h2 h3
  go_enter Try.func71, Try.ntmps71
  go_upto_region 1 with (fail)
  rw [← H0.out]
  go_wp2_with fail
  refine HC.out.mono ?_
  rw [← H1.out]
  rintro r w2 ⟨A, c, rfl, ho, hb⟩
  have HO : Hid (w2.ownsRow w.heap.size 26 1 (.slice A (y2.n + y3.n) c) (y2.n + y3.n) (un (l1 ++ l2))) := ⟨ho.1, ho.2.imp id fun ⟨g, cap, cur, e, q1, q2⟩ => ⟨g, cap, cur, e, Nat.le_trans HB1.out.size q1, q2⟩⟩
  have HB2 : Hid (Below w.heap.size w w2) := HB1.out.trans (hb.mono HB1.out.size)
  clear ho hb
  go_wp2
  go_ret
  exact ⟨_, _, _, rfl, HO.out, HB2.out⟩
set_option maxHeartbeats 2000000 in
theorem over_any (y1 : Nat) (y2 y3 : Sl) (l1 l2 : List Nat) (w : World) (h2 : y2.n = l1.length) (r2 : Rn w y2.a l1) (h3 : y3.n = l2.length) (r3 : Rn w y3.a l2) (hl : l1.length + l2.length ≤ 200) :
    Calls Try.prog 127 #[mV y1 y2 y3] w fun r w' => r = .returned (.bool (decide (l1.length = 0 ∨ l1.length + l2.length = 1))) ∧ Below w.heap.size w w' := by
  obtain ⟨w0, hw0⟩ : ∃ w0, w0 = w.alloc (.cells (mC y1 y2 y3) 112) := ⟨_, rfl⟩
  have hb0 : Below w.heap.size w w0 := by rw [hw0]; exact (Below.refl _ _).alloc (Nat.le_refl _) _
  have hq0 : w0.heap[w.heap.size]? = some (.cells (mC y1 y2 y3) 112 (0, 0)) := by rw [hw0]; exact heap_alloc_new w _
  have c0 := cell_of_row w0 w.heap.size 0 _ _ _ hq0
  have c1 := cell_of_row w0 w.heap.size 1 _ _ _ hq0
  have c2 := cell_of_row w0 w.heap.size 2 _ _ _ hq0
  simp at c0 c1 c2
  have H0 := Lib.hid hw0
  have HB0 := Lib.hid hb0
  obtain ⟨m, hm⟩ : ∃ m, m = y2.n := ⟨_, rfl⟩
  by_cases h0 : l1.length = 0
  · have e : decide (l1.length = 0 ∨ l1.length + l2.length = 1) = true := by simp [h0]
    rw [e]
    have hz : y2.n = 0 := by omega
    obtain ⟨a2, n2, k2⟩ := y2
    simp only at hz
    subst hz
    clear hw0 hb0 hq0 r2 r3 h2 h3 hl h0 e hm
    go_enter Try.func127, Try.ntmps127
    go_upto_region 1 with (fail)
    rw [← H0.out]
    go_wp2
    go_ret
    exact ⟨rfl, HB0.out⟩
  · obtain ⟨t, ht⟩ : ∃ t, t = decide (l1.length = 0 ∨ l1.length + l2.length = 1) := ⟨_, rfl⟩
    rw [← ht]
    have HT : Hid (t = decide (l1.length + l2.length = 1)) := by simp only [Hid]; rw [ht]; simp [h0]
    have hz : ¬ ((y2.n : Int) = 0) := by omega
    have HA := Lib.hid (all_any y1 y2 y3 l1 l2 w0 h2 (r2.after hb0) h3 (r3.after hb0) (by omega) hl)
    clear hw0 hb0 hq0 r2 r3 h2 h3 hl h0 hm ht
    go_enter Try.func127, Try.ntmps127
    go_upto_region 1 with (fail)
    rw [← H0.out]
    go_wp2_with fail
    refine HA.out.mono ?_
    rintro r w2 ⟨A, n, c, rfl, ho, hb⟩
    have hn : n = l1.length + l2.length := by have := (Rn.of_own ho).1; simpa using this
    have HB2 : Hid (Below w.heap.size w w2) := HB0.out.trans (hb.mono HB0.out.size)
    by_cases h1 : n = 1
    · have e : t = true := by rw [HT.out]; simp; omega
      subst e h1
      clear ho hb hn
      go_wp2
      go_ret
      exact ⟨rfl, HB2.out⟩
    · have e : t = false := by rw [HT.out]; simp; omega
      subst e
      have h1' : ¬ ((n : Int) = 1) := by omega
      clear ho hb hn
      go_wp2
      go_ret
      exact ⟨by simp <;> omega, HB2.out⟩
def InvP (R : Nat) (vi : Value) (g : Pt) (t : Bool) (w : World) (r : Ending) (w' : World) : Prop := ∃ (y1 : Nat) (y2 y3 : Sl), r = .returned (.tuple #[mV y1 y2 y3, .bool t]) ∧ y1 = g.ld ∧ Fl w' R vi y2 g.mem ∧ Fl w' R vi y3 g.inv ∧ Below w.heap.size w w'
theorem fl_other {w w' : World} {R : Nat} {vi : Value} {s : Sl} {l : List Nat} {G : Nat} (h : Fl w R vi s l) (hg : ∀ g, g ≠ G → w'.heap[g]? = w.heap[g]?) (hn : ∀ cur, w.heap[G]? ≠ some (.cells cur 26 (0, 0))) : Fl w' R vi s l := ⟨h.1, fun hl => by
  obtain ⟨b, o, e1, e2, e3, ⟨cur, e4⟩, e5⟩ := h.2 hl
  have k := hg b (fun e => hn cur (by rw [← e]; exact e4))
  exact ⟨b, o, e1, e2, e3, ⟨cur, k.trans e4⟩, fun j x hj => (World.cell?_of_block k).trans (e5 j x hj)⟩⟩
theorem not26 {w : World} {G : Nat} {c : Array Value} (h : w.heap[G]? = some (.cells c 112 (0, 0))) : ∀ cur, w.heap[G]? ≠ some (.cells cur 26 (0, 0)) := fun cur e => by
  rw [h] at e
  injection e with e
  injection e with _ e
  exact absurd e (by decide)
set_option maxHeartbeats 4000000 in
theorem inviting_none (B R : Nat) (most : Int) (vi : Value) (L : List Pt) (x p : Nat) (w : World) (h : Bk w B R most vi L) (hl : L.length ≤ 100) (hg : getP L x = none) :
    Calls Try.prog 74 #[bp B, .int .u32 (x : Int), .int .u32 (p : Int)] w fun r w' => r = .returned (.tuple #[.agg mZ, .bool false]) ∧ Below w.heap.size w w' := by
  obtain ⟨w0, hw0⟩ : ∃ w0, w0 = w.alloc (.cells (mZ) 112) := ⟨_, rfl⟩
  have hb0 : Below w.heap.size w w0 := by rw [hw0]; exact (Below.refl _ _).alloc (Nat.le_refl _) _
  have hq0 : w0.heap[w.heap.size]? = some (.cells (mZ) 112 (0, 0)) := by rw [hw0]; exact heap_alloc_new w _
  have hbk := h.after hb0
  have H0 := Lib.hid hw0
  have HB0 := Lib.hid hb0
  have HQ0 := Lib.hid hq0
  have HBK := Lib.hid hbk
  have HG := Lib.hid (at_none B R most vi L x w0 hbk hl hg)
  clear hw0 hb0 hq0 hbk h hg
  go_enter Try.func74, Try.ntmps74
  go_upto_region 1 with (fail)
  rw [← H0.out]
  go_wp2_with fail
  refine HG.out.mono ?_
  rintro r w1 ⟨rfl, hb⟩
  obtain ⟨G, hG⟩ : ∃ G, G = w1.heap.size := ⟨_, rfl⟩
  obtain ⟨w2, hw2⟩ : ∃ w2, w2 = w1.alloc (.cells #[.int .u32 0, .slice none 0 0, .slice none 0 0] 112) := ⟨_, rfl⟩
  have hq : w2.heap[G]? = some (.cells #[.int .u32 0, .slice none 0 0, .slice none 0 0] 112 (0, 0)) := by rw [hw2, hG]; exact heap_alloc_new w1 _
  have hb2 : Below w1.heap.size w1 w2 := by rw [hw2]; exact (Below.refl _ _).alloc (Nat.le_refl _) _
  have hq1 := (hb2.block _ (Nat.lt_of_lt_of_le (lt_of_block HQ0.out) hb.size)).trans ((hb.block _ (lt_of_block HQ0.out)).trans HQ0.out)
  have HB2 : Hid (Below w.heap.size w w2) := HB0.out.trans ((hb.trans (hb2.mono hb.size)).mono HB0.out.size)
  have HS : Hid (∀ W : World, W.heap[G]? = some (.cells #[.int .u32 0, .slice none 0 0, .slice none 0 0] 112 (0, 0)) → (fun W : World => W.cell? ⟨G, 0, none⟩ = some (.int .u32 0) ∧ W.cell? ⟨G, 1, none⟩ = some (.slice none 0 0) ∧ W.cell? ⟨G, 2, none⟩ = some (.slice none 0 0)) W) := fun W hW => ⟨cell_of_row W G 0 _ _ _ hW, cell_of_row W G 1 _ _ _ hW, cell_of_row W G 2 _ _ _ hW⟩
  have HGR : Hid (∀ W, Below w2.heap.size w2 W → W.heap[G]? = some (.cells #[.int .u32 0, .slice none 0 0, .slice none 0 0] 112 (0, 0))) := fun W hW => (hW.block _ (lt_of_block hq)).trans hq
  have HQR : Hid (∀ W, Below w2.heap.size w2 W → W.heap[w.heap.size]? = some (.cells (mZ) 112 (0, 0))) := fun W hW => (hW.block _ (lt_of_block hq1)).trans hq1
  have HGN : Hid (G ≠ w.heap.size) := by have h1 := lt_of_block HQ0.out; have h2 := hb.size; simp only [Hid]; omega
  have HBB : Hid (Below w2.heap.size w2 w2) := Below.refl _ _
  have H2 := Lib.hid hw2
  have HGG := Lib.hid hG
  clear hq hq1 hb hb2 hw2 hG
  go_upto_region 2 with (fail)
  rw [← H2.out, ← HGG.out]
  have HDk : Hid (Below w2.heap.size w2 w2.drew) := HBB.out.drew
  refine wp_region_held_drew (S := fun W : World => W.cell? ⟨G, 0, none⟩ = some (.int .u32 0) ∧ W.cell? ⟨G, 1, none⟩ = some (.slice none 0 0) ∧ W.cell? ⟨G, 2, none⟩ = some (.slice none 0 0)) (by kernel_rfl) (HS.out _ (HGR.out _ (HDk.out))) (fun hHeld => ?_)
  obtain ⟨Wk0, hW0⟩ : ∃ W0, W0 = w2.drew := ⟨_, rfl⟩
  rw [← hW0] at hHeld HDk ⊢
  clear hW0
  refine wpAnyH_take (i := 0) (oi := ?oi0k) (v := ?v0k) ?hi0k ?hs0k ?hf0k ?hr0k ?hQ0k ?hy0k ?hS0k ?h0k
  case hi0k => exact (by simp only [List.getElem?_toArray, List.getElem?_cons_zero]; rfl)
  case hs0k => kernel_rfl
  case hf0k => kernel_rfl
  case hr0k => kernel_rfl
  case hQ0k => exact fun _ _ _ h => h
  case hy0k =>
    refine Or.inl ⟨rfl, ?_⟩
    intro W hSw
    obtain ⟨q0, q1, q2⟩ := hSw
    go_simp
    try with_reducible rfl
  case hS0k => assumption
  try simp only [Act.put, List.setIfInBounds_toArray, List.set_cons_zero, List.set_cons_succ]
  refine wpAnyH_take (i := 1) (oi := ?oi1k) (v := ?v1k) ?hi1k ?hs1k ?hf1k ?hr1k ?hQ1k ?hy1k ?hS1k ?h1k
  case hi1k => exact (by simp only [List.getElem?_toArray, List.getElem?_cons_succ, List.getElem?_cons_zero]; rfl)
  case hs1k => kernel_rfl
  case hf1k => kernel_rfl
  case hr1k => kernel_rfl
  case hQ1k => exact fun _ _ _ h => h
  case hy1k =>
    refine Or.inl ⟨rfl, ?_⟩
    intro W hSw
    obtain ⟨q0, q1, q2⟩ := hSw
    go_simp
    try with_reducible rfl
  case hS1k => assumption
  try simp only [Act.put, List.setIfInBounds_toArray, List.set_cons_zero, List.set_cons_succ]
  refine wpAnyH_take (i := 2) (oi := ?oi2k) (v := ?v2k) ?hi2k ?hs2k ?hf2k ?hr2k ?hQ2k ?hy2k ?hS2k ?h2k
  case hi2k => exact (by simp only [List.getElem?_toArray, List.getElem?_cons_succ, List.getElem?_cons_zero]; rfl)
  case hs2k => kernel_rfl
  case hf2k => kernel_rfl
  case hr2k => kernel_rfl
  case hQ2k => exact fun _ _ _ h => h
  case hy2k =>
    refine Or.inl ⟨rfl, ?_⟩
    intro W hSw
    obtain ⟨q0, q1, q2⟩ := hSw
    go_simp
    try with_reducible rfl
  case hS2k => assumption
  try simp only [Act.put, List.setIfInBounds_toArray, List.set_cons_zero, List.set_cons_succ]
  refine wpAnyH_take (i := 3) (oi := ?oi3k) (v := undef) ?hi3k ?hs3k ?hf3k ?hr3k ?hQ3k ?hy3k ?hS3k ?h3k
  case hi3k => exact (by simp only [List.getElem?_toArray, List.getElem?_cons_succ, List.getElem?_cons_zero]; rfl)
  case hs3k => kernel_rfl
  case hf3k => kernel_rfl
  case hr3k => kernel_rfl
  case hQ3k => exact fun _ _ _ h => h
  case hy3k =>
    exact Or.inr ⟨rfl, rfl⟩
  case hS3k => assumption
  try simp only [Act.put, List.setIfInBounds_toArray, List.set_cons_zero, List.set_cons_succ]
  refine wpAnyH_take (i := 4) (oi := ?oi4k) (v := undef) ?hi4k ?hs4k ?hf4k ?hr4k ?hQ4k ?hy4k ?hS4k ?h4k
  case hi4k => exact (by simp only [List.getElem?_toArray, List.getElem?_cons_succ, List.getElem?_cons_zero]; rfl)
  case hs4k => kernel_rfl
  case hf4k => kernel_rfl
  case hr4k => kernel_rfl
  case hQ4k => exact fun _ _ _ h => h
  case hy4k =>
    exact Or.inr ⟨rfl, rfl⟩
  case hS4k => assumption
  try simp only [Act.put, List.setIfInBounds_toArray, List.set_cons_zero, List.set_cons_succ]
  refine wpAnyH_take (i := 5) (oi := ?oi5k) (v := undef) ?hi5k ?hs5k ?hf5k ?hr5k ?hQ5k ?hy5k ?hS5k ?h5k
  case hi5k => exact (by simp only [List.getElem?_toArray, List.getElem?_cons_succ, List.getElem?_cons_zero]; rfl)
  case hs5k => kernel_rfl
  case hf5k => kernel_rfl
  case hr5k => kernel_rfl
  case hQ5k => exact fun _ _ _ h => h
  case hy5k =>
    exact Or.inr ⟨rfl, rfl⟩
  case hS5k => assumption
  try simp only [Act.put, List.setIfInBounds_toArray, List.set_cons_zero, List.set_cons_succ]
  refine wpAnyH_take (i := 6) (oi := ?oi6k) (v := undef) ?hi6k ?hs6k ?hf6k ?hr6k ?hQ6k ?hy6k ?hS6k ?h6k
  case hi6k => exact (by simp only [List.getElem?_toArray, List.getElem?_cons_succ, List.getElem?_cons_zero]; rfl)
  case hs6k => kernel_rfl
  case hf6k => kernel_rfl
  case hr6k => kernel_rfl
  case hQ6k => exact fun _ _ _ h => h
  case hy6k =>
    exact Or.inr ⟨rfl, rfl⟩
  case hS6k => assumption
  try simp only [Act.put, List.setIfInBounds_toArray, List.set_cons_zero, List.set_cons_succ]
  refine wpAnyH_take (i := 7) (oi := ?oi7k) (v := ?v7k) ?hi7k ?hs7k ?hf7k ?hr7k ?hQ7k ?hy7k ?hS7k ?h7k
  case hi7k => exact (by simp only [List.getElem?_toArray, List.getElem?_cons_succ, List.getElem?_cons_zero]; rfl)
  case hs7k => kernel_rfl
  case hf7k => kernel_rfl
  case hr7k => kernel_rfl
  case hQ7k => exact fun _ _ _ h => h
  case hy7k =>
    refine Or.inl ⟨rfl, ?_⟩
    intro W hSw
    obtain ⟨q0, q1, q2⟩ := hSw
    go_simp
    try with_reducible rfl
  case hS7k => assumption
  try simp only [Act.put, List.setIfInBounds_toArray, List.set_cons_zero, List.set_cons_succ]
  refine wpAnyH_ready (rs := [8]) (by kernel_rfl) (by simp) ?_
  refine AllReadyH.cons (o := _) rfl (fun K hK => ?_) AllReadyH.nil
  have hqr := HQR.out Wk0 HDk.out
  have y0 := cell_of_row _ w.heap.size 0 _ _ _ hqr
  have y1' := cell_of_row _ w.heap.size 1 _ _ _ hqr
  have y2' := cell_of_row _ w.heap.size 2 _ _ _ hqr
  simp at y0 y1' y2'
  have yf : ∀ i, Wk0.frozen? ⟨w.heap.size, i, none⟩ = false := fun i => frozen_of_row _ _ i _ _ hqr
  go_simp
  clear y0 y1' y2' yf
  obtain ⟨W9, hW9⟩ : ∃ W9, W9 = (((Wk0.setCell ⟨w.heap.size, 0, none⟩ (.int .u32 0)).setCell ⟨w.heap.size, 1, none⟩ (.slice none 0 0)).setCell ⟨w.heap.size, 2, none⟩ (.slice none 0 0)) := ⟨_, rfl⟩
  have HT := Lib.hid (three (.int .u32 0) (.slice none 0 0) (.slice none 0 0) hqr)
  have HB9 := Lib.hid (three_below (k := w.heap.size) (.int .u32 0) (.slice none 0 0) (.slice none 0 0) (HB2.out.trans (HDk.out.mono HB2.out.size)) (Nat.le_refl w.heap.size))
  have HG9 : Hid (∀ g, g ≠ w.heap.size → W9.heap[g]? = Wk0.heap[g]?) := fun g hg => by rw [hW9]; exact ((Below.heap_setCell _ _ _ _ hg).trans (Below.heap_setCell _ _ _ _ hg)).trans (Below.heap_setCell _ _ _ _ hg)
  rw [← hW9] at HT HB9 ⊢
  clear hW9 hqr
  refine hK.out _ _ (HS.out _ ((HG9.out G HGN.out).trans (HGR.out _ HDk.out))) (fun hHeld => ?_)
  clear hK K
  try simp only [Act.put, List.setIfInBounds_toArray, List.set_cons_zero, List.set_cons_succ]
  refine wpAnyH_take (i := 9) (oi := ?oi9k) (v := ?v9k) ?hi9k ?hs9k ?hf9k ?hr9k ?hQ9k ?hy9k ?hS9k ?h9k
  case hi9k => exact (by simp only [List.getElem?_toArray, List.getElem?_cons_succ, List.getElem?_cons_zero]; rfl)
  case hs9k => kernel_rfl
  case hf9k => kernel_rfl
  case hr9k => kernel_rfl
  case hQ9k => exact fun _ _ _ h => h
  case hy9k =>
    refine Or.inl ⟨rfl, ?_⟩
    intro W hSw
    obtain ⟨q0, q1, q2⟩ := hSw
    go_simp
    try with_reducible rfl
  case hS9k => assumption
  try simp only [Act.put, List.setIfInBounds_toArray, List.set_cons_zero, List.set_cons_succ]
  refine wpAnyH_done (by kernel_rfl) ?_ _
  go_wp2
  obtain ⟨e0, e1, e2, _⟩ := HT.out
  exact bodyPost_ret (v := .tuple #[.agg mZ, .bool false]) (by simp [results, Try.results74, go_sem, e0, e1, e2]) rfl ⟨rfl, HB9.out⟩
set_option maxHeartbeats 4000000 in
theorem inviting_some (B R : Nat) (most : Int) (vi : Value) (L : List Pt) (x p : Nat) (g : Pt) (t : Bool) (w : World) (h : Bk w B R most vi L) (hl : L.length ≤ 100) (hg : getP L x = some g) (hm : g.inv.length ≤ 100) (ht : t = decide (p ∈ g.inv)) :
    Calls Try.prog 74 #[bp B, .int .u32 (x : Int), .int .u32 (p : Int)] w fun r w' => InvP R vi g t w r w' := by
  obtain ⟨w0, hw0⟩ : ∃ w0, w0 = w.alloc (.cells (mZ) 112) := ⟨_, rfl⟩
  have hb0 : Below w.heap.size w w0 := by rw [hw0]; exact (Below.refl _ _).alloc (Nat.le_refl _) _
  have hq0 : w0.heap[w.heap.size]? = some (.cells (mZ) 112 (0, 0)) := by rw [hw0]; exact heap_alloc_new w _
  have hbk := h.after hb0
  have H0 := Lib.hid hw0
  have HB0 := Lib.hid hb0
  have HQ0 := Lib.hid hq0
  have HBK := Lib.hid hbk
  have HG := Lib.hid (at_some B R most vi L x g w0 hbk hl hg)
  have HM := Lib.hid hm
  have HTT := Lib.hid ht
  clear hw0 hb0 hq0 hbk h hg hm ht
  go_enter Try.func74, Try.ntmps74
  go_upto_region 1 with (fail)
  rw [← H0.out]
  go_wp2_with fail
  refine HG.out.mono ?_
  rintro r w1 ⟨y1, y2, y3, rfl, e1, f2, f3, hb⟩
  obtain ⟨G, hG⟩ : ∃ G, G = w1.heap.size := ⟨_, rfl⟩
  obtain ⟨w2, hw2⟩ : ∃ w2, w2 = w1.alloc (.cells #[.int .u32 (y1 : Int), .slice y2.a y2.n y2.c, .slice y3.a y3.n y3.c] 112) := ⟨_, rfl⟩
  have hq : w2.heap[G]? = some (.cells #[.int .u32 (y1 : Int), .slice y2.a y2.n y2.c, .slice y3.a y3.n y3.c] 112 (0, 0)) := by rw [hw2, hG]; exact heap_alloc_new w1 _
  have hb2 : Below w1.heap.size w1 w2 := by rw [hw2]; exact (Below.refl _ _).alloc (Nat.le_refl _) _
  have hq1 := (hb2.block _ (Nat.lt_of_lt_of_le (lt_of_block HQ0.out) hb.size)).trans ((hb.block _ (lt_of_block HQ0.out)).trans HQ0.out)
  have HB2 : Hid (Below w.heap.size w w2) := HB0.out.trans ((hb.trans (hb2.mono hb.size)).mono HB0.out.size)
  have HS : Hid (∀ W : World, W.heap[G]? = some (.cells #[.int .u32 (y1 : Int), .slice y2.a y2.n y2.c, .slice y3.a y3.n y3.c] 112 (0, 0)) → (fun W : World => W.cell? ⟨G, 0, none⟩ = some (.int .u32 (y1 : Int)) ∧ W.cell? ⟨G, 1, none⟩ = some (.slice y2.a y2.n y2.c) ∧ W.cell? ⟨G, 2, none⟩ = some (.slice y3.a y3.n y3.c)) W) := fun W hW => ⟨cell_of_row W G 0 _ _ _ hW, cell_of_row W G 1 _ _ _ hW, cell_of_row W G 2 _ _ _ hW⟩
  have HGR : Hid (∀ W, Below w2.heap.size w2 W → W.heap[G]? = some (.cells #[.int .u32 (y1 : Int), .slice y2.a y2.n y2.c, .slice y3.a y3.n y3.c] 112 (0, 0))) := fun W hW => (hW.block _ (lt_of_block hq)).trans hq
  have HQR : Hid (∀ W, Below w2.heap.size w2 W → W.heap[w.heap.size]? = some (.cells (mZ) 112 (0, 0))) := fun W hW => (hW.block _ (lt_of_block hq1)).trans hq1
  have HGN : Hid (G ≠ w.heap.size) := by have h1 := lt_of_block HQ0.out; have h2 := hb.size; simp only [Hid]; omega
  have HBB : Hid (Below w2.heap.size w2 w2) := Below.refl _ _
  have H2 := Lib.hid hw2
  have HGG := Lib.hid hG
  have HF2 : Hid (y1 = g.ld ∧ Fl w2 R vi y2 g.mem ∧ Fl w2 R vi y3 g.inv) := ⟨e1, f2.after hb2, f3.after hb2⟩
  have HC : Hid (∀ W, Below w2.heap.size w2 W → Calls Try.prog 65 #[.slice y3.a y3.n y3.c, .int .u32 (p : Int)] W fun r w' => r = .returned (.bool t) ∧ Below W.heap.size W w') := fun W hW => by
    rw [HTT.out]
    exact contains_any y3.a y3.n y3.c g.inv p W f3.1 ((f3.after hb2).after hW).rn (by have := HM.out; have := f3.1; omega)
  clear e1 f2 f3
  clear hq hq1 hb hb2 hw2 hG
  go_upto_region 2 with (fail)
  rw [← H2.out, ← HGG.out]
  have HDk : Hid (Below w2.heap.size w2 w2.drew) := HBB.out.drew
  refine wp_region_held_drew (S := fun W : World => W.cell? ⟨G, 0, none⟩ = some (.int .u32 (y1 : Int)) ∧ W.cell? ⟨G, 1, none⟩ = some (.slice y2.a y2.n y2.c) ∧ W.cell? ⟨G, 2, none⟩ = some (.slice y3.a y3.n y3.c)) (by kernel_rfl) (HS.out _ (HGR.out _ (HDk.out))) (fun hHeld => ?_)
  obtain ⟨Wk0, hW0⟩ : ∃ W0, W0 = w2.drew := ⟨_, rfl⟩
  rw [← hW0] at hHeld HDk ⊢
  clear hW0
  refine wpAnyH_take (i := 0) (oi := ?oi0k) (v := ?v0k) ?hi0k ?hs0k ?hf0k ?hr0k ?hQ0k ?hy0k ?hS0k ?h0k
  case hi0k => exact (by simp only [List.getElem?_toArray, List.getElem?_cons_zero]; rfl)
  case hs0k => kernel_rfl
  case hf0k => kernel_rfl
  case hr0k => kernel_rfl
  case hQ0k => exact fun _ _ _ h => h
  case hy0k =>
    refine Or.inl ⟨rfl, ?_⟩
    intro W hSw
    obtain ⟨q0, q1, q2⟩ := hSw
    go_simp
    try with_reducible rfl
  case hS0k => assumption
  try simp only [Act.put, List.setIfInBounds_toArray, List.set_cons_zero, List.set_cons_succ]
  refine wpAnyH_take (i := 1) (oi := ?oi1k) (v := ?v1k) ?hi1k ?hs1k ?hf1k ?hr1k ?hQ1k ?hy1k ?hS1k ?h1k
  case hi1k => exact (by simp only [List.getElem?_toArray, List.getElem?_cons_succ, List.getElem?_cons_zero]; rfl)
  case hs1k => kernel_rfl
  case hf1k => kernel_rfl
  case hr1k => kernel_rfl
  case hQ1k => exact fun _ _ _ h => h
  case hy1k =>
    refine Or.inl ⟨rfl, ?_⟩
    intro W hSw
    obtain ⟨q0, q1, q2⟩ := hSw
    go_simp
    try with_reducible rfl
  case hS1k => assumption
  try simp only [Act.put, List.setIfInBounds_toArray, List.set_cons_zero, List.set_cons_succ]
  refine wpAnyH_take (i := 2) (oi := ?oi2k) (v := ?v2k) ?hi2k ?hs2k ?hf2k ?hr2k ?hQ2k ?hy2k ?hS2k ?h2k
  case hi2k => exact (by simp only [List.getElem?_toArray, List.getElem?_cons_succ, List.getElem?_cons_zero]; rfl)
  case hs2k => kernel_rfl
  case hf2k => kernel_rfl
  case hr2k => kernel_rfl
  case hQ2k => exact fun _ _ _ h => h
  case hy2k =>
    refine Or.inl ⟨rfl, ?_⟩
    intro W hSw
    obtain ⟨q0, q1, q2⟩ := hSw
    go_simp
    try with_reducible rfl
  case hS2k => assumption
  try simp only [Act.put, List.setIfInBounds_toArray, List.set_cons_zero, List.set_cons_succ]
  refine wpAnyH_take (i := 3) (oi := ?oi3k) (v := ?v3k) ?hi3k ?hs3k ?hf3k ?hr3k ?hQ3k ?hy3k ?hS3k ?h3k
  case hi3k => exact (by simp only [List.getElem?_toArray, List.getElem?_cons_succ, List.getElem?_cons_zero]; rfl)
  case hs3k => kernel_rfl
  case hf3k => kernel_rfl
  case hr3k => kernel_rfl
  case hQ3k => exact fun _ _ _ h => h
  case hy3k =>
    refine Or.inl ⟨rfl, ?_⟩
    intro W hSw
    obtain ⟨q0, q1, q2⟩ := hSw
    go_simp
    try with_reducible rfl
  case hS3k => assumption
  try simp only [Act.put, List.setIfInBounds_toArray, List.set_cons_zero, List.set_cons_succ]
  refine wpAnyH_take (i := 4) (oi := ?oi4k) (v := ?v4k) ?hi4k ?hs4k ?hf4k ?hr4k ?hQ4k ?hy4k ?hS4k ?h4k
  case hi4k => exact (by simp only [List.getElem?_toArray, List.getElem?_cons_succ, List.getElem?_cons_zero]; rfl)
  case hs4k => kernel_rfl
  case hf4k => kernel_rfl
  case hr4k => kernel_rfl
  case hQ4k => exact fun _ _ _ h => h
  case hy4k =>
    refine Or.inl ⟨rfl, ?_⟩
    intro W hSw
    obtain ⟨q0, q1, q2⟩ := hSw
    go_simp
    try with_reducible rfl
  case hS4k => assumption
  try simp only [Act.put, List.setIfInBounds_toArray, List.set_cons_zero, List.set_cons_succ]
  refine wpAnyH_take (i := 5) (oi := ?oi5k) (v := ?v5k) ?hi5k ?hs5k ?hf5k ?hr5k ?hQ5k ?hy5k ?hS5k ?h5k
  case hi5k => exact (by simp only [List.getElem?_toArray, List.getElem?_cons_succ, List.getElem?_cons_zero]; rfl)
  case hs5k => kernel_rfl
  case hf5k => kernel_rfl
  case hr5k => kernel_rfl
  case hQ5k => exact fun _ _ _ h => h
  case hy5k =>
    refine Or.inl ⟨rfl, ?_⟩
    intro W hSw
    obtain ⟨q0, q1, q2⟩ := hSw
    go_simp
    try with_reducible rfl
  case hS5k => assumption
  try simp only [Act.put, List.setIfInBounds_toArray, List.set_cons_zero, List.set_cons_succ]
  refine wpAnyH_ready (rs := [6]) (by kernel_rfl) (by simp) ?_
  refine AllReadyH.cons (o := _) rfl (fun K hK => ?_) AllReadyH.nil
  go_simp
  refine (HC.out Wk0 HDk.out).mono ?_
  rintro r Wk1 ⟨rfl, hbq⟩
  have HBk1 := Lib.hid (HDk.out.trans (hbq.mono HDk.out.size))
  clear hbq
  refine hK.out _ _ (HS.out _ (HGR.out _ (HBk1.out))) (fun hHeld => ?_)
  clear hK K
  try simp only [Act.put, List.setIfInBounds_toArray, List.set_cons_zero, List.set_cons_succ]
  refine wpAnyH_take (i := 7) (oi := ?oi7k) (v := ?v7k) ?hi7k ?hs7k ?hf7k ?hr7k ?hQ7k ?hy7k ?hS7k ?h7k
  case hi7k => exact (by simp only [List.getElem?_toArray, List.getElem?_cons_succ, List.getElem?_cons_zero]; rfl)
  case hs7k => kernel_rfl
  case hf7k => kernel_rfl
  case hr7k => kernel_rfl
  case hQ7k => exact fun _ _ _ h => h
  case hy7k =>
    refine Or.inl ⟨rfl, ?_⟩
    intro W hSw
    obtain ⟨q0, q1, q2⟩ := hSw
    go_simp
    try with_reducible rfl
  case hS7k => assumption
  try simp only [Act.put, List.setIfInBounds_toArray, List.set_cons_zero, List.set_cons_succ]
  refine wpAnyH_ready (rs := [8]) (by kernel_rfl) (by simp) ?_
  refine AllReadyH.cons (o := _) rfl (fun K hK => ?_) AllReadyH.nil
  have hqr := HQR.out Wk1 HBk1.out
  have y0 := cell_of_row _ w.heap.size 0 _ _ _ hqr
  have y1' := cell_of_row _ w.heap.size 1 _ _ _ hqr
  have y2' := cell_of_row _ w.heap.size 2 _ _ _ hqr
  simp at y0 y1' y2'
  have yf : ∀ i, Wk1.frozen? ⟨w.heap.size, i, none⟩ = false := fun i => frozen_of_row _ _ i _ _ hqr
  go_simp
  clear y0 y1' y2' yf
  obtain ⟨W9, hW9⟩ : ∃ W9, W9 = (((Wk1.setCell ⟨w.heap.size, 0, none⟩ (.int .u32 (y1 : Int))).setCell ⟨w.heap.size, 1, none⟩ (.slice y2.a y2.n y2.c)).setCell ⟨w.heap.size, 2, none⟩ (.slice y3.a y3.n y3.c)) := ⟨_, rfl⟩
  have HT := Lib.hid (three (.int .u32 (y1 : Int)) (.slice y2.a y2.n y2.c) (.slice y3.a y3.n y3.c) hqr)
  have HB9 := Lib.hid (three_below (k := w.heap.size) (.int .u32 (y1 : Int)) (.slice y2.a y2.n y2.c) (.slice y3.a y3.n y3.c) (HB2.out.trans (HBk1.out.mono HB2.out.size)) (Nat.le_refl w.heap.size))
  have HG9 : Hid (∀ g, g ≠ w.heap.size → W9.heap[g]? = Wk1.heap[g]?) := fun g hg => by rw [hW9]; exact ((Below.heap_setCell _ _ _ _ hg).trans (Below.heap_setCell _ _ _ _ hg)).trans (Below.heap_setCell _ _ _ _ hg)
  rw [← hW9] at HT HB9 ⊢
  clear hW9 hqr
  refine hK.out _ _ (HS.out _ ((HG9.out G HGN.out).trans (HGR.out _ HBk1.out))) (fun hHeld => ?_)
  clear hK K
  try simp only [Act.put, List.setIfInBounds_toArray, List.set_cons_zero, List.set_cons_succ]
  refine wpAnyH_take (i := 9) (oi := ?oi9k) (v := ?v9k) ?hi9k ?hs9k ?hf9k ?hr9k ?hQ9k ?hy9k ?hS9k ?h9k
  case hi9k => exact (by simp only [List.getElem?_toArray, List.getElem?_cons_succ, List.getElem?_cons_zero]; rfl)
  case hs9k => kernel_rfl
  case hf9k => kernel_rfl
  case hr9k => kernel_rfl
  case hQ9k => exact fun _ _ _ h => h
  case hy9k =>
    refine Or.inl ⟨rfl, ?_⟩
    intro W hSw
    obtain ⟨q0, q1, q2⟩ := hSw
    go_simp
    try with_reducible rfl
  case hS9k => assumption
  try simp only [Act.put, List.setIfInBounds_toArray, List.set_cons_zero, List.set_cons_succ]
  refine wpAnyH_done (by kernel_rfl) ?_ _
  go_wp2
  obtain ⟨e0, e1, e2, _⟩ := HT.out
  have hn := not26 (HQR.out _ HBk1.out)
  exact bodyPost_ret (v := .tuple #[mV y1 y2 y3, .bool t]) (by simp [results, Try.results74, go_sem, e0, e1, e2]) rfl ⟨y1, y2, y3, rfl, HF2.out.1, fl_other (HF2.out.2.1.after HBk1.out) HG9.out hn, fl_other (HF2.out.2.2.after HBk1.out) HG9.out hn, HB9.out⟩
end Go.Proofs.Ytjlpmdokmfmdiaa.P
