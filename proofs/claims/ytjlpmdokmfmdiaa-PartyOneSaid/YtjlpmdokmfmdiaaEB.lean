/- Party: PartyTold. -/
import Derived.Test.YtjlpmdokmfmdiaaEA
namespace Go.Proofs.Ytjlpmdokmfmdiaa.P
open Go.RowKit
set_option maxRecDepth 20000
set_option linter.unusedVariables false
set_option linter.unusedSimpArgs false

/-- A list of one's own: numbers in a block that was laid since. -/
def Ow (w : World) (base : Nat) (s : Sl) : Prop := 0 < s.n → ∃ (g : Nat) (cur : Array Value), s.a = some ⟨g, 0, none⟩ ∧ base ≤ g ∧ w.heap[g]? = some (Obj.cells cur 26 (0, 0)) ∧ s.n ≤ cur.size ∧ ∀ i, i < s.n → ∃ x : Int, cur[i]? = some (Value.int .u32 x)
theorem Ow.of_own {w : World} {base b2 n c : Nat} {A : Option Addr} {l : List Nat} (h : w.ownsRow b2 26 1 (.slice A n c) n (un l)) (hb : base ≤ b2) : Ow w base ⟨A, n, c⟩ := fun hn => by
  have hlen := h.1
  rcases h.2 with ⟨_, h0⟩ | ⟨g, cap, cur, e, hg, hq, h1, _, h3, h4⟩
  · exact absurd h0 (by simp only at hn; omega)
  · injection e with e1 e2 e3
    refine ⟨g, cur, e1, by omega, hq, by simp only; omega, fun i hi => ?_⟩
    simp only at hi
    have hi2 : i < (un l).length := by omega
    have k : (un l)[i]? = some ((un l)[i]) := List.getElem?_eq_getElem hi2
    have k2 : cur[i]? = (un l)[i]? := by
      rw [← h4, List.getElem?_take, if_pos (by omega)]
      simp
    rw [k2]
    unfold un
    rw [List.getElem?_map]
    have k3 : i < l.length := by have h5 := hi2; unfold un at h5; rw [List.length_map] at h5; exact h5
    rw [List.getElem?_eq_getElem k3]
    exact ⟨_, rfl⟩
theorem Ow.nil {w : World} {base c : Nat} {A : Option Addr} : Ow w base ⟨A, 0, c⟩ := fun h => absurd h (Nat.lt_irrefl 0)
theorem Ow.after {w w' : World} {base : Nat} {s : Sl} (h : Ow w base s) (hb : Below w.heap.size w w') : Ow w' base s := fun hn => by
  obtain ⟨g, cur, e1, e2, e3, e4, e5⟩ := h hn
  exact ⟨g, cur, e1, e2, (hb.block _ (lt_of_block e3)).trans e3, e4, e5⟩
theorem Ow.oth {w w' : World} {base G : Nat} {s : Sl} (h : Ow w base s) (hg : ∀ g, g ≠ G → w'.heap[g]? = w.heap[g]?) (hn : ∀ cur, w.heap[G]? ≠ some (Obj.cells cur 26 (0, 0))) : Ow w' base s := fun h0 => by
  obtain ⟨g, cur, e1, e2, e3, e4, e5⟩ := h h0
  exact ⟨g, cur, e1, e2, (hg g (fun e => hn cur (by rw [← e]; exact e3))).trans e3, e4, e5⟩
theorem Ow.set {w : World} {base g : Nat} {s : Sl} {cur : Array Value} (h : Ow w base s) (hq : w.heap[g]? = some (Obj.cells cur 26 (0, 0))) (i : Nat) (y : Int) : Ow (w.setCell ⟨g, i, none⟩ (.int .u32 y)) base s := fun h0 => by
  obtain ⟨g', cur', e1, e2, e3, e4, e5⟩ := h h0
  by_cases hgg : g' = g
  · subst hgg
    rw [hq] at e3
    injection e3 with e3
    injection e3 with e3 _
    subst e3
    refine ⟨g', cur.setIfInBounds i (.int .u32 y), e1, e2, heap_setCell_same w g' i cur 26 _ hq, by simpa using e4, fun j hj => ?_⟩
    by_cases hji : j = i
    · subst hji
      exact ⟨y, by rw [Array.getElem?_setIfInBounds_self_of_lt (by omega)]⟩
    · obtain ⟨x, hx⟩ := e5 j hj
      exact ⟨x, by rw [Array.getElem?_setIfInBounds_ne (fun e => hji e.symm)]; exact hx⟩
  · exact ⟨g', cur', e1, e2, (Below.heap_setCell _ _ _ _ hgg).trans e3, e4, e5⟩
/-- What is told of a party is one's own. -/
def PtO (w : World) (r : Ending) (w' : World) : Prop := ∃ (x l : Nat) (m v : Sl) (t : Bool), r = .returned (.tuple #[.agg (dC x l m v), .bool t]) ∧ Ow w' w.heap.size m ∧ Ow w' w.heap.size v ∧ m.n ≤ 100 ∧ v.n ≤ 100 ∧ Below w.heap.size w w'
def CallO (B : Nat) (m : Nat) (w : World) (r : Ending) (w' : World) : Prop := ∃ A c, r = .returned (.slice A m c) ∧ Ow w' B ⟨A, m, c⟩ ∧ Below w.heap.size w w'
theorem clone_ow (B : Nat) (R : Nat) (vi : Value) (s : Sl) (l : List Nat) (w : World) (hs : Fl w R vi s l) (hB : B ≤ w.heap.size) (hl : l.length ≤ 100) : Calls Try.prog 67 #[.slice s.a s.n s.c] w fun r w' => CallO B s.n w r w' :=
  (clone_rn s.a s.n s.c l w hs.1 hs.rn (by have := hs.1; omega)).mono fun r w' ⟨A, c, h1, h2, h3⟩ => ⟨A, c, h1, Ow.of_own h2 hB, h3⟩
set_option maxHeartbeats 4000000 in
theorem party_own (B R : Nat) (most : Int) (vi : Value) (L : List Pt) (x : Nat) (g : Pt) (w : World) (h : Bk w B R most vi L) (hl : L.length ≤ 100) (hg : getP L x = some g) (hk : Ok1 g) :
    Calls Try.prog 17 #[bp B, .int .u32 (x : Int)] w fun r w' => PtO w r w' := by
  obtain ⟨w0, hw0⟩ : ∃ w0, w0 = w.alloc (.cells dZ 36) := ⟨_, rfl⟩
  have hb0 : Below w.heap.size w w0 := by rw [hw0]; exact (Below.refl _ _).alloc (Nat.le_refl _) _
  have hq0 : w0.heap[w.heap.size]? = some (.cells dZ 36 (0, 0)) := by rw [hw0]; exact heap_alloc_new w _
  have hbk := h.after hb0
  have H0 := Lib.hid hw0
  have HB0 := Lib.hid hb0
  have HQ0 := Lib.hid hq0
  have HG := Lib.hid (at_some B R most vi L x g w0 hbk hl hg)
  have HCT := Lib.hid hbk.ctx
  have HK := Lib.hid hk
  clear hw0 hb0 hq0 hbk h hg hk
  go_enter Try.func17, Try.ntmps17
  go_upto_region 1 with (fail)
  rw [← H0.out]
  go_wp2_with fail
  refine HG.out.mono ?_
  rintro r w2 ⟨y1, y2, y3, rfl, f1, f2, f3, hb2⟩
  obtain ⟨G, hG⟩ : ∃ G, G = w2.heap.size := ⟨_, rfl⟩
  obtain ⟨w3, hw3⟩ : ∃ W, W = w2.alloc (.cells #[.int .u32 (y1 : Int), .slice y2.a y2.n y2.c, .slice y3.a y3.n y3.c] 112) := ⟨_, rfl⟩
  have hq : w3.heap[G]? = some (.cells #[.int .u32 (y1 : Int), .slice y2.a y2.n y2.c, .slice y3.a y3.n y3.c] 112 (0, 0)) := by rw [hw3, hG]; exact heap_alloc_new w2 _
  have hb3 : Below w2.heap.size w2 w3 := by rw [hw3]; exact (Below.refl _ _).alloc (Nat.le_refl _) _
  have hq1 := (hb3.block _ (Nat.lt_of_lt_of_le (lt_of_block HQ0.out) hb2.size)).trans ((hb2.block _ (lt_of_block HQ0.out)).trans HQ0.out)
  have HB2 : Hid (Below w.heap.size w w3) := HB0.out.trans ((hb2.trans (hb3.mono hb2.size)).mono HB0.out.size)
  have HS : Hid (∀ W : World, W.heap[G]? = some (.cells #[.int .u32 (y1 : Int), .slice y2.a y2.n y2.c, .slice y3.a y3.n y3.c] 112 (0, 0)) → (fun W : World => W.cell? ⟨G, 0, none⟩ = some (.int .u32 (y1 : Int)) ∧ W.cell? ⟨G, 1, none⟩ = some (.slice y2.a y2.n y2.c) ∧ W.cell? ⟨G, 2, none⟩ = some (.slice y3.a y3.n y3.c)) W) := fun W hW => ⟨cell_of_row W G 0 _ _ _ hW, cell_of_row W G 1 _ _ _ hW, cell_of_row W G 2 _ _ _ hW⟩
  have HGR : Hid (∀ W, Below w3.heap.size w3 W → W.heap[G]? = some (.cells #[.int .u32 (y1 : Int), .slice y2.a y2.n y2.c, .slice y3.a y3.n y3.c] 112 (0, 0))) := fun W hW => (hW.block _ (lt_of_block hq)).trans hq
  have HQR : Hid (∀ W, Below w3.heap.size w3 W → W.heap[w.heap.size]? = some (.cells dZ 36 (0, 0))) := fun W hW => (hW.block _ (lt_of_block hq1)).trans hq1
  have HGN : Hid (G ≠ w.heap.size) := by have h1 := lt_of_block HQ0.out; have h3 := hb2.size; simp only [Hid]; omega
  have HBB : Hid (Below w3.heap.size w3 w3) := Below.refl _ _
  have HC3 : Hid (Ctx w3 R vi) := (HCT.out.size hb2.size).size hb3.size
  have HF2 : Hid (Fl w3 R vi y2 g.mem ∧ Fl w3 R vi y3 g.inv) := ⟨f2.after hb3, f3.after hb3⟩
  have HCM : Hid (∀ W, Below w3.heap.size w3 W → Calls Try.prog 67 #[.slice y2.a y2.n y2.c] W fun r w' => CallO w.heap.size y2.n W r w') := fun W hW => clone_ow w.heap.size R vi y2 g.mem W (HF2.out.1.after hW) (Nat.le_trans HB2.out.size hW.size) (by have := HK.out.four; omega)
  have HCV : Hid (∀ W, Below w3.heap.size w3 W → Calls Try.prog 67 #[.slice y3.a y3.n y3.c] W fun r w' => CallO w.heap.size y3.n W r w') := fun W hW => clone_ow w.heap.size R vi y3 g.inv W (HF2.out.2.after hW) (Nat.le_trans HB2.out.size hW.size) (by have := HK.out.four; omega)
  have HNN : Hid (y2.n ≤ 100 ∧ y3.n ≤ 100) := by have h1 := HF2.out.1.1; have h2 := HF2.out.2.1; have h3 := HK.out.four; exact ⟨by omega, by omega⟩
  have H3 := Lib.hid hw3
  have HGG := Lib.hid hG
  have HLD : Hid (y1 = g.ld) := f1
  clear hq hq1 hb2 hb3 hw3 hG f1 f2 f3
  go_upto_region 4 with (fail)
  rw [← H3.out, ← HGG.out]
  have HDk : Hid (Below w3.heap.size w3 w3.drew) := HBB.out.drew
  refine wp_region_held_drew (S := fun W : World => W.cell? ⟨G, 0, none⟩ = some (.int .u32 (y1 : Int)) ∧ W.cell? ⟨G, 1, none⟩ = some (.slice y2.a y2.n y2.c) ∧ W.cell? ⟨G, 2, none⟩ = some (.slice y3.a y3.n y3.c)) (by kernel_rfl) (HS.out _ (HGR.out _ (HDk.out))) (fun hHeld => ?_)
  obtain ⟨Wk0, hW0⟩ : ∃ W0, W0 = w3.drew := ⟨_, rfl⟩
  rw [← hW0] at hHeld HDk ⊢
  clear hW0
  refine wpAnyH_take (i := 0) (oi := ?oi0k) (v := ?v0k) ?hi0k ?hs0k ?hf0k ?hr0k ?hQ0k ?hy0k ?hS0k ?h0k
  case hi0k => exact (by simp only [List.getElem?_toArray, List.getElem?_cons_zero]; rfl)
  case hs0k => kernel_rfl
  case hf0k => kernel_rfl
  case hr0k => kernel_rfl
  case hQ0k => exact fun _ _ _ h => h
  case hy0k =>
    refine Or.inl ⟨rfl, ?_⟩
    intro W hSw
    obtain ⟨q0, q1, q2⟩ := hSw
    go_simp
    try with_reducible rfl
  case hS0k => assumption
  try simp only [Act.put, List.setIfInBounds_toArray, List.set_cons_zero, List.set_cons_succ]
  refine wpAnyH_take (i := 1) (oi := ?oi1k) (v := ?v1k) ?hi1k ?hs1k ?hf1k ?hr1k ?hQ1k ?hy1k ?hS1k ?h1k
  case hi1k => exact (by simp only [List.getElem?_toArray, List.getElem?_cons_succ, List.getElem?_cons_zero]; rfl)
  case hs1k => kernel_rfl
  case hf1k => kernel_rfl
  case hr1k => kernel_rfl
  case hQ1k => exact fun _ _ _ h => h
  case hy1k =>
    refine Or.inl ⟨rfl, ?_⟩
    intro W hSw
    obtain ⟨q0, q1, q2⟩ := hSw
    go_simp
    try with_reducible rfl
  case hS1k => assumption
  try simp only [Act.put, List.setIfInBounds_toArray, List.set_cons_zero, List.set_cons_succ]
  refine wpAnyH_take (i := 2) (oi := ?oi2k) (v := ?v2k) ?hi2k ?hs2k ?hf2k ?hr2k ?hQ2k ?hy2k ?hS2k ?h2k
  case hi2k => exact (by simp only [List.getElem?_toArray, List.getElem?_cons_succ, List.getElem?_cons_zero]; rfl)
  case hs2k => kernel_rfl
  case hf2k => kernel_rfl
  case hr2k => kernel_rfl
  case hQ2k => exact fun _ _ _ h => h
  case hy2k =>
    refine Or.inl ⟨rfl, ?_⟩
    intro W hSw
    obtain ⟨q0, q1, q2⟩ := hSw
    go_simp
    try with_reducible rfl
  case hS2k => assumption
  try simp only [Act.put, List.setIfInBounds_toArray, List.set_cons_zero, List.set_cons_succ]
  refine wpAnyH_take (i := 3) (oi := ?oi3k) (v := ?v3k) ?hi3k ?hs3k ?hf3k ?hr3k ?hQ3k ?hy3k ?hS3k ?h3k
  case hi3k => exact (by simp only [List.getElem?_toArray, List.getElem?_cons_succ, List.getElem?_cons_zero]; rfl)
  case hs3k => kernel_rfl
  case hf3k => kernel_rfl
  case hr3k => kernel_rfl
  case hQ3k => exact fun _ _ _ h => h
  case hy3k =>
    refine Or.inl ⟨rfl, ?_⟩
    intro W hSw
    obtain ⟨q0, q1, q2⟩ := hSw
    go_simp
    try with_reducible rfl
  case hS3k => assumption
  try simp only [Act.put, List.setIfInBounds_toArray, List.set_cons_zero, List.set_cons_succ]
  refine wpAnyH_take (i := 4) (oi := ?oi4k) (v := ?v4k) ?hi4k ?hs4k ?hf4k ?hr4k ?hQ4k ?hy4k ?hS4k ?h4k
  case hi4k => exact (by simp only [List.getElem?_toArray, List.getElem?_cons_succ, List.getElem?_cons_zero]; rfl)
  case hs4k => kernel_rfl
  case hf4k => kernel_rfl
  case hr4k => kernel_rfl
  case hQ4k => exact fun _ _ _ h => h
  case hy4k =>
    refine Or.inl ⟨rfl, ?_⟩
    intro W hSw
    obtain ⟨q0, q1, q2⟩ := hSw
    go_simp
    try with_reducible rfl
  case hS4k => assumption
  try simp only [Act.put, List.setIfInBounds_toArray, List.set_cons_zero, List.set_cons_succ]
  refine wpAnyH_take (i := 6) (oi := ?oi6k) (v := ?v6k) ?hi6k ?hs6k ?hf6k ?hr6k ?hQ6k ?hy6k ?hS6k ?h6k
  case hi6k => exact (by simp only [List.getElem?_toArray, List.getElem?_cons_succ, List.getElem?_cons_zero]; rfl)
  case hs6k => kernel_rfl
  case hf6k => kernel_rfl
  case hr6k => kernel_rfl
  case hQ6k => exact fun _ _ _ h => h
  case hy6k =>
    refine Or.inl ⟨rfl, ?_⟩
    intro W hSw
    obtain ⟨q0, q1, q2⟩ := hSw
    go_simp
    try with_reducible rfl
  case hS6k => assumption
  try simp only [Act.put, List.setIfInBounds_toArray, List.set_cons_zero, List.set_cons_succ]
  refine wpAnyH_take (i := 7) (oi := ?oi7k) (v := ?v7k) ?hi7k ?hs7k ?hf7k ?hr7k ?hQ7k ?hy7k ?hS7k ?h7k
  case hi7k => exact (by simp only [List.getElem?_toArray, List.getElem?_cons_succ, List.getElem?_cons_zero]; rfl)
  case hs7k => kernel_rfl
  case hf7k => kernel_rfl
  case hr7k => kernel_rfl
  case hQ7k => exact fun _ _ _ h => h
  case hy7k =>
    refine Or.inl ⟨rfl, ?_⟩
    intro W hSw
    obtain ⟨q0, q1, q2⟩ := hSw
    go_simp
    try with_reducible rfl
  case hS7k => assumption
  try simp only [Act.put, List.setIfInBounds_toArray, List.set_cons_zero, List.set_cons_succ]
  refine wpAnyH_ready (rs := [5]) (by kernel_rfl) (by simp) ?_
  refine AllReadyH.cons (o := _) rfl (fun K hK => ?_) AllReadyH.nil
  go_simp
  refine ((HCM.out Wk0 HDk.out)).mono ?_
  rintro r Wk1 ⟨A2, c2, rfl, f2, hbq⟩
  have HBk1 := Lib.hid (HDk.out.trans (hbq.mono HDk.out.size))
  have F2 := Lib.hid f2
  clear f2
  clear hbq
  refine hK.out _ _ (HS.out _ (HGR.out _ (HBk1.out))) (fun hHeld => ?_)
  clear hK K
  try simp only [Act.put, List.setIfInBounds_toArray, List.set_cons_zero, List.set_cons_succ]
  refine wpAnyH_ready (rs := [8]) (by kernel_rfl) (by simp) ?_
  refine AllReadyH.cons (o := _) rfl (fun K hK => ?_) AllReadyH.nil
  go_simp
  refine ((HCV.out Wk1 HBk1.out)).mono ?_
  rintro r Wk2 ⟨A3, c3, rfl, f3, hbq⟩
  have HBk2 := Lib.hid (HBk1.out.trans (hbq.mono HBk1.out.size))
  have F3 := Lib.hid f3
  have F2b := Lib.hid (F2.out.after hbq)
  clear f3
  clear hbq
  refine hK.out _ _ (HS.out _ (HGR.out _ (HBk2.out))) (fun hHeld => ?_)
  clear hK K
  try simp only [Act.put, List.setIfInBounds_toArray, List.set_cons_zero, List.set_cons_succ]
  refine wpAnyH_take (i := 9) (oi := ?oi9k) (v := ?v9k) ?hi9k ?hs9k ?hf9k ?hr9k ?hQ9k ?hy9k ?hS9k ?h9k
  case hi9k => exact (by simp only [List.getElem?_toArray, List.getElem?_cons_succ, List.getElem?_cons_zero]; rfl)
  case hs9k => kernel_rfl
  case hf9k => kernel_rfl
  case hr9k => kernel_rfl
  case hQ9k => exact fun _ _ _ h => h
  case hy9k =>
    refine Or.inl ⟨rfl, ?_⟩
    intro W hSw
    obtain ⟨q0, q1, q2⟩ := hSw
    go_simp
    try with_reducible rfl
  case hS9k => assumption
  try simp only [Act.put, List.setIfInBounds_toArray, List.set_cons_zero, List.set_cons_succ]
  refine wpAnyH_ready (rs := [10]) (by kernel_rfl) (by simp) ?_
  refine AllReadyH.cons (o := _) rfl (fun K hK => ?_) AllReadyH.nil
  have hqr := HQR.out Wk2 HBk2.out
  have y0 := cell_of_row _ w.heap.size 0 _ _ _ hqr
  have y1' := cell_of_row _ w.heap.size 1 _ _ _ hqr
  have y2' := cell_of_row _ w.heap.size 2 _ _ _ hqr
  have y3' := cell_of_row _ w.heap.size 3 _ _ _ hqr
  simp at y0 y1' y2' y3'
  have yf : ∀ i, Wk2.frozen? ⟨w.heap.size, i, none⟩ = false := fun i => frozen_of_row _ _ i _ _ hqr
  go_simp
  clear y0 y1' y2' y3' yf
  obtain ⟨W9, hW9⟩ : ∃ W9, W9 = ((((Wk2.setCell ⟨w.heap.size, 0, none⟩ (.int .u32 (x : Int))).setCell ⟨w.heap.size, 1, none⟩ (.int .u32 (y1 : Int))).setCell ⟨w.heap.size, 2, none⟩ (.slice A2 y2.n c2)).setCell ⟨w.heap.size, 3, none⟩ (.slice A3 y3.n c3)) := ⟨_, rfl⟩
  have HT : Hid (W9.cell? ⟨w.heap.size, 0, none⟩ = some (.int .u32 (x : Int)) ∧ W9.cell? ⟨w.heap.size, 1, none⟩ = some (.int .u32 (y1 : Int)) ∧ W9.cell? ⟨w.heap.size, 2, none⟩ = some (.slice A2 y2.n c2) ∧ W9.cell? ⟨w.heap.size, 3, none⟩ = some (.slice A3 y3.n c3)) := by simp only [Hid]; rw [hW9]; exact four_cells (.int .u32 (x : Int)) (.int .u32 (y1 : Int)) (.slice A2 y2.n c2) (.slice A3 y3.n c3) hqr
  have HB9 : Hid (Below w.heap.size w W9) := by simp only [Hid]; rw [hW9]; exact four_below (k := w.heap.size) (.int .u32 (x : Int)) (.int .u32 (y1 : Int)) (.slice A2 y2.n c2) (.slice A3 y3.n c3) (HB2.out.trans (HBk2.out.mono HB2.out.size)) (Nat.le_refl w.heap.size)
  have HG9 : Hid (∀ g, g ≠ w.heap.size → W9.heap[g]? = Wk2.heap[g]?) := fun g hg => by rw [hW9]; exact four_other _ _ _ _ hg
  have HNR : Hid (∀ cur, Wk2.heap[w.heap.size]? ≠ some (.cells cur 26 (0, 0))) := drow36 hqr
  rw [← hW9]
  clear hW9 hqr
  refine hK.out _ _ (HS.out _ ((HG9.out G HGN.out).trans (HGR.out _ HBk2.out))) (fun hHeld => ?_)
  clear hK K
  try simp only [Act.put, List.setIfInBounds_toArray, List.set_cons_zero, List.set_cons_succ]
  refine wpAnyH_take (i := 11) (oi := ?oi11k) (v := ?v11k) ?hi11k ?hs11k ?hf11k ?hr11k ?hQ11k ?hy11k ?hS11k ?h11k
  case hi11k => exact (by simp only [List.getElem?_toArray, List.getElem?_cons_succ, List.getElem?_cons_zero]; rfl)
  case hs11k => kernel_rfl
  case hf11k => kernel_rfl
  case hr11k => kernel_rfl
  case hQ11k => exact fun _ _ _ h => h
  case hy11k =>
    refine Or.inl ⟨rfl, ?_⟩
    intro W hSw
    obtain ⟨q0, q1, q2⟩ := hSw
    go_simp
    try with_reducible rfl
  case hS11k => assumption
  try simp only [Act.put, List.setIfInBounds_toArray, List.set_cons_zero, List.set_cons_succ]
  refine wpAnyH_done (by kernel_rfl) ?_ _
  go_wp2
  obtain ⟨e0, e1, e2, e3⟩ := HT.out
  refine bodyPost_ret (v := .tuple #[.agg (dC x y1 ⟨A2, y2.n, c2⟩ ⟨A3, y3.n, c3⟩), .bool true]) (by simp [results, Try.results17, go_sem, e0, e1, e2, e3]) rfl ⟨x, y1, ⟨A2, y2.n, c2⟩, ⟨A3, y3.n, c3⟩, true, rfl, Ow.oth F2b.out HG9.out HNR.out, Ow.oth F3.out HG9.out HNR.out, HNN.out.1, HNN.out.2, HB9.out⟩
theorem party_two (B R : Nat) (most : Int) (vi : Value) (L : List Pt) (x : Nat) (w : World) (h : Bk w B R most vi L) (hI : Inv L) (hl : L.length ≤ 100) :
    Calls Try.prog 17 #[bp B, .int .u32 (x : Int)] w fun r w' => PtO w r w' := by
  cases hg : getP L x with
  | none => exact (party_none B R most vi L x w h hl hg).mono fun r w' hh => ⟨0, 0, ⟨none, 0, 0⟩, ⟨none, 0, 0⟩, false, hh.1, .nil, .nil, Nat.zero_le _, Nat.zero_le _, hh.2⟩
  | some g => exact party_own B R most vi L x g w h hl hg (hI.each g (get_some hg).1)
/-- What stands while one writes into what was told. -/
def TS (base : Nat) (wc : World) (G : Nat) (row : Array Value) (m v : Sl) (wq : World) : Prop := Below base wc wq ∧ wq.heap[G]? = some (Obj.cells row 36 (0, 0)) ∧ Ow wq base m ∧ Ow wq base v
theorem TS.set {base : Nat} {wc : World} {G : Nat} {row : Array Value} {m v : Sl} {wq : World} (h : TS base wc G row m v wq) {g : Nat} {cur : Array Value} (hg : base ≤ g) (hq : wq.heap[g]? = some (Obj.cells cur 26 (0, 0))) (i : Nat) (y : Int) : TS base wc G row m v (wq.setCell ⟨g, i, none⟩ (.int .u32 y)) := by
  obtain ⟨h1, h2, h3, h4⟩ := h
  refine ⟨h1.setCell hg _, (Below.heap_setCell _ _ _ _ (fun e => ?_)).trans h2, h3.set hq i y, h4.set hq i y⟩
  rw [e, hq] at h2
  injection h2 with h2
  injection h2 with _ h2
  exact absurd h2 (by decide)
set_option maxHeartbeats 16000000 in
theorem told_any (p : Option Addr × Nat) (acts : List Ac) (id : Nat) (w : World) (hA : As w w.heap.size p.1 acts) (hl : acts.length ≤ 9223372036854775807) (hR : ∀ e ∈ acts, Ra e) :
    Calls Try.prog 5 #[.slice p.1 acts.length p.2, .int .u32 (id : Int)] w fun r w' => r = .returned (.bool true) ∧ Below w.heap.size w w' := by
  obtain ⟨P, cp⟩ := p
  simp only at hA ⊢
  obtain ⟨n0, hn⟩ : ∃ n, n = acts.length := ⟨_, rfl⟩
  rw [← hn] at hl ⊢
  have HA := Lib.hid hA
  have HN := Lib.hid hn
  have HAW : Hid (∀ W, Calls Try.prog 18 #[] W fun r w' => r = .returned (.bool true) ∧ Below W.heap.size W w') := fun W => awake_any W
  have HN1 : Hid (∀ W, Calls Try.prog 21 #[.pointer none, .int .u32 1, .int .u32 2] W fun r w' => r = .returned (.tuple #[.int .u32 0, .int .i64 10]) ∧ w' = W) := fun W => invite_nil 1 2 W
  have HN2 : Hid (∀ W, Calls Try.prog 22 #[.pointer none, .int .u32 1, .int .u32 2] W fun r w' => r = .returned (.tuple #[.bool false, .int .i64 12]) ∧ Below W.heap.size W w') := fun W => refuse_nil 1 2 W
  have HN3 : Hid (∀ W, Calls Try.prog 23 #[.pointer none, .int .u32 (id : Int)] W fun r w' => r = .returned (.tuple #[.int .u32 0, .bool false, .int .i64 12]) ∧ Below W.heap.size W w') := fun W => leave_nil id W
  have HN4 : Hid (∀ W, Calls Try.prog 24 #[.pointer none, .int .u32 1, .int .u32 2] W fun r w' => r = .returned (.tuple #[.bool false, .int .i64 12]) ∧ Below W.heap.size W w') := fun W => kick_nil 1 2 W
  have HN5 : Hid (∀ W, Calls Try.prog 17 #[.pointer none, .int .u32 (id : Int)] W fun r w' => r = .returned (.tuple #[.agg dZ, .bool false]) ∧ Below W.heap.size W w') := fun W => party_nil id W
  have HN6 : Hid (∀ W, Calls Try.prog 25 #[.pointer none, .int .u32 1, .int .u32 2] W fun r w' => r = .returned (.int .i64 12) ∧ Below W.heap.size W w') := fun W => join_nil 1 2 W
  have HN7 : Hid (∀ W, Calls Try.prog 26 #[.pointer none, .int .u32 1, .int .u32 2] W fun r w' => r = .returned (.int .i64 12) ∧ Below W.heap.size W w') := fun W => lead_nil 1 2 W
  have HN8 : Hid (∀ W, Calls Try.prog 15 #[.pointer none, .int .u32 (id : Int)] W fun r w' => r = .returned (.int .u32 0) ∧ Below W.heap.size W w') := fun W => of_nil id W
  have HN9 : Hid (∀ W, Calls Try.prog 19 #[.pointer none] W fun r w' => r = .returned (.slice none 0 0) ∧ w' = W) := fun W => parties_nil W
  have HNW := Lib.hid (new_bk 6 w)
  clear hA hR hn
  by_cases h60 : 60 < n0
  · go_enter Try.func5, Try.ntmps5
    go_wp2
    go_ret
    exact ⟨rfl, Below.refl _ _⟩
  go_enter Try.func5, Try.ntmps5
  go_wp2_with fail
  refine HNW.out.mono ?_
  rintro r w1 ⟨B, rfl, hB, hbk, hb1⟩
  rw [show max (6 : Int) 0 = 6 from by decide] at hbk
  have HS : Hid (PS w B 6 0 [] none 0 w1) := ⟨_, hbk, ⟨rfl, Dr.nil, hbk.ctx⟩, Inv.nil, Nat.le_refl _, hb1⟩
  clear hbk hb1
  go_wp2_with fail
  go_loopw [6, 7] (fun vl i wr => ∃ (k n c : Nat) (A : Option Addr) (L : List Pt), k ≤ n0 ∧ i = .int .i64 (k : Int) ∧ vl = .slice A n c ∧ Hid (PS w B 6 k L A n wr)) (fun _ i _ => n0 - (intOf i).toNat)
  case atStart => exact ⟨0, 0, 0, none, [], Nat.zero_le _, rfl, rfl, HS.out⟩
  case round =>
    obtain ⟨k, n, c, A, L, hk, rfl, rfl, HM⟩ := hrel
    by_cases hlt : k < n0
    · obtain ⟨⟨d, a', b'⟩, hy⟩ : ∃ e, acts[k]? = some e := ⟨acts[k]'(by rw [← HN.out]; exact hlt), List.getElem?_eq_getElem _⟩
      obtain ⟨b1, o1, rfl, hb1, ha1⟩ := HA.out (by have := HN.out; omega)
      obtain ⟨e0, e1, e2⟩ := ha1 k _ hy
      have d0 := (HM.out.all.cell (p := ⟨b1, _, none⟩) hb1).trans e0
      have d1 := (HM.out.all.cell (p := ⟨b1, _, none⟩) hb1).trans e1
      have d2 := (HM.out.all.cell (p := ⟨b1, _, none⟩) hb1).trans e2
      simp only at d0 d1 d2
      have HACT := Lib.hid (HM.out.act (c := c) (by omega) (by decide) d a' b')
      clear hy ha1 hb1 e0 e1 e2
      go_wp2_with fail
      refine HACT.out.mono ?_
      rintro r w2 ⟨A2, n2, c2, rfl, hps, hkp⟩
      have HF2 := Lib.hid hps
      clear hps hkp d0 d1 d2
      go_wp2_with fail
      go_roundw
      case rel => exact ⟨k + 1, n2, c2, A2, _, by omega, by go_num, rfl, HF2.out⟩
      case measure => simp [intOf] <;> omega
    · have hkn : k = n0 := by omega
      subst hkn
      obtain ⟨vi, h1, h2, h3, h4, h5⟩ := HM.out
      have HPT := Lib.hid (party_two B w.heap.size 6 vi L id wr h1 h3 (by have := h2.n; omega))
      have HLK : Hid (∀ W, Below wr.heap.size wr W → Calls Try.prog 14 #[bp B, .slice A n c] W fun r w' => r = .returned (.bool true) ∧ Below W.heap.size W w') := fun W hW => like_any B w.heap.size 6 vi L A n c W (h1.after hW) (h2.after hW) h3 (by omega)
      have HBL := Lib.hid h5
      clear h1 h2 h3 h4 h5
      go_wp2_with fail
      obtain ⟨wc, hwc⟩ : ∃ W, W = wr := ⟨_, rfl⟩
      rw [← hwc] at HPT HLK HBL ⊢
      clear hwc
      refine HPT.out.mono ?_
      rintro r w5 ⟨x, l, ⟨ma, mn, mc⟩, ⟨va, vn, vc⟩, t, rfl, om, ov, hm, hv, hb5⟩
      simp only at hm hv
      obtain ⟨G, hG⟩ : ∃ G, G = w5.heap.size := ⟨_, rfl⟩
      obtain ⟨w6, hw6⟩ : ∃ W, W = w5.alloc (.cells #[.int .u32 (x : Int), .int .u32 (l : Int), .slice ma mn mc, .slice va vn vc] 36) := ⟨_, rfl⟩
      have hq : w6.heap[G]? = some (.cells #[.int .u32 (x : Int), .int .u32 (l : Int), .slice ma mn mc, .slice va vn vc] 36 (0, 0)) := by rw [hw6, hG]; exact heap_alloc_new w5 _
      have hb6 : Below w5.heap.size w5 w6 := by rw [hw6]; exact (Below.refl _ _).alloc (Nat.le_refl _) _
      have HTS : Hid (TS wc.heap.size wc G #[.int .u32 (x : Int), .int .u32 (l : Int), .slice ma mn mc, .slice va vn vc] ⟨ma, mn, mc⟩ ⟨va, vn, vc⟩ w6) := ⟨hb5.trans (hb6.mono hb5.size), hq, om.after hb6, ov.after hb6⟩
      have H6 := Lib.hid hw6
      have HGG := Lib.hid hG
      clear hw6 hG hq hb6 hb5 om ov
      go_upto_region 10 with (fail)
      rw [← H6.out, ← HGG.out]
      go_wp2_with fail
      go_loopw [10] (fun u wr => ∃ k : Nat, k ≤ mn ∧ u = .int .i64 (k : Int) ∧ Hid (TS wc.heap.size wc G #[.int .u32 (x : Int), .int .u32 (l : Int), .slice ma mn mc, .slice va vn vc] ⟨ma, mn, mc⟩ ⟨va, vn, vc⟩ wr)) (fun u _ => mn - (intOf u).toNat)
      case atStart => exact ⟨0, by omega, rfl, HTS.out⟩
      case round =>
        obtain ⟨k, hk, rfl, HT⟩ := hrel
        have z := cell_of_row _ G 2 _ _ _ HT.out.2.1
        simp at z
        by_cases hlt : k < mn
        · obtain ⟨g, cur, e1, e2, e3, e4, e5⟩ := HT.out.2.2.1 (by show 0 < mn; omega)
          obtain ⟨y, hy⟩ := e5 k hlt
          simp only at e1
          subst e1
          have d0 := (cell_of_row wr g k _ _ _ e3).trans hy
          have df : wr.frozen? ⟨g, k, none⟩ = false := frozen_of_row _ _ k _ _ e3
          have HTN : Hid (∀ y : Int, TS wc.heap.size wc G #[.int .u32 (x : Int), .int .u32 (l : Int), .slice (some ⟨g, 0, none⟩) mn mc, .slice va vn vc] ⟨some ⟨g, 0, none⟩, mn, mc⟩ ⟨va, vn, vc⟩ (wr.setCell ⟨g, k, none⟩ (.int .u32 y))) := fun y => HT.out.set e2 e3 k y
          clear hy e2 e3 e4 e5
          go_wp2_with fail
          go_roundw
          case rel => exact ⟨k + 1, by omega, by go_num, HTN.out _⟩
          case measure => simp [intOf] <;> omega
        · have hkn : mn = k := by omega
          subst hkn
          have HTS := HT
          go_wp2_with fail
          go_loopw [11] (fun u wr => ∃ k : Nat, k ≤ vn ∧ u = .int .i64 (k : Int) ∧ Hid (TS wc.heap.size wc G #[.int .u32 (x : Int), .int .u32 (l : Int), .slice ma mn mc, .slice va vn vc] ⟨ma, mn, mc⟩ ⟨va, vn, vc⟩ wr)) (fun u _ => vn - (intOf u).toNat)
          case atStart => exact ⟨0, by omega, rfl, HTS.out⟩
          case round =>
            obtain ⟨k, hk, rfl, HT⟩ := hrel
            have z := cell_of_row _ G 3 _ _ _ HT.out.2.1
            simp at z
            by_cases hlt : k < vn
            · obtain ⟨g, cur, e1, e2, e3, e4, e5⟩ := HT.out.2.2.2 (by show 0 < vn; omega)
              obtain ⟨y, hy⟩ := e5 k hlt
              simp only at e1
              subst e1
              have d0 := (cell_of_row wr g k _ _ _ e3).trans hy
              have df : wr.frozen? ⟨g, k, none⟩ = false := frozen_of_row _ _ k _ _ e3
              have HTN : Hid (∀ y : Int, TS wc.heap.size wc G #[.int .u32 (x : Int), .int .u32 (l : Int), .slice ma mn mc, .slice (some ⟨g, 0, none⟩) vn vc] ⟨ma, mn, mc⟩ ⟨some ⟨g, 0, none⟩, vn, vc⟩ (wr.setCell ⟨g, k, none⟩ (.int .u32 y))) := fun y => HT.out.set e2 e3 k y
              clear hy e2 e3 e4 e5
              go_wp2_with fail
              go_roundw
              case rel => exact ⟨k + 1, by omega, by go_num, HTN.out _⟩
              case measure => simp [intOf] <;> omega
            · have hkn : vn = k := by omega
              subst hkn
              have HBwr := Lib.hid HT.out.1
              go_wp2_with fail
              refine (HLK.out wr HT.out.1).mono ?_
              rintro r v0 ⟨rfl, hb⟩
              have HBv0 : Hid (Below wc.heap.size wc v0) := HBwr.out.trans (hb.mono HBwr.out.size)
              clear hb
              go_wp2_with fail
              refine (HN1.out v0).mono ?_
              rintro r wz ⟨rfl, hw⟩
              have hw := hw.symm
              subst hw
              go_wp2_with fail
              refine (HN2.out v0).mono ?_
              rintro r v1 ⟨rfl, hb⟩
              have HBv1 : Hid (Below wc.heap.size wc v1) := HBv0.out.trans (hb.mono HBv0.out.size)
              clear hb
              go_wp2_with fail
              refine (HN3.out v1).mono ?_
              rintro r v2 ⟨rfl, hb⟩
              have HBv2 : Hid (Below wc.heap.size wc v2) := HBv1.out.trans (hb.mono HBv1.out.size)
              clear hb
              go_wp2_with fail
              refine (HN4.out v2).mono ?_
              rintro r v3 ⟨rfl, hb⟩
              have HBv3 : Hid (Below wc.heap.size wc v3) := HBv2.out.trans (hb.mono HBv2.out.size)
              clear hb
              go_wp2_with fail
              refine (HN5.out v3).mono ?_
              rintro r v4 ⟨rfl, hb⟩
              obtain ⟨G2, hG2⟩ : ∃ G, G = v4.heap.size := ⟨_, rfl⟩
              obtain ⟨v5, hv5⟩ : ∃ W, W = v4.alloc (.cells #[.int .u32 0, .int .u32 0, .slice none 0 0, .slice none 0 0] 36) := ⟨_, rfl⟩
              have hq : v5.heap[G2]? = some (.cells #[.int .u32 0, .int .u32 0, .slice none 0 0, .slice none 0 0] 36 (0, 0)) := by rw [hv5, hG2]; exact heap_alloc_new v4 _
              have hb5 : Below v4.heap.size v4 v5 := by rw [hv5]; exact (Below.refl _ _).alloc (Nat.le_refl _) _
              have HBv5 : Hid (Below wc.heap.size wc v5) := HBv3.out.trans ((hb.trans (hb5.mono hb.size)).mono HBv3.out.size)
              have HQ5 := Lib.hid hq
              have HV5 := Lib.hid hv5
              have HGG2 := Lib.hid hG2
              clear hb hb5 hq hv5 hG2
              go_upto_region 26 with (fail)
              rw [← HV5.out, ← HGG2.out]
              go_wp2_with fail
              refine (HN6.out v5).mono ?_
              rintro r v6 ⟨rfl, hb6⟩
              have HX6 := Lib.hid hb6
              clear hb6
              go_wp2_with fail
              refine (HN7.out v6).mono ?_
              rintro r v7 ⟨rfl, hb7⟩
              have HX7 : Hid (Below v5.heap.size v5 v7) := HX6.out.trans (hb7.mono HX6.out.size)
              clear hb7
              go_wp2_with fail
              refine (HN8.out v7).mono ?_
              rintro r v8 ⟨rfl, hb8⟩
              have HX8 : Hid (Below v5.heap.size v5 v8) := HX7.out.trans (hb8.mono HX7.out.size)
              have HBv8 : Hid (Below wc.heap.size wc v8) := HBv5.out.trans (HX8.out.mono HBv5.out.size)
              have z0 := cell_of_row v8 G2 0 _ _ _ ((HX8.out.block _ (lt_of_block HQ5.out)).trans HQ5.out)
              simp at z0
              clear hb8
              go_wp2_with fail
              refine (HN9.out v8).mono ?_
              rintro r wz ⟨rfl, hw⟩
              have hw := hw.symm
              subst hw
              clear z0
              go_wp2_with fail
              refine (HAW.out v8).mono ?_
              rintro r v9 ⟨rfl, hb⟩
              have HB9 : Hid (Below w.heap.size w v9) := by
                have q := HBL.out.trans (HBv8.out.mono HBL.out.size)
                exact q.trans (hb.mono q.size)
              clear hb
              go_wp2
              go_ret
              exact ⟨rfl, HB9.out⟩
end Go.Proofs.Ytjlpmdokmfmdiaa.P
