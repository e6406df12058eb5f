/- Fill: Fits, the program's. -/
import Derived.Test.YtccabdhfnjlbdaaF8
namespace Go.Proofs.Ytccabdhfnjlbdaa
open Go.RowKit
set_option maxRecDepth 20000
set_option linter.unusedVariables false

/-- May a ticket sit beside rows? -/
def fitsP (m : Mo) (now : Int) (t : Tk) (l : List Rw) : Bool := decide (m.wr = []) && !(l.any (farP (rt t.r) (m.win (waitP now t.s))))
abbrev tC (x y : Int) (P : Option Addr) (c : Nat) (t : Tk) : Array Value := #[.int .u32 x, .int .i64 y, .slice P t.n c, .int .i64 t.r, .int .i64 t.s]

set_option maxHeartbeats 8000000 in
theorem fits_any (m : Mo) (now x y : Int) (P : Option Addr) (cp : Nat) (t : Tk) (A : Option Addr) (n c : Nat) (l : List Rw) (w : World) (hn : n = l.length) (hE : Rs w w.heap.size A l) (hl : n ≤ 1000) (hnow : In64 now) (hts : In64 t.s) :
    Calls Try.prog 15 #[m.v, .int .i64 now, .agg (tC x y P cp t), .slice A n c] w fun r w' => r = .returned (.bool (fitsP m now t l)) ∧ Below w.heap.size w w' := by
  obtain ⟨tn, tr, ts⟩ := t
  obtain ⟨w0, hw0⟩ : ∃ w0, w0 = w.alloc (.cells m.cells 35) := ⟨_, rfl⟩
  have hb0 : Below w.heap.size w w0 := by rw [hw0]; exact (Below.refl _ _).alloc (Nat.le_refl _) _
  have hp0 : w0.heap[w.heap.size]? = some (.cells m.cells 35 (0, 0)) := by rw [hw0]; exact heap_alloc_new w _
  have hs0 : w0.heap.size = w.heap.size + 1 := by rw [hw0]; simp
  obtain ⟨w1, hw1⟩ : ∃ w1, w1 = w0.alloc (.cells (tC x y P cp ⟨tn, tr, ts⟩) 44) := ⟨_, rfl⟩
  have hb1 : Below w0.heap.size w0 w1 := by rw [hw1]; exact (Below.refl _ _).alloc (Nat.le_refl _) _
  have hp1 : w1.heap[w.heap.size + 1]? = some (.cells (tC x y P cp ⟨tn, tr, ts⟩) 44 (0, 0)) := by rw [hw1, ← hs0]; exact heap_alloc_new w0 _
  have hb01 : Below w.heap.size w w1 := hb0.trans (hb1.mono hb0.size)
  have HCE : Hid (∀ W, Below w1.heap.size w1 W → W.cell? ⟨w.heap.size, 0, none⟩ = some (.int .i64 m.k) ∧ W.cell? ⟨w.heap.size, 1, none⟩ = some (.int .i64 m.b) ∧ W.cell? ⟨w.heap.size, 2, none⟩ = some (.int .i64 m.s) ∧ W.cell? ⟨w.heap.size, 3, none⟩ = some (.int .i64 m.c) ∧ W.cell? ⟨w.heap.size, 4, none⟩ = some (.int .i64 m.e) ∧ W.cell? ⟨w.heap.size + 1, 3, none⟩ = some (.int .i64 tr) ∧ W.cell? ⟨w.heap.size + 1, 4, none⟩ = some (.int .i64 ts)) := fun W hW => by
    have e1 := (hW.block _ (lt_of_block hp1)).trans hp1
    have e0 := (hW.block _ (lt_of_block ((hb1.block _ (lt_of_block hp0)).trans hp0))).trans ((hb1.block _ (lt_of_block hp0)).trans hp0)
    exact ⟨cell_of_row W _ 0 _ _ _ e0, cell_of_row W _ 1 _ _ _ e0, cell_of_row W _ 2 _ _ _ e0, cell_of_row W _ 3 _ _ _ e0, cell_of_row W _ 4 _ _ _ e0, cell_of_row W _ 3 _ _ _ e1, cell_of_row W _ 4 _ _ _ e1⟩
  have hwb := wait_bd now ts
  obtain ⟨wt, hwt⟩ : ∃ wt, wt = waitP now ts := ⟨_, rfl⟩
  rw [← hwt] at hwb
  obtain ⟨wi, hwi⟩ : ∃ wi, wi = m.win wt := ⟨_, rfl⟩
  obtain ⟨ra, hra⟩ : ∃ ra, ra = rt tr := ⟨_, rfl⟩
  have hrb := rt_bd tr
  rw [← hra] at hrb
  have HC2 : Hid (∀ W, Calls Try.prog 25 #[.int .i64 tr] W fun r w' => r = .returned (.int .i64 ra) ∧ Below W.heap.size W w') := fun W => (counts_any tr W).mono fun r w' h => ⟨by rw [h.1, hra], by rw [h.2]; exact Below.refl _ _⟩
  have HC7 : Hid (∀ W, Calls Try.prog 21 #[.int .i64 now, .int .i64 ts] W fun r w' => r = .returned (.int .i64 wt) ∧ Below W.heap.size W w') := fun W => (wait_any now ts W hnow hts).mono fun r w' h => ⟨by rw [h.1, hwt], by rw [h.2]; exact Below.refl _ _⟩
  have HC8 : Hid (∀ W, Calls Try.prog 20 #[m.v, .int .i64 wt] W fun r w' => r = .returned (.int .i64 wi) ∧ Below W.heap.size W w') := fun W => (window_any m.k m.b m.s m.c m.e wt W (by omega)).mono fun r w' h => ⟨by rw [h.1, hwi]; rfl, h.2⟩
  obtain ⟨q, hq⟩ : ∃ q, q = l.any (farP ra wi) := ⟨_, rfl⟩
  have HCT : Hid (∀ W G1 G2, Below w1.heap.size w1 W → W.heap[G1]? = some (.cells #[.int .i64 ra] 3 (0, 0)) → W.heap[G2]? = some (.cells #[.int .i64 wi] 3 (0, 0)) → Calls Try.prog 28 #[.slice A n c, fV G1 G2] W fun r w' => r = .returned (.bool q) ∧ Below W.heap.size W w') := fun W G1 G2 hW g1 g2 => by
    rw [hq]
    exact contains_any ra wi G1 G2 A n c l W hn ((hE.later hb01 (Nat.le_refl _)).later hW (Nat.le_refl _)) hl hrb g1 g2
  obtain ⟨mw, hmw⟩ : ∃ mw, mw = m.wr := ⟨_, rfl⟩
  have HW : Hid (∀ W, Calls Try.prog 23 #[m.v] W fun r w' => r = .returned (sV mw) ∧ Below W.heap.size W w') := fun W => by rw [hmw]; exact wrongM_any m.k m.b m.s m.c m.e W
  have HR : Hid (fitsP m now ⟨tn, tr, ts⟩ l = (decide (mw = []) && !q)) := by simp only [Hid, fitsP]; rw [hmw, hq, hra, hwi, hwt]
  rw [HR.out]
  have H0 := Lib.hid hw0
  have H1 := Lib.hid hw1
  have HB1 := Lib.hid hb01
  have HBS : Hid (Below w1.heap.size w1 w1) := Below.refl _ _
  clear hw0 hw1 hb0 hb1 hp0 hp1 hs0 hb01 hn hE hl hnow hts hwt hwi hra hq hmw hwb HR
  go_enter Try.func15, Try.ntmps15
  go_upto_region 1 with (fail)
  rw [← H0.out, ← H1.out]
  go_cut [9, 10] (fun a b wx => ∃ G1 G2, a = .pointer (some ⟨G1, 0, none⟩) ∧ b = .pointer (some ⟨G2, 0, none⟩) ∧ Hid (wx.heap[G1]? = some (.cells #[.int .i64 ra] 3 (0, 0)) ∧ wx.heap[G2]? = some (.cells #[.int .i64 wi] 3 (0, 0)) ∧ Below w1.heap.size w1 wx))
  case first =>
    have HB5 : Hid (Below w1.heap.size w1 w1.drew) := HBS.out.drew
    refine wp_region_held_drew (S := fun W : World => W.cell? ⟨w.heap.size, 0, none⟩ = some (.int .i64 m.k) ∧ W.cell? ⟨w.heap.size, 1, none⟩ = some (.int .i64 m.b) ∧ W.cell? ⟨w.heap.size, 2, none⟩ = some (.int .i64 m.s) ∧ W.cell? ⟨w.heap.size, 3, none⟩ = some (.int .i64 m.c) ∧ W.cell? ⟨w.heap.size, 4, none⟩ = some (.int .i64 m.e) ∧ W.cell? ⟨w.heap.size + 1, 3, none⟩ = some (.int .i64 tr) ∧ W.cell? ⟨w.heap.size + 1, 4, none⟩ = some (.int .i64 ts)) (by kernel_rfl) (HCE.out _ (HB5.out)) (fun hHeld => ?_)
    obtain ⟨w5, hW0⟩ : ∃ W0, W0 = w1.drew := ⟨_, rfl⟩
    rw [← hW0] at hHeld HB5 ⊢
    clear hW0
    refine wpAnyH_take (i := 0) (oi := ?oi0p) (v := ?v0p) ?hi0p ?hs0p ?hf0p ?hr0p ?hQ0p ?hy0p ?hS0p ?h0p
    case hi0p => exact (by simp only [List.getElem?_toArray, List.getElem?_cons_zero]; rfl)
    case hs0p => kernel_rfl
    case hf0p => kernel_rfl
    case hr0p => kernel_rfl
    case hQ0p => exact fun _ _ _ h => h
    case hy0p =>
      refine Or.inl ⟨rfl, ?_⟩
      intro W hSw
      obtain ⟨y0, y1, y2, y3, y4, y5, y6⟩ := hSw
      go_simp
      try with_reducible rfl
    case hS0p => assumption
    try simp only [Act.put, List.setIfInBounds_toArray, List.set_cons_zero, List.set_cons_succ]
    refine wpAnyH_take (i := 1) (oi := ?oi1p) (v := ?v1p) ?hi1p ?hs1p ?hf1p ?hr1p ?hQ1p ?hy1p ?hS1p ?h1p
    case hi1p => exact (by simp only [List.getElem?_toArray, List.getElem?_cons_succ, List.getElem?_cons_zero]; rfl)
    case hs1p => kernel_rfl
    case hf1p => kernel_rfl
    case hr1p => kernel_rfl
    case hQ1p => exact fun _ _ _ h => h
    case hy1p =>
      refine Or.inl ⟨rfl, ?_⟩
      intro W hSw
      obtain ⟨y0, y1, y2, y3, y4, y5, y6⟩ := hSw
      go_simp
      try with_reducible rfl
    case hS1p => assumption
    try simp only [Act.put, List.setIfInBounds_toArray, List.set_cons_zero, List.set_cons_succ]
    refine wpAnyH_take (i := 3) (oi := ?oi3p) (v := ?v3p) ?hi3p ?hs3p ?hf3p ?hr3p ?hQ3p ?hy3p ?hS3p ?h3p
    case hi3p => exact (by simp only [List.getElem?_toArray, List.getElem?_cons_succ, List.getElem?_cons_zero]; rfl)
    case hs3p => kernel_rfl
    case hf3p => kernel_rfl
    case hr3p => kernel_rfl
    case hQ3p => exact fun _ _ _ h => h
    case hy3p =>
      refine Or.inl ⟨rfl, ?_⟩
      intro W hSw
      obtain ⟨y0, y1, y2, y3, y4, y5, y6⟩ := hSw
      go_simp
      try with_reducible rfl
    case hS3p => assumption
    try simp only [Act.put, List.setIfInBounds_toArray, List.set_cons_zero, List.set_cons_succ]
    refine wpAnyH_take (i := 4) (oi := ?oi4p) (v := ?v4p) ?hi4p ?hs4p ?hf4p ?hr4p ?hQ4p ?hy4p ?hS4p ?h4p
    case hi4p => exact (by simp only [List.getElem?_toArray, List.getElem?_cons_succ, List.getElem?_cons_zero]; rfl)
    case hs4p => kernel_rfl
    case hf4p => kernel_rfl
    case hr4p => kernel_rfl
    case hQ4p => exact fun _ _ _ h => h
    case hy4p =>
      refine Or.inl ⟨rfl, ?_⟩
      intro W hSw
      obtain ⟨y0, y1, y2, y3, y4, y5, y6⟩ := hSw
      go_simp
      try with_reducible rfl
    case hS4p => assumption
    try simp only [Act.put, List.setIfInBounds_toArray, List.set_cons_zero, List.set_cons_succ]
    refine wpAnyH_take (i := 5) (oi := ?oi5p) (v := ?v5p) ?hi5p ?hs5p ?hf5p ?hr5p ?hQ5p ?hy5p ?hS5p ?h5p
    case hi5p => exact (by simp only [List.getElem?_toArray, List.getElem?_cons_succ, List.getElem?_cons_zero]; rfl)
    case hs5p => kernel_rfl
    case hf5p => kernel_rfl
    case hr5p => kernel_rfl
    case hQ5p => exact fun _ _ _ h => h
    case hy5p =>
      refine Or.inl ⟨rfl, ?_⟩
      intro W hSw
      obtain ⟨y0, y1, y2, y3, y4, y5, y6⟩ := hSw
      go_simp
      try with_reducible rfl
    case hS5p => assumption
    try simp only [Act.put, List.setIfInBounds_toArray, List.set_cons_zero, List.set_cons_succ]
    refine wpAnyH_take (i := 6) (oi := ?oi6p) (v := ?v6p) ?hi6p ?hs6p ?hf6p ?hr6p ?hQ6p ?hy6p ?hS6p ?h6p
    case hi6p => exact (by simp only [List.getElem?_toArray, List.getElem?_cons_succ, List.getElem?_cons_zero]; rfl)
    case hs6p => kernel_rfl
    case hf6p => kernel_rfl
    case hr6p => kernel_rfl
    case hQ6p => exact fun _ _ _ h => h
    case hy6p =>
      refine Or.inl ⟨rfl, ?_⟩
      intro W hSw
      obtain ⟨y0, y1, y2, y3, y4, y5, y6⟩ := hSw
      go_simp
      try with_reducible rfl
    case hS6p => assumption
    try simp only [Act.put, List.setIfInBounds_toArray, List.set_cons_zero, List.set_cons_succ]
    refine wpAnyH_ready (rs := [2, 9, 10]) (by kernel_rfl) (by simp) ?_
    refine AllReadyH.cons (o := _) rfl (fun K hK => ?_) (AllReadyH.cons (o := _) rfl (fun K hK => ?_) (AllReadyH.cons (o := _) rfl (fun K hK => ?_) AllReadyH.nil))
    · go_simp
      refine (HC2.out w5).mono ?_
      rintro r w11 ⟨rfl, hb11⟩
      have HB11 := Lib.hid (HB5.out.trans (hb11.mono HB5.out.size))
      clear hb11
      refine hK.out _ _ (HCE.out _ (HB11.out)) (fun hHeld => ?_)
      clear hK K
      try simp only [Act.put, List.setIfInBounds_toArray, List.set_cons_zero, List.set_cons_succ]
      refine wpAnyH_ready (rs := [7, 9, 10]) (by kernel_rfl) (by simp) ?_
      refine AllReadyH.cons (o := _) rfl (fun K hK => ?_) (AllReadyH.cons (o := _) rfl (fun K hK => ?_) (AllReadyH.cons (o := _) rfl (fun K hK => ?_) AllReadyH.nil))
      · go_simp
        refine (HC7.out w11).mono ?_
        rintro r w12 ⟨rfl, hb12⟩
        have HB12 := Lib.hid (HB11.out.trans (hb12.mono HB11.out.size))
        clear hb12
        refine hK.out _ _ (HCE.out _ (HB12.out)) (fun hHeld => ?_)
        clear hK K
        try simp only [Act.put, List.setIfInBounds_toArray, List.set_cons_zero, List.set_cons_succ]
        refine wpAnyH_ready (rs := [8, 9, 10]) (by kernel_rfl) (by simp) ?_
        refine AllReadyH.cons (o := _) rfl (fun K hK => ?_) (AllReadyH.cons (o := _) rfl (fun K hK => ?_) (AllReadyH.cons (o := _) rfl (fun K hK => ?_) AllReadyH.nil))
        · go_simp
          refine (HC8.out w12).mono ?_
          rintro r w13 ⟨rfl, hb13⟩
          have HB13 := Lib.hid (HB12.out.trans (hb13.mono HB12.out.size))
          clear hb13
          refine hK.out _ _ (HCE.out _ (HB13.out)) (fun hHeld => ?_)
          clear hK K
          try simp only [Act.put, List.setIfInBounds_toArray, List.set_cons_zero, List.set_cons_succ]
          refine wpAnyH_ready (rs := [9, 10]) (by kernel_rfl) (by simp) ?_
          refine AllReadyH.cons (o := _) rfl (fun K hK => ?_) (AllReadyH.cons (o := _) rfl (fun K hK => ?_) AllReadyH.nil)
          · go_simp
            refine hK.out _ _ (HCE.out _ ((HB13.out.alloc HB13.out.size _))) (fun hHeld => ?_)
            clear hK K
            try simp only [Act.put, List.setIfInBounds_toArray, List.set_cons_zero, List.set_cons_succ]
            obtain ⟨gA, hg14⟩ : ∃ gA, gA = w13.heap.size := ⟨_, rfl⟩
            obtain ⟨w14, hw14⟩ : ∃ w14, w14 = w13.alloc (.cells #[.int .i64 0] 3) := ⟨_, rfl⟩
            have HA14 : Hid (w14.heap[gA]? = some (.cells #[.int .i64 0] 3 (0, 0))) := by rw [hw14, hg14]; exact heap_alloc_new w13 _
            have HB14 : Hid (Below w1.heap.size w1 w14) := by rw [hw14]; exact HB13.out.alloc HB13.out.size _
            have LgA : Hid (w1.heap.size ≤ gA) := by rw [hg14]; exact HB13.out.size
            rw [← hw14, ← hg14]
            clear hw14 hg14
            refine wpAnyH_ready (rs := [10]) (by kernel_rfl) (by simp) ?_
            refine AllReadyH.cons (o := _) rfl (fun K hK => ?_) AllReadyH.nil
            go_simp
            refine hK.out _ _ (HCE.out _ ((HB14.out.alloc HB14.out.size _))) (fun hHeld => ?_)
            clear hK K
            try simp only [Act.put, List.setIfInBounds_toArray, List.set_cons_zero, List.set_cons_succ]
            obtain ⟨gC, hg15⟩ : ∃ gC, gC = w14.heap.size := ⟨_, rfl⟩
            obtain ⟨w15, hw15⟩ : ∃ w15, w15 = w14.alloc (.cells #[.int .i64 0] 3) := ⟨_, rfl⟩
            have HC15 : Hid (w15.heap[gC]? = some (.cells #[.int .i64 0] 3 (0, 0))) := by rw [hw15, hg15]; exact heap_alloc_new w14 _
            have HB15 : Hid (Below w1.heap.size w1 w15) := by rw [hw15]; exact HB14.out.alloc HB14.out.size _
            have LgC : Hid (w1.heap.size ≤ gC) := by rw [hg15]; exact HB14.out.size
            have HNE : Hid (gA ≠ gC) := by have := lt_of_block HA14.out; simp only [Hid]; omega
            have HA15 : Hid (w15.heap[gA]? = some (.cells #[.int .i64 0] 3 (0, 0))) := by rw [hw15]; exact (Below.heap_alloc w14 _ _ (lt_of_block HA14.out)).trans HA14.out
            rw [← hw15, ← hg15]
            clear hw15 hg15
            refine wpAnyH_ready (rs := [11]) (by kernel_rfl) (by simp) ?_
            refine AllReadyH.cons (o := _) rfl (fun K hK => ?_) AllReadyH.nil
            have qA := cell_of_one HA15.out
            have fA := free_of_one HA15.out
            go_simp
            obtain ⟨w16, hw16⟩ : ∃ w9, w9 = w15.setCell ⟨gA, 0, none⟩ (.int .i64 ra) := ⟨_, rfl⟩
            have HA16 : Hid (w16.heap[gA]? = some (.cells #[.int .i64 ra] 3 (0, 0))) := by rw [hw16]; exact one_setCell HA15.out
            have HC16 : Hid (w16.heap[gC]? = some (.cells #[.int .i64 0] 3 (0, 0))) := by rw [hw16]; exact (Below.heap_setCell _ _ _ _ (fun e => HNE.out e.symm)).trans HC15.out
            have HB16 : Hid (Below w1.heap.size w1 w16) := by rw [hw16]; exact HB15.out.setCell LgA.out _
            rw [← hw16]
            clear hw16 qA fA
            refine hK.out _ _ (HCE.out _ (HB16.out)) (fun hHeld => ?_)
            clear hK K
            try simp only [Act.put, List.setIfInBounds_toArray, List.set_cons_zero, List.set_cons_succ]
            refine wpAnyH_ready (rs := [12]) (by kernel_rfl) (by simp) ?_
            refine AllReadyH.cons (o := _) rfl (fun K hK => ?_) AllReadyH.nil
            have qC := cell_of_one HC16.out
            have fC := free_of_one HC16.out
            go_simp
            obtain ⟨w17, hw17⟩ : ∃ w9, w9 = w16.setCell ⟨gC, 0, none⟩ (.int .i64 wi) := ⟨_, rfl⟩
            have HC17 : Hid (w17.heap[gC]? = some (.cells #[.int .i64 wi] 3 (0, 0))) := by rw [hw17]; exact one_setCell HC16.out
            have HA17 : Hid (w17.heap[gA]? = some (.cells #[.int .i64 ra] 3 (0, 0))) := by rw [hw17]; exact (Below.heap_setCell _ _ _ _ HNE.out).trans HA16.out
            have HB17 : Hid (Below w1.heap.size w1 w17) := by rw [hw17]; exact HB16.out.setCell LgC.out _
            rw [← hw17]
            clear hw17 qC fC
            refine hK.out _ _ (HCE.out _ (HB17.out)) (fun hHeld => ?_)
            clear hK K
            try simp only [Act.put, List.setIfInBounds_toArray, List.set_cons_zero, List.set_cons_succ]
            refine wpAnyH_done (by kernel_rfl) ?_ _
            try go_wp2_with fail
            go_meet
            exact ⟨gA, gC, rfl, rfl, Lib.hid ⟨HA17.out, HC17.out, HB17.out⟩⟩
          · go_simp
            refine hK.out _ _ (HCE.out _ ((HB13.out.alloc HB13.out.size _))) (fun hHeld => ?_)
            clear hK K
            try simp only [Act.put, List.setIfInBounds_toArray, List.set_cons_zero, List.set_cons_succ]
            obtain ⟨gC, hg18⟩ : ∃ gC, gC = w13.heap.size := ⟨_, rfl⟩
            obtain ⟨w18, hw18⟩ : ∃ w18, w18 = w13.alloc (.cells #[.int .i64 0] 3) := ⟨_, rfl⟩
            have HC18 : Hid (w18.heap[gC]? = some (.cells #[.int .i64 0] 3 (0, 0))) := by rw [hw18, hg18]; exact heap_alloc_new w13 _
            have HB18 : Hid (Below w1.heap.size w1 w18) := by rw [hw18]; exact HB13.out.alloc HB13.out.size _
            have LgC : Hid (w1.heap.size ≤ gC) := by rw [hg18]; exact HB13.out.size
            rw [← hw18, ← hg18]
            clear hw18 hg18
            refine wpAnyH_ready (rs := [9]) (by kernel_rfl) (by simp) ?_
            refine AllReadyH.cons (o := _) rfl (fun K hK => ?_) AllReadyH.nil
            go_simp
            refine hK.out _ _ (HCE.out _ ((HB18.out.alloc HB18.out.size _))) (fun hHeld => ?_)
            clear hK K
            try simp only [Act.put, List.setIfInBounds_toArray, List.set_cons_zero, List.set_cons_succ]
            obtain ⟨gA, hg19⟩ : ∃ gA, gA = w18.heap.size := ⟨_, rfl⟩
            obtain ⟨w19, hw19⟩ : ∃ w19, w19 = w18.alloc (.cells #[.int .i64 0] 3) := ⟨_, rfl⟩
            have HA19 : Hid (w19.heap[gA]? = some (.cells #[.int .i64 0] 3 (0, 0))) := by rw [hw19, hg19]; exact heap_alloc_new w18 _
            have HB19 : Hid (Below w1.heap.size w1 w19) := by rw [hw19]; exact HB18.out.alloc HB18.out.size _
            have LgA : Hid (w1.heap.size ≤ gA) := by rw [hg19]; exact HB18.out.size
            have HNE : Hid (gA ≠ gC) := by have := lt_of_block HC18.out; simp only [Hid]; omega
            have HC19 : Hid (w19.heap[gC]? = some (.cells #[.int .i64 0] 3 (0, 0))) := by rw [hw19]; exact (Below.heap_alloc w18 _ _ (lt_of_block HC18.out)).trans HC18.out
            rw [← hw19, ← hg19]
            clear hw19 hg19
            refine wpAnyH_ready (rs := [11]) (by kernel_rfl) (by simp) ?_
            refine AllReadyH.cons (o := _) rfl (fun K hK => ?_) AllReadyH.nil
            have qA := cell_of_one HA19.out
            have fA := free_of_one HA19.out
            go_simp
            obtain ⟨w20, hw20⟩ : ∃ w9, w9 = w19.setCell ⟨gA, 0, none⟩ (.int .i64 ra) := ⟨_, rfl⟩
            have HA20 : Hid (w20.heap[gA]? = some (.cells #[.int .i64 ra] 3 (0, 0))) := by rw [hw20]; exact one_setCell HA19.out
            have HC20 : Hid (w20.heap[gC]? = some (.cells #[.int .i64 0] 3 (0, 0))) := by rw [hw20]; exact (Below.heap_setCell _ _ _ _ (fun e => HNE.out e.symm)).trans HC19.out
            have HB20 : Hid (Below w1.heap.size w1 w20) := by rw [hw20]; exact HB19.out.setCell LgA.out _
            rw [← hw20]
            clear hw20 qA fA
            refine hK.out _ _ (HCE.out _ (HB20.out)) (fun hHeld => ?_)
            clear hK K
            try simp only [Act.put, List.setIfInBounds_toArray, List.set_cons_zero, List.set_cons_succ]
            refine wpAnyH_ready (rs := [12]) (by kernel_rfl) (by simp) ?_
            refine AllReadyH.cons (o := _) rfl (fun K hK => ?_) AllReadyH.nil
            have qC := cell_of_one HC20.out
            have fC := free_of_one HC20.out
            go_simp
            obtain ⟨w21, hw21⟩ : ∃ w9, w9 = w20.setCell ⟨gC, 0, none⟩ (.int .i64 wi) := ⟨_, rfl⟩
            have HC21 : Hid (w21.heap[gC]? = some (.cells #[.int .i64 wi] 3 (0, 0))) := by rw [hw21]; exact one_setCell HC20.out
            have HA21 : Hid (w21.heap[gA]? = some (.cells #[.int .i64 ra] 3 (0, 0))) := by rw [hw21]; exact (Below.heap_setCell _ _ _ _ HNE.out).trans HA20.out
            have HB21 : Hid (Below w1.heap.size w1 w21) := by rw [hw21]; exact HB20.out.setCell LgC.out _
            rw [← hw21]
            clear hw21 qC fC
            refine hK.out _ _ (HCE.out _ (HB21.out)) (fun hHeld => ?_)
            clear hK K
            try simp only [Act.put, List.setIfInBounds_toArray, List.set_cons_zero, List.set_cons_succ]
            refine wpAnyH_done (by kernel_rfl) ?_ _
            try go_wp2_with fail
            go_meet
            exact ⟨gA, gC, rfl, rfl, Lib.hid ⟨HA21.out, HC21.out, HB21.out⟩⟩
        · go_simp
          refine hK.out _ _ (HCE.out _ ((HB12.out.alloc HB12.out.size _))) (fun hHeld => ?_)
          clear hK K
          try simp only [Act.put, List.setIfInBounds_toArray, List.set_cons_zero, List.set_cons_succ]
          obtain ⟨gA, hg22⟩ : ∃ gA, gA = w12.heap.size := ⟨_, rfl⟩
          obtain ⟨w22, hw22⟩ : ∃ w22, w22 = w12.alloc (.cells #[.int .i64 0] 3) := ⟨_, rfl⟩
          have HA22 : Hid (w22.heap[gA]? = some (.cells #[.int .i64 0] 3 (0, 0))) := by rw [hw22, hg22]; exact heap_alloc_new w12 _
          have HB22 : Hid (Below w1.heap.size w1 w22) := by rw [hw22]; exact HB12.out.alloc HB12.out.size _
          have LgA : Hid (w1.heap.size ≤ gA) := by rw [hg22]; exact HB12.out.size
          rw [← hw22, ← hg22]
          clear hw22 hg22
          refine wpAnyH_ready (rs := [8, 10]) (by kernel_rfl) (by simp) ?_
          refine AllReadyH.cons (o := _) rfl (fun K hK => ?_) (AllReadyH.cons (o := _) rfl (fun K hK => ?_) AllReadyH.nil)
          · go_simp
            refine (HC8.out w22).mono ?_
            rintro r w23 ⟨rfl, hb23⟩
            have HB23 := Lib.hid (HB22.out.trans (hb23.mono HB22.out.size))
            have HA23 : Hid (w23.heap[gA]? = some (.cells #[.int .i64 0] 3 (0, 0))) := (hb23.block gA (lt_of_block HA22.out)).trans HA22.out
            clear hb23
            refine hK.out _ _ (HCE.out _ (HB23.out)) (fun hHeld => ?_)
            clear hK K
            try simp only [Act.put, List.setIfInBounds_toArray, List.set_cons_zero, List.set_cons_succ]
            refine wpAnyH_ready (rs := [10]) (by kernel_rfl) (by simp) ?_
            refine AllReadyH.cons (o := _) rfl (fun K hK => ?_) AllReadyH.nil
            go_simp
            refine hK.out _ _ (HCE.out _ ((HB23.out.alloc HB23.out.size _))) (fun hHeld => ?_)
            clear hK K
            try simp only [Act.put, List.setIfInBounds_toArray, List.set_cons_zero, List.set_cons_succ]
            obtain ⟨gC, hg24⟩ : ∃ gC, gC = w23.heap.size := ⟨_, rfl⟩
            obtain ⟨w24, hw24⟩ : ∃ w24, w24 = w23.alloc (.cells #[.int .i64 0] 3) := ⟨_, rfl⟩
            have HC24 : Hid (w24.heap[gC]? = some (.cells #[.int .i64 0] 3 (0, 0))) := by rw [hw24, hg24]; exact heap_alloc_new w23 _
            have HB24 : Hid (Below w1.heap.size w1 w24) := by rw [hw24]; exact HB23.out.alloc HB23.out.size _
            have LgC : Hid (w1.heap.size ≤ gC) := by rw [hg24]; exact HB23.out.size
            have HNE : Hid (gA ≠ gC) := by have := lt_of_block HA23.out; simp only [Hid]; omega
            have HA24 : Hid (w24.heap[gA]? = some (.cells #[.int .i64 0] 3 (0, 0))) := by rw [hw24]; exact (Below.heap_alloc w23 _ _ (lt_of_block HA23.out)).trans HA23.out
            rw [← hw24, ← hg24]
            clear hw24 hg24
            refine wpAnyH_ready (rs := [11]) (by kernel_rfl) (by simp) ?_
            refine AllReadyH.cons (o := _) rfl (fun K hK => ?_) AllReadyH.nil
            have qA := cell_of_one HA24.out
            have fA := free_of_one HA24.out
            go_simp
            obtain ⟨w25, hw25⟩ : ∃ w9, w9 = w24.setCell ⟨gA, 0, none⟩ (.int .i64 ra) := ⟨_, rfl⟩
            have HA25 : Hid (w25.heap[gA]? = some (.cells #[.int .i64 ra] 3 (0, 0))) := by rw [hw25]; exact one_setCell HA24.out
            have HC25 : Hid (w25.heap[gC]? = some (.cells #[.int .i64 0] 3 (0, 0))) := by rw [hw25]; exact (Below.heap_setCell _ _ _ _ (fun e => HNE.out e.symm)).trans HC24.out
            have HB25 : Hid (Below w1.heap.size w1 w25) := by rw [hw25]; exact HB24.out.setCell LgA.out _
            rw [← hw25]
            clear hw25 qA fA
            refine hK.out _ _ (HCE.out _ (HB25.out)) (fun hHeld => ?_)
            clear hK K
            try simp only [Act.put, List.setIfInBounds_toArray, List.set_cons_zero, List.set_cons_succ]
            refine wpAnyH_ready (rs := [12]) (by kernel_rfl) (by simp) ?_
            refine AllReadyH.cons (o := _) rfl (fun K hK => ?_) AllReadyH.nil
            have qC := cell_of_one HC25.out
            have fC := free_of_one HC25.out
            go_simp
            obtain ⟨w26, hw26⟩ : ∃ w9, w9 = w25.setCell ⟨gC, 0, none⟩ (.int .i64 wi) := ⟨_, rfl⟩
            have HC26 : Hid (w26.heap[gC]? = some (.cells #[.int .i64 wi] 3 (0, 0))) := by rw [hw26]; exact one_setCell HC25.out
            have HA26 : Hid (w26.heap[gA]? = some (.cells #[.int .i64 ra] 3 (0, 0))) := by rw [hw26]; exact (Below.heap_setCell _ _ _ _ HNE.out).trans HA25.out
            have HB26 : Hid (Below w1.heap.size w1 w26) := by rw [hw26]; exact HB25.out.setCell LgC.out _
            rw [← hw26]
            clear hw26 qC fC
            refine hK.out _ _ (HCE.out _ (HB26.out)) (fun hHeld => ?_)
            clear hK K
            try simp only [Act.put, List.setIfInBounds_toArray, List.set_cons_zero, List.set_cons_succ]
            refine wpAnyH_done (by kernel_rfl) ?_ _
            try go_wp2_with fail
            go_meet
            exact ⟨gA, gC, rfl, rfl, Lib.hid ⟨HA26.out, HC26.out, HB26.out⟩⟩
          · go_simp
            refine hK.out _ _ (HCE.out _ ((HB22.out.alloc HB22.out.size _))) (fun hHeld => ?_)
            clear hK K
            try simp only [Act.put, List.setIfInBounds_toArray, List.set_cons_zero, List.set_cons_succ]
            obtain ⟨gC, hg27⟩ : ∃ gC, gC = w22.heap.size := ⟨_, rfl⟩
            obtain ⟨w27, hw27⟩ : ∃ w27, w27 = w22.alloc (.cells #[.int .i64 0] 3) := ⟨_, rfl⟩
            have HC27 : Hid (w27.heap[gC]? = some (.cells #[.int .i64 0] 3 (0, 0))) := by rw [hw27, hg27]; exact heap_alloc_new w22 _
            have HB27 : Hid (Below w1.heap.size w1 w27) := by rw [hw27]; exact HB22.out.alloc HB22.out.size _
            have LgC : Hid (w1.heap.size ≤ gC) := by rw [hg27]; exact HB22.out.size
            have HNE : Hid (gA ≠ gC) := by have := lt_of_block HA22.out; simp only [Hid]; omega
            have HA27 : Hid (w27.heap[gA]? = some (.cells #[.int .i64 0] 3 (0, 0))) := by rw [hw27]; exact (Below.heap_alloc w22 _ _ (lt_of_block HA22.out)).trans HA22.out
            rw [← hw27, ← hg27]
            clear hw27 hg27
            refine wpAnyH_ready (rs := [8]) (by kernel_rfl) (by simp) ?_
            refine AllReadyH.cons (o := _) rfl (fun K hK => ?_) AllReadyH.nil
            go_simp
            refine (HC8.out w27).mono ?_
            rintro r w28 ⟨rfl, hb28⟩
            have HB28 := Lib.hid (HB27.out.trans (hb28.mono HB27.out.size))
            have HA28 : Hid (w28.heap[gA]? = some (.cells #[.int .i64 0] 3 (0, 0))) := (hb28.block gA (lt_of_block HA27.out)).trans HA27.out
            have HC28 : Hid (w28.heap[gC]? = some (.cells #[.int .i64 0] 3 (0, 0))) := (hb28.block gC (lt_of_block HC27.out)).trans HC27.out
            clear hb28
            refine hK.out _ _ (HCE.out _ (HB28.out)) (fun hHeld => ?_)
            clear hK K
            try simp only [Act.put, List.setIfInBounds_toArray, List.set_cons_zero, List.set_cons_succ]
            refine wpAnyH_ready (rs := [11]) (by kernel_rfl) (by simp) ?_
            refine AllReadyH.cons (o := _) rfl (fun K hK => ?_) AllReadyH.nil
            have qA := cell_of_one HA28.out
            have fA := free_of_one HA28.out
            go_simp
            obtain ⟨w29, hw29⟩ : ∃ w9, w9 = w28.setCell ⟨gA, 0, none⟩ (.int .i64 ra) := ⟨_, rfl⟩
            have HA29 : Hid (w29.heap[gA]? = some (.cells #[.int .i64 ra] 3 (0, 0))) := by rw [hw29]; exact one_setCell HA28.out
            have HC29 : Hid (w29.heap[gC]? = some (.cells #[.int .i64 0] 3 (0, 0))) := by rw [hw29]; exact (Below.heap_setCell _ _ _ _ (fun e => HNE.out e.symm)).trans HC28.out
            have HB29 : Hid (Below w1.heap.size w1 w29) := by rw [hw29]; exact HB28.out.setCell LgA.out _
            rw [← hw29]
            clear hw29 qA fA
            refine hK.out _ _ (HCE.out _ (HB29.out)) (fun hHeld => ?_)
            clear hK K
            try simp only [Act.put, List.setIfInBounds_toArray, List.set_cons_zero, List.set_cons_succ]
            refine wpAnyH_ready (rs := [12]) (by kernel_rfl) (by simp) ?_
            refine AllReadyH.cons (o := _) rfl (fun K hK => ?_) AllReadyH.nil
            have qC := cell_of_one HC29.out
            have fC := free_of_one HC29.out
            go_simp
            obtain ⟨w30, hw30⟩ : ∃ w9, w9 = w29.setCell ⟨gC, 0, none⟩ (.int .i64 wi) := ⟨_, rfl⟩
            have HC30 : Hid (w30.heap[gC]? = some (.cells #[.int .i64 wi] 3 (0, 0))) := by rw [hw30]; exact one_setCell HC29.out
            have HA30 : Hid (w30.heap[gA]? = some (.cells #[.int .i64 ra] 3 (0, 0))) := by rw [hw30]; exact (Below.heap_setCell _ _ _ _ HNE.out).trans HA29.out
            have HB30 : Hid (Below w1.heap.size w1 w30) := by rw [hw30]; exact HB29.out.setCell LgC.out _
            rw [← hw30]
            clear hw30 qC fC
            refine hK.out _ _ (HCE.out _ (HB30.out)) (fun hHeld => ?_)
            clear hK K
            try simp only [Act.put, List.setIfInBounds_toArray, List.set_cons_zero, List.set_cons_succ]
            refine wpAnyH_done (by kernel_rfl) ?_ _
            try go_wp2_with fail
            go_meet
            exact ⟨gA, gC, rfl, rfl, Lib.hid ⟨HA30.out, HC30.out, HB30.out⟩⟩
        · go_simp
          refine hK.out _ _ (HCE.out _ ((HB12.out.alloc HB12.out.size _))) (fun hHeld => ?_)
          clear hK K
          try simp only [Act.put, List.setIfInBounds_toArray, List.set_cons_zero, List.set_cons_succ]
          obtain ⟨gC, hg31⟩ : ∃ gC, gC = w12.heap.size := ⟨_, rfl⟩
          obtain ⟨w31, hw31⟩ : ∃ w31, w31 = w12.alloc (.cells #[.int .i64 0] 3) := ⟨_, rfl⟩
          have HC31 : Hid (w31.heap[gC]? = some (.cells #[.int .i64 0] 3 (0, 0))) := by rw [hw31, hg31]; exact heap_alloc_new w12 _
          have HB31 : Hid (Below w1.heap.size w1 w31) := by rw [hw31]; exact HB12.out.alloc HB12.out.size _
          have LgC : Hid (w1.heap.size ≤ gC) := by rw [hg31]; exact HB12.out.size
          rw [← hw31, ← hg31]
          clear hw31 hg31
          refine wpAnyH_ready (rs := [8, 9]) (by kernel_rfl) (by simp) ?_
          refine AllReadyH.cons (o := _) rfl (fun K hK => ?_) (AllReadyH.cons (o := _) rfl (fun K hK => ?_) AllReadyH.nil)
          · go_simp
            refine (HC8.out w31).mono ?_
            rintro r w32 ⟨rfl, hb32⟩
            have HB32 := Lib.hid (HB31.out.trans (hb32.mono HB31.out.size))
            have HC32 : Hid (w32.heap[gC]? = some (.cells #[.int .i64 0] 3 (0, 0))) := (hb32.block gC (lt_of_block HC31.out)).trans HC31.out
            clear hb32
            refine hK.out _ _ (HCE.out _ (HB32.out)) (fun hHeld => ?_)
            clear hK K
            try simp only [Act.put, List.setIfInBounds_toArray, List.set_cons_zero, List.set_cons_succ]
            refine wpAnyH_ready (rs := [9]) (by kernel_rfl) (by simp) ?_
            refine AllReadyH.cons (o := _) rfl (fun K hK => ?_) AllReadyH.nil
            go_simp
            refine hK.out _ _ (HCE.out _ ((HB32.out.alloc HB32.out.size _))) (fun hHeld => ?_)
            clear hK K
            try simp only [Act.put, List.setIfInBounds_toArray, List.set_cons_zero, List.set_cons_succ]
            obtain ⟨gA, hg33⟩ : ∃ gA, gA = w32.heap.size := ⟨_, rfl⟩
            obtain ⟨w33, hw33⟩ : ∃ w33, w33 = w32.alloc (.cells #[.int .i64 0] 3) := ⟨_, rfl⟩
            have HA33 : Hid (w33.heap[gA]? = some (.cells #[.int .i64 0] 3 (0, 0))) := by rw [hw33, hg33]; exact heap_alloc_new w32 _
            have HB33 : Hid (Below w1.heap.size w1 w33) := by rw [hw33]; exact HB32.out.alloc HB32.out.size _
            have LgA : Hid (w1.heap.size ≤ gA) := by rw [hg33]; exact HB32.out.size
            have HNE : Hid (gA ≠ gC) := by have := lt_of_block HC32.out; simp only [Hid]; omega
            have HC33 : Hid (w33.heap[gC]? = some (.cells #[.int .i64 0] 3 (0, 0))) := by rw [hw33]; exact (Below.heap_alloc w32 _ _ (lt_of_block HC32.out)).trans HC32.out
            rw [← hw33, ← hg33]
            clear hw33 hg33
            refine wpAnyH_ready (rs := [11]) (by kernel_rfl) (by simp) ?_
            refine AllReadyH.cons (o := _) rfl (fun K hK => ?_) AllReadyH.nil
            have qA := cell_of_one HA33.out
            have fA := free_of_one HA33.out
            go_simp
            obtain ⟨w34, hw34⟩ : ∃ w9, w9 = w33.setCell ⟨gA, 0, none⟩ (.int .i64 ra) := ⟨_, rfl⟩
            have HA34 : Hid (w34.heap[gA]? = some (.cells #[.int .i64 ra] 3 (0, 0))) := by rw [hw34]; exact one_setCell HA33.out
            have HC34 : Hid (w34.heap[gC]? = some (.cells #[.int .i64 0] 3 (0, 0))) := by rw [hw34]; exact (Below.heap_setCell _ _ _ _ (fun e => HNE.out e.symm)).trans HC33.out
            have HB34 : Hid (Below w1.heap.size w1 w34) := by rw [hw34]; exact HB33.out.setCell LgA.out _
            rw [← hw34]
            clear hw34 qA fA
            refine hK.out _ _ (HCE.out _ (HB34.out)) (fun hHeld => ?_)
            clear hK K
            try simp only [Act.put, List.setIfInBounds_toArray, List.set_cons_zero, List.set_cons_succ]
            refine wpAnyH_ready (rs := [12]) (by kernel_rfl) (by simp) ?_
            refine AllReadyH.cons (o := _) rfl (fun K hK => ?_) AllReadyH.nil
            have qC := cell_of_one HC34.out
            have fC := free_of_one HC34.out
            go_simp
            obtain ⟨w35, hw35⟩ : ∃ w9, w9 = w34.setCell ⟨gC, 0, none⟩ (.int .i64 wi) := ⟨_, rfl⟩
            have HC35 : Hid (w35.heap[gC]? = some (.cells #[.int .i64 wi] 3 (0, 0))) := by rw [hw35]; exact one_setCell HC34.out
            have HA35 : Hid (w35.heap[gA]? = some (.cells #[.int .i64 ra] 3 (0, 0))) := by rw [hw35]; exact (Below.heap_setCell _ _ _ _ HNE.out).trans HA34.out
            have HB35 : Hid (Below w1.heap.size w1 w35) := by rw [hw35]; exact HB34.out.setCell LgC.out _
            rw [← hw35]
            clear hw35 qC fC
            refine hK.out _ _ (HCE.out _ (HB35.out)) (fun hHeld => ?_)
            clear hK K
            try simp only [Act.put, List.setIfInBounds_toArray, List.set_cons_zero, List.set_cons_succ]
            refine wpAnyH_done (by kernel_rfl) ?_ _
            try go_wp2_with fail
            go_meet
            exact ⟨gA, gC, rfl, rfl, Lib.hid ⟨HA35.out, HC35.out, HB35.out⟩⟩
          · go_simp
            refine hK.out _ _ (HCE.out _ ((HB31.out.alloc HB31.out.size _))) (fun hHeld => ?_)
            clear hK K
            try simp only [Act.put, List.setIfInBounds_toArray, List.set_cons_zero, List.set_cons_succ]
            obtain ⟨gA, hg36⟩ : ∃ gA, gA = w31.heap.size := ⟨_, rfl⟩
            obtain ⟨w36, hw36⟩ : ∃ w36, w36 = w31.alloc (.cells #[.int .i64 0] 3) := ⟨_, rfl⟩
            have HA36 : Hid (w36.heap[gA]? = some (.cells #[.int .i64 0] 3 (0, 0))) := by rw [hw36, hg36]; exact heap_alloc_new w31 _
            have HB36 : Hid (Below w1.heap.size w1 w36) := by rw [hw36]; exact HB31.out.alloc HB31.out.size _
            have LgA : Hid (w1.heap.size ≤ gA) := by rw [hg36]; exact HB31.out.size
            have HNE : Hid (gA ≠ gC) := by have := lt_of_block HC31.out; simp only [Hid]; omega
            have HC36 : Hid (w36.heap[gC]? = some (.cells #[.int .i64 0] 3 (0, 0))) := by rw [hw36]; exact (Below.heap_alloc w31 _ _ (lt_of_block HC31.out)).trans HC31.out
            rw [← hw36, ← hg36]
            clear hw36 hg36
            refine wpAnyH_ready (rs := [8]) (by kernel_rfl) (by simp) ?_
            refine AllReadyH.cons (o := _) rfl (fun K hK => ?_) AllReadyH.nil
            go_simp
            refine (HC8.out w36).mono ?_
            rintro r w37 ⟨rfl, hb37⟩
            have HB37 := Lib.hid (HB36.out.trans (hb37.mono HB36.out.size))
            have HA37 : Hid (w37.heap[gA]? = some (.cells #[.int .i64 0] 3 (0, 0))) := (hb37.block gA (lt_of_block HA36.out)).trans HA36.out
            have HC37 : Hid (w37.heap[gC]? = some (.cells #[.int .i64 0] 3 (0, 0))) := (hb37.block gC (lt_of_block HC36.out)).trans HC36.out
            clear hb37
            refine hK.out _ _ (HCE.out _ (HB37.out)) (fun hHeld => ?_)
            clear hK K
            try simp only [Act.put, List.setIfInBounds_toArray, List.set_cons_zero, List.set_cons_succ]
            refine wpAnyH_ready (rs := [11]) (by kernel_rfl) (by simp) ?_
            refine AllReadyH.cons (o := _) rfl (fun K hK => ?_) AllReadyH.nil
            have qA := cell_of_one HA37.out
            have fA := free_of_one HA37.out
            go_simp
            obtain ⟨w38, hw38⟩ : ∃ w9, w9 = w37.setCell ⟨gA, 0, none⟩ (.int .i64 ra) := ⟨_, rfl⟩
            have HA38 : Hid (w38.heap[gA]? = some (.cells #[.int .i64 ra] 3 (0, 0))) := by rw [hw38]; exact one_setCell HA37.out
            have HC38 : Hid (w38.heap[gC]? = some (.cells #[.int .i64 0] 3 (0, 0))) := by rw [hw38]; exact (Below.heap_setCell _ _ _ _ (fun e => HNE.out e.symm)).trans HC37.out
            have HB38 : Hid (Below w1.heap.size w1 w38) := by rw [hw38]; exact HB37.out.setCell LgA.out _
            rw [← hw38]
            clear hw38 qA fA
            refine hK.out _ _ (HCE.out _ (HB38.out)) (fun hHeld => ?_)
            clear hK K
            try simp only [Act.put, List.setIfInBounds_toArray, List.set_cons_zero, List.set_cons_succ]
            refine wpAnyH_ready (rs := [12]) (by kernel_rfl) (by simp) ?_
            refine AllReadyH.cons (o := _) rfl (fun K hK => ?_) AllReadyH.nil
            have qC := cell_of_one HC38.out
            have fC := free_of_one HC38.out
            go_simp
            obtain ⟨w39, hw39⟩ : ∃ w9, w9 = w38.setCell ⟨gC, 0, none⟩ (.int .i64 wi) := ⟨_, rfl⟩
            have HC39 : Hid (w39.heap[gC]? = some (.cells #[.int .i64 wi] 3 (0, 0))) := by rw [hw39]; exact one_setCell HC38.out
            have HA39 : Hid (w39.heap[gA]? = some (.cells #[.int .i64 ra] 3 (0, 0))) := by rw [hw39]; exact (Below.heap_setCell _ _ _ _ HNE.out).trans HA38.out
            have HB39 : Hid (Below w1.heap.size w1 w39) := by rw [hw39]; exact HB38.out.setCell LgC.out _
            rw [← hw39]
            clear hw39 qC fC
            refine hK.out _ _ (HCE.out _ (HB39.out)) (fun hHeld => ?_)
            clear hK K
            try simp only [Act.put, List.setIfInBounds_toArray, List.set_cons_zero, List.set_cons_succ]
            refine wpAnyH_done (by kernel_rfl) ?_ _
            try go_wp2_with fail
            go_meet
            exact ⟨gA, gC, rfl, rfl, Lib.hid ⟨HA39.out, HC39.out, HB39.out⟩⟩
      · go_simp
        refine hK.out _ _ (HCE.out _ ((HB11.out.alloc HB11.out.size _))) (fun hHeld => ?_)
        clear hK K
        try simp only [Act.put, List.setIfInBounds_toArray, List.set_cons_zero, List.set_cons_succ]
        obtain ⟨gA, hg40⟩ : ∃ gA, gA = w11.heap.size := ⟨_, rfl⟩
        obtain ⟨w40, hw40⟩ : ∃ w40, w40 = w11.alloc (.cells #[.int .i64 0] 3) := ⟨_, rfl⟩
        have HA40 : Hid (w40.heap[gA]? = some (.cells #[.int .i64 0] 3 (0, 0))) := by rw [hw40, hg40]; exact heap_alloc_new w11 _
        have HB40 : Hid (Below w1.heap.size w1 w40) := by rw [hw40]; exact HB11.out.alloc HB11.out.size _
        have LgA : Hid (w1.heap.size ≤ gA) := by rw [hg40]; exact HB11.out.size
        rw [← hw40, ← hg40]
        clear hw40 hg40
        refine wpAnyH_ready (rs := [7, 10]) (by kernel_rfl) (by simp) ?_
        refine AllReadyH.cons (o := _) rfl (fun K hK => ?_) (AllReadyH.cons (o := _) rfl (fun K hK => ?_) AllReadyH.nil)
        · go_simp
          refine (HC7.out w40).mono ?_
          rintro r w41 ⟨rfl, hb41⟩
          have HB41 := Lib.hid (HB40.out.trans (hb41.mono HB40.out.size))
          have HA41 : Hid (w41.heap[gA]? = some (.cells #[.int .i64 0] 3 (0, 0))) := (hb41.block gA (lt_of_block HA40.out)).trans HA40.out
          clear hb41
          refine hK.out _ _ (HCE.out _ (HB41.out)) (fun hHeld => ?_)
          clear hK K
          try simp only [Act.put, List.setIfInBounds_toArray, List.set_cons_zero, List.set_cons_succ]
          refine wpAnyH_ready (rs := [8, 10]) (by kernel_rfl) (by simp) ?_
          refine AllReadyH.cons (o := _) rfl (fun K hK => ?_) (AllReadyH.cons (o := _) rfl (fun K hK => ?_) AllReadyH.nil)
          · go_simp
            refine (HC8.out w41).mono ?_
            rintro r w42 ⟨rfl, hb42⟩
            have HB42 := Lib.hid (HB41.out.trans (hb42.mono HB41.out.size))
            have HA42 : Hid (w42.heap[gA]? = some (.cells #[.int .i64 0] 3 (0, 0))) := (hb42.block gA (lt_of_block HA41.out)).trans HA41.out
            clear hb42
            refine hK.out _ _ (HCE.out _ (HB42.out)) (fun hHeld => ?_)
            clear hK K
            try simp only [Act.put, List.setIfInBounds_toArray, List.set_cons_zero, List.set_cons_succ]
            refine wpAnyH_ready (rs := [10]) (by kernel_rfl) (by simp) ?_
            refine AllReadyH.cons (o := _) rfl (fun K hK => ?_) AllReadyH.nil
            go_simp
            refine hK.out _ _ (HCE.out _ ((HB42.out.alloc HB42.out.size _))) (fun hHeld => ?_)
            clear hK K
            try simp only [Act.put, List.setIfInBounds_toArray, List.set_cons_zero, List.set_cons_succ]
            obtain ⟨gC, hg43⟩ : ∃ gC, gC = w42.heap.size := ⟨_, rfl⟩
            obtain ⟨w43, hw43⟩ : ∃ w43, w43 = w42.alloc (.cells #[.int .i64 0] 3) := ⟨_, rfl⟩
            have HC43 : Hid (w43.heap[gC]? = some (.cells #[.int .i64 0] 3 (0, 0))) := by rw [hw43, hg43]; exact heap_alloc_new w42 _
            have HB43 : Hid (Below w1.heap.size w1 w43) := by rw [hw43]; exact HB42.out.alloc HB42.out.size _
            have LgC : Hid (w1.heap.size ≤ gC) := by rw [hg43]; exact HB42.out.size
            have HNE : Hid (gA ≠ gC) := by have := lt_of_block HA42.out; simp only [Hid]; omega
            have HA43 : Hid (w43.heap[gA]? = some (.cells #[.int .i64 0] 3 (0, 0))) := by rw [hw43]; exact (Below.heap_alloc w42 _ _ (lt_of_block HA42.out)).trans HA42.out
            rw [← hw43, ← hg43]
            clear hw43 hg43
            refine wpAnyH_ready (rs := [11]) (by kernel_rfl) (by simp) ?_
            refine AllReadyH.cons (o := _) rfl (fun K hK => ?_) AllReadyH.nil
            have qA := cell_of_one HA43.out
            have fA := free_of_one HA43.out
            go_simp
            obtain ⟨w44, hw44⟩ : ∃ w9, w9 = w43.setCell ⟨gA, 0, none⟩ (.int .i64 ra) := ⟨_, rfl⟩
            have HA44 : Hid (w44.heap[gA]? = some (.cells #[.int .i64 ra] 3 (0, 0))) := by rw [hw44]; exact one_setCell HA43.out
            have HC44 : Hid (w44.heap[gC]? = some (.cells #[.int .i64 0] 3 (0, 0))) := by rw [hw44]; exact (Below.heap_setCell _ _ _ _ (fun e => HNE.out e.symm)).trans HC43.out
            have HB44 : Hid (Below w1.heap.size w1 w44) := by rw [hw44]; exact HB43.out.setCell LgA.out _
            rw [← hw44]
            clear hw44 qA fA
            refine hK.out _ _ (HCE.out _ (HB44.out)) (fun hHeld => ?_)
            clear hK K
            try simp only [Act.put, List.setIfInBounds_toArray, List.set_cons_zero, List.set_cons_succ]
            refine wpAnyH_ready (rs := [12]) (by kernel_rfl) (by simp) ?_
            refine AllReadyH.cons (o := _) rfl (fun K hK => ?_) AllReadyH.nil
            have qC := cell_of_one HC44.out
            have fC := free_of_one HC44.out
            go_simp
            obtain ⟨w45, hw45⟩ : ∃ w9, w9 = w44.setCell ⟨gC, 0, none⟩ (.int .i64 wi) := ⟨_, rfl⟩
            have HC45 : Hid (w45.heap[gC]? = some (.cells #[.int .i64 wi] 3 (0, 0))) := by rw [hw45]; exact one_setCell HC44.out
            have HA45 : Hid (w45.heap[gA]? = some (.cells #[.int .i64 ra] 3 (0, 0))) := by rw [hw45]; exact (Below.heap_setCell _ _ _ _ HNE.out).trans HA44.out
            have HB45 : Hid (Below w1.heap.size w1 w45) := by rw [hw45]; exact HB44.out.setCell LgC.out _
            rw [← hw45]
            clear hw45 qC fC
            refine hK.out _ _ (HCE.out _ (HB45.out)) (fun hHeld => ?_)
            clear hK K
            try simp only [Act.put, List.setIfInBounds_toArray, List.set_cons_zero, List.set_cons_succ]
            refine wpAnyH_done (by kernel_rfl) ?_ _
            try go_wp2_with fail
            go_meet
            exact ⟨gA, gC, rfl, rfl, Lib.hid ⟨HA45.out, HC45.out, HB45.out⟩⟩
          · go_simp
            refine hK.out _ _ (HCE.out _ ((HB41.out.alloc HB41.out.size _))) (fun hHeld => ?_)
            clear hK K
            try simp only [Act.put, List.setIfInBounds_toArray, List.set_cons_zero, List.set_cons_succ]
            obtain ⟨gC, hg46⟩ : ∃ gC, gC = w41.heap.size := ⟨_, rfl⟩
            obtain ⟨w46, hw46⟩ : ∃ w46, w46 = w41.alloc (.cells #[.int .i64 0] 3) := ⟨_, rfl⟩
            have HC46 : Hid (w46.heap[gC]? = some (.cells #[.int .i64 0] 3 (0, 0))) := by rw [hw46, hg46]; exact heap_alloc_new w41 _
            have HB46 : Hid (Below w1.heap.size w1 w46) := by rw [hw46]; exact HB41.out.alloc HB41.out.size _
            have LgC : Hid (w1.heap.size ≤ gC) := by rw [hg46]; exact HB41.out.size
            have HNE : Hid (gA ≠ gC) := by have := lt_of_block HA41.out; simp only [Hid]; omega
            have HA46 : Hid (w46.heap[gA]? = some (.cells #[.int .i64 0] 3 (0, 0))) := by rw [hw46]; exact (Below.heap_alloc w41 _ _ (lt_of_block HA41.out)).trans HA41.out
            rw [← hw46, ← hg46]
            clear hw46 hg46
            refine wpAnyH_ready (rs := [8]) (by kernel_rfl) (by simp) ?_
            refine AllReadyH.cons (o := _) rfl (fun K hK => ?_) AllReadyH.nil
            go_simp
            refine (HC8.out w46).mono ?_
            rintro r w47 ⟨rfl, hb47⟩
            have HB47 := Lib.hid (HB46.out.trans (hb47.mono HB46.out.size))
            have HA47 : Hid (w47.heap[gA]? = some (.cells #[.int .i64 0] 3 (0, 0))) := (hb47.block gA (lt_of_block HA46.out)).trans HA46.out
            have HC47 : Hid (w47.heap[gC]? = some (.cells #[.int .i64 0] 3 (0, 0))) := (hb47.block gC (lt_of_block HC46.out)).trans HC46.out
            clear hb47
            refine hK.out _ _ (HCE.out _ (HB47.out)) (fun hHeld => ?_)
            clear hK K
            try simp only [Act.put, List.setIfInBounds_toArray, List.set_cons_zero, List.set_cons_succ]
            refine wpAnyH_ready (rs := [11]) (by kernel_rfl) (by simp) ?_
            refine AllReadyH.cons (o := _) rfl (fun K hK => ?_) AllReadyH.nil
            have qA := cell_of_one HA47.out
            have fA := free_of_one HA47.out
            go_simp
            obtain ⟨w48, hw48⟩ : ∃ w9, w9 = w47.setCell ⟨gA, 0, none⟩ (.int .i64 ra) := ⟨_, rfl⟩
            have HA48 : Hid (w48.heap[gA]? = some (.cells #[.int .i64 ra] 3 (0, 0))) := by rw [hw48]; exact one_setCell HA47.out
            have HC48 : Hid (w48.heap[gC]? = some (.cells #[.int .i64 0] 3 (0, 0))) := by rw [hw48]; exact (Below.heap_setCell _ _ _ _ (fun e => HNE.out e.symm)).trans HC47.out
            have HB48 : Hid (Below w1.heap.size w1 w48) := by rw [hw48]; exact HB47.out.setCell LgA.out _
            rw [← hw48]
            clear hw48 qA fA
            refine hK.out _ _ (HCE.out _ (HB48.out)) (fun hHeld => ?_)
            clear hK K
            try simp only [Act.put, List.setIfInBounds_toArray, List.set_cons_zero, List.set_cons_succ]
            refine wpAnyH_ready (rs := [12]) (by kernel_rfl) (by simp) ?_
            refine AllReadyH.cons (o := _) rfl (fun K hK => ?_) AllReadyH.nil
            have qC := cell_of_one HC48.out
            have fC := free_of_one HC48.out
            go_simp
            obtain ⟨w49, hw49⟩ : ∃ w9, w9 = w48.setCell ⟨gC, 0, none⟩ (.int .i64 wi) := ⟨_, rfl⟩
            have HC49 : Hid (w49.heap[gC]? = some (.cells #[.int .i64 wi] 3 (0, 0))) := by rw [hw49]; exact one_setCell HC48.out
            have HA49 : Hid (w49.heap[gA]? = some (.cells #[.int .i64 ra] 3 (0, 0))) := by rw [hw49]; exact (Below.heap_setCell _ _ _ _ HNE.out).trans HA48.out
            have HB49 : Hid (Below w1.heap.size w1 w49) := by rw [hw49]; exact HB48.out.setCell LgC.out _
            rw [← hw49]
            clear hw49 qC fC
            refine hK.out _ _ (HCE.out _ (HB49.out)) (fun hHeld => ?_)
            clear hK K
            try simp only [Act.put, List.setIfInBounds_toArray, List.set_cons_zero, List.set_cons_succ]
            refine wpAnyH_done (by kernel_rfl) ?_ _
            try go_wp2_with fail
            go_meet
            exact ⟨gA, gC, rfl, rfl, Lib.hid ⟨HA49.out, HC49.out, HB49.out⟩⟩
        · go_simp
          refine hK.out _ _ (HCE.out _ ((HB40.out.alloc HB40.out.size _))) (fun hHeld => ?_)
          clear hK K
          try simp only [Act.put, List.setIfInBounds_toArray, List.set_cons_zero, List.set_cons_succ]
          obtain ⟨gC, hg50⟩ : ∃ gC, gC = w40.heap.size := ⟨_, rfl⟩
          obtain ⟨w50, hw50⟩ : ∃ w50, w50 = w40.alloc (.cells #[.int .i64 0] 3) := ⟨_, rfl⟩
          have HC50 : Hid (w50.heap[gC]? = some (.cells #[.int .i64 0] 3 (0, 0))) := by rw [hw50, hg50]; exact heap_alloc_new w40 _
          have HB50 : Hid (Below w1.heap.size w1 w50) := by rw [hw50]; exact HB40.out.alloc HB40.out.size _
          have LgC : Hid (w1.heap.size ≤ gC) := by rw [hg50]; exact HB40.out.size
          have HNE : Hid (gA ≠ gC) := by have := lt_of_block HA40.out; simp only [Hid]; omega
          have HA50 : Hid (w50.heap[gA]? = some (.cells #[.int .i64 0] 3 (0, 0))) := by rw [hw50]; exact (Below.heap_alloc w40 _ _ (lt_of_block HA40.out)).trans HA40.out
          rw [← hw50, ← hg50]
          clear hw50 hg50
          refine wpAnyH_ready (rs := [7]) (by kernel_rfl) (by simp) ?_
          refine AllReadyH.cons (o := _) rfl (fun K hK => ?_) AllReadyH.nil
          go_simp
          refine (HC7.out w50).mono ?_
          rintro r w51 ⟨rfl, hb51⟩
          have HB51 := Lib.hid (HB50.out.trans (hb51.mono HB50.out.size))
          have HA51 : Hid (w51.heap[gA]? = some (.cells #[.int .i64 0] 3 (0, 0))) := (hb51.block gA (lt_of_block HA50.out)).trans HA50.out
          have HC51 : Hid (w51.heap[gC]? = some (.cells #[.int .i64 0] 3 (0, 0))) := (hb51.block gC (lt_of_block HC50.out)).trans HC50.out
          clear hb51
          refine hK.out _ _ (HCE.out _ (HB51.out)) (fun hHeld => ?_)
          clear hK K
          try simp only [Act.put, List.setIfInBounds_toArray, List.set_cons_zero, List.set_cons_succ]
          refine wpAnyH_ready (rs := [8]) (by kernel_rfl) (by simp) ?_
          refine AllReadyH.cons (o := _) rfl (fun K hK => ?_) AllReadyH.nil
          go_simp
          refine (HC8.out w51).mono ?_
          rintro r w52 ⟨rfl, hb52⟩
          have HB52 := Lib.hid (HB51.out.trans (hb52.mono HB51.out.size))
          have HA52 : Hid (w52.heap[gA]? = some (.cells #[.int .i64 0] 3 (0, 0))) := (hb52.block gA (lt_of_block HA51.out)).trans HA51.out
          have HC52 : Hid (w52.heap[gC]? = some (.cells #[.int .i64 0] 3 (0, 0))) := (hb52.block gC (lt_of_block HC51.out)).trans HC51.out
          clear hb52
          refine hK.out _ _ (HCE.out _ (HB52.out)) (fun hHeld => ?_)
          clear hK K
          try simp only [Act.put, List.setIfInBounds_toArray, List.set_cons_zero, List.set_cons_succ]
          refine wpAnyH_ready (rs := [11]) (by kernel_rfl) (by simp) ?_
          refine AllReadyH.cons (o := _) rfl (fun K hK => ?_) AllReadyH.nil
          have qA := cell_of_one HA52.out
          have fA := free_of_one HA52.out
          go_simp
          obtain ⟨w53, hw53⟩ : ∃ w9, w9 = w52.setCell ⟨gA, 0, none⟩ (.int .i64 ra) := ⟨_, rfl⟩
          have HA53 : Hid (w53.heap[gA]? = some (.cells #[.int .i64 ra] 3 (0, 0))) := by rw [hw53]; exact one_setCell HA52.out
          have HC53 : Hid (w53.heap[gC]? = some (.cells #[.int .i64 0] 3 (0, 0))) := by rw [hw53]; exact (Below.heap_setCell _ _ _ _ (fun e => HNE.out e.symm)).trans HC52.out
          have HB53 : Hid (Below w1.heap.size w1 w53) := by rw [hw53]; exact HB52.out.setCell LgA.out _
          rw [← hw53]
          clear hw53 qA fA
          refine hK.out _ _ (HCE.out _ (HB53.out)) (fun hHeld => ?_)
          clear hK K
          try simp only [Act.put, List.setIfInBounds_toArray, List.set_cons_zero, List.set_cons_succ]
          refine wpAnyH_ready (rs := [12]) (by kernel_rfl) (by simp) ?_
          refine AllReadyH.cons (o := _) rfl (fun K hK => ?_) AllReadyH.nil
          have qC := cell_of_one HC53.out
          have fC := free_of_one HC53.out
          go_simp
          obtain ⟨w54, hw54⟩ : ∃ w9, w9 = w53.setCell ⟨gC, 0, none⟩ (.int .i64 wi) := ⟨_, rfl⟩
          have HC54 : Hid (w54.heap[gC]? = some (.cells #[.int .i64 wi] 3 (0, 0))) := by rw [hw54]; exact one_setCell HC53.out
          have HA54 : Hid (w54.heap[gA]? = some (.cells #[.int .i64 ra] 3 (0, 0))) := by rw [hw54]; exact (Below.heap_setCell _ _ _ _ HNE.out).trans HA53.out
          have HB54 : Hid (Below w1.heap.size w1 w54) := by rw [hw54]; exact HB53.out.setCell LgC.out _
          rw [← hw54]
          clear hw54 qC fC
          refine hK.out _ _ (HCE.out _ (HB54.out)) (fun hHeld => ?_)
          clear hK K
          try simp only [Act.put, List.setIfInBounds_toArray, List.set_cons_zero, List.set_cons_succ]
          refine wpAnyH_done (by kernel_rfl) ?_ _
          try go_wp2_with fail
          go_meet
          exact ⟨gA, gC, rfl, rfl, Lib.hid ⟨HA54.out, HC54.out, HB54.out⟩⟩
      · go_simp
        refine hK.out _ _ (HCE.out _ ((HB11.out.alloc HB11.out.size _))) (fun hHeld => ?_)
        clear hK K
        try simp only [Act.put, List.setIfInBounds_toArray, List.set_cons_zero, List.set_cons_succ]
        obtain ⟨gC, hg55⟩ : ∃ gC, gC = w11.heap.size := ⟨_, rfl⟩
        obtain ⟨w55, hw55⟩ : ∃ w55, w55 = w11.alloc (.cells #[.int .i64 0] 3) := ⟨_, rfl⟩
        have HC55 : Hid (w55.heap[gC]? = some (.cells #[.int .i64 0] 3 (0, 0))) := by rw [hw55, hg55]; exact heap_alloc_new w11 _
        have HB55 : Hid (Below w1.heap.size w1 w55) := by rw [hw55]; exact HB11.out.alloc HB11.out.size _
        have LgC : Hid (w1.heap.size ≤ gC) := by rw [hg55]; exact HB11.out.size
        rw [← hw55, ← hg55]
        clear hw55 hg55
        refine wpAnyH_ready (rs := [7, 9]) (by kernel_rfl) (by simp) ?_
        refine AllReadyH.cons (o := _) rfl (fun K hK => ?_) (AllReadyH.cons (o := _) rfl (fun K hK => ?_) AllReadyH.nil)
        · go_simp
          refine (HC7.out w55).mono ?_
          rintro r w56 ⟨rfl, hb56⟩
          have HB56 := Lib.hid (HB55.out.trans (hb56.mono HB55.out.size))
          have HC56 : Hid (w56.heap[gC]? = some (.cells #[.int .i64 0] 3 (0, 0))) := (hb56.block gC (lt_of_block HC55.out)).trans HC55.out
          clear hb56
          refine hK.out _ _ (HCE.out _ (HB56.out)) (fun hHeld => ?_)
          clear hK K
          try simp only [Act.put, List.setIfInBounds_toArray, List.set_cons_zero, List.set_cons_succ]
          refine wpAnyH_ready (rs := [8, 9]) (by kernel_rfl) (by simp) ?_
          refine AllReadyH.cons (o := _) rfl (fun K hK => ?_) (AllReadyH.cons (o := _) rfl (fun K hK => ?_) AllReadyH.nil)
          · go_simp
            refine (HC8.out w56).mono ?_
            rintro r w57 ⟨rfl, hb57⟩
            have HB57 := Lib.hid (HB56.out.trans (hb57.mono HB56.out.size))
            have HC57 : Hid (w57.heap[gC]? = some (.cells #[.int .i64 0] 3 (0, 0))) := (hb57.block gC (lt_of_block HC56.out)).trans HC56.out
            clear hb57
            refine hK.out _ _ (HCE.out _ (HB57.out)) (fun hHeld => ?_)
            clear hK K
            try simp only [Act.put, List.setIfInBounds_toArray, List.set_cons_zero, List.set_cons_succ]
            refine wpAnyH_ready (rs := [9]) (by kernel_rfl) (by simp) ?_
            refine AllReadyH.cons (o := _) rfl (fun K hK => ?_) AllReadyH.nil
            go_simp
            refine hK.out _ _ (HCE.out _ ((HB57.out.alloc HB57.out.size _))) (fun hHeld => ?_)
            clear hK K
            try simp only [Act.put, List.setIfInBounds_toArray, List.set_cons_zero, List.set_cons_succ]
            obtain ⟨gA, hg58⟩ : ∃ gA, gA = w57.heap.size := ⟨_, rfl⟩
            obtain ⟨w58, hw58⟩ : ∃ w58, w58 = w57.alloc (.cells #[.int .i64 0] 3) := ⟨_, rfl⟩
            have HA58 : Hid (w58.heap[gA]? = some (.cells #[.int .i64 0] 3 (0, 0))) := by rw [hw58, hg58]; exact heap_alloc_new w57 _
            have HB58 : Hid (Below w1.heap.size w1 w58) := by rw [hw58]; exact HB57.out.alloc HB57.out.size _
            have LgA : Hid (w1.heap.size ≤ gA) := by rw [hg58]; exact HB57.out.size
            have HNE : Hid (gA ≠ gC) := by have := lt_of_block HC57.out; simp only [Hid]; omega
            have HC58 : Hid (w58.heap[gC]? = some (.cells #[.int .i64 0] 3 (0, 0))) := by rw [hw58]; exact (Below.heap_alloc w57 _ _ (lt_of_block HC57.out)).trans HC57.out
            rw [← hw58, ← hg58]
            clear hw58 hg58
            refine wpAnyH_ready (rs := [11]) (by kernel_rfl) (by simp) ?_
            refine AllReadyH.cons (o := _) rfl (fun K hK => ?_) AllReadyH.nil
            have qA := cell_of_one HA58.out
            have fA := free_of_one HA58.out
            go_simp
            obtain ⟨w59, hw59⟩ : ∃ w9, w9 = w58.setCell ⟨gA, 0, none⟩ (.int .i64 ra) := ⟨_, rfl⟩
            have HA59 : Hid (w59.heap[gA]? = some (.cells #[.int .i64 ra] 3 (0, 0))) := by rw [hw59]; exact one_setCell HA58.out
            have HC59 : Hid (w59.heap[gC]? = some (.cells #[.int .i64 0] 3 (0, 0))) := by rw [hw59]; exact (Below.heap_setCell _ _ _ _ (fun e => HNE.out e.symm)).trans HC58.out
            have HB59 : Hid (Below w1.heap.size w1 w59) := by rw [hw59]; exact HB58.out.setCell LgA.out _
            rw [← hw59]
            clear hw59 qA fA
            refine hK.out _ _ (HCE.out _ (HB59.out)) (fun hHeld => ?_)
            clear hK K
            try simp only [Act.put, List.setIfInBounds_toArray, List.set_cons_zero, List.set_cons_succ]
            refine wpAnyH_ready (rs := [12]) (by kernel_rfl) (by simp) ?_
            refine AllReadyH.cons (o := _) rfl (fun K hK => ?_) AllReadyH.nil
            have qC := cell_of_one HC59.out
            have fC := free_of_one HC59.out
            go_simp
            obtain ⟨w60, hw60⟩ : ∃ w9, w9 = w59.setCell ⟨gC, 0, none⟩ (.int .i64 wi) := ⟨_, rfl⟩
            have HC60 : Hid (w60.heap[gC]? = some (.cells #[.int .i64 wi] 3 (0, 0))) := by rw [hw60]; exact one_setCell HC59.out
            have HA60 : Hid (w60.heap[gA]? = some (.cells #[.int .i64 ra] 3 (0, 0))) := by rw [hw60]; exact (Below.heap_setCell _ _ _ _ HNE.out).trans HA59.out
            have HB60 : Hid (Below w1.heap.size w1 w60) := by rw [hw60]; exact HB59.out.setCell LgC.out _
            rw [← hw60]
            clear hw60 qC fC
            refine hK.out _ _ (HCE.out _ (HB60.out)) (fun hHeld => ?_)
            clear hK K
            try simp only [Act.put, List.setIfInBounds_toArray, List.set_cons_zero, List.set_cons_succ]
            refine wpAnyH_done (by kernel_rfl) ?_ _
            try go_wp2_with fail
            go_meet
            exact ⟨gA, gC, rfl, rfl, Lib.hid ⟨HA60.out, HC60.out, HB60.out⟩⟩
          · go_simp
            refine hK.out _ _ (HCE.out _ ((HB56.out.alloc HB56.out.size _))) (fun hHeld => ?_)
            clear hK K
            try simp only [Act.put, List.setIfInBounds_toArray, List.set_cons_zero, List.set_cons_succ]
            obtain ⟨gA, hg61⟩ : ∃ gA, gA = w56.heap.size := ⟨_, rfl⟩
            obtain ⟨w61, hw61⟩ : ∃ w61, w61 = w56.alloc (.cells #[.int .i64 0] 3) := ⟨_, rfl⟩
            have HA61 : Hid (w61.heap[gA]? = some (.cells #[.int .i64 0] 3 (0, 0))) := by rw [hw61, hg61]; exact heap_alloc_new w56 _
            have HB61 : Hid (Below w1.heap.size w1 w61) := by rw [hw61]; exact HB56.out.alloc HB56.out.size _
            have LgA : Hid (w1.heap.size ≤ gA) := by rw [hg61]; exact HB56.out.size
            have HNE : Hid (gA ≠ gC) := by have := lt_of_block HC56.out; simp only [Hid]; omega
            have HC61 : Hid (w61.heap[gC]? = some (.cells #[.int .i64 0] 3 (0, 0))) := by rw [hw61]; exact (Below.heap_alloc w56 _ _ (lt_of_block HC56.out)).trans HC56.out
            rw [← hw61, ← hg61]
            clear hw61 hg61
            refine wpAnyH_ready (rs := [8]) (by kernel_rfl) (by simp) ?_
            refine AllReadyH.cons (o := _) rfl (fun K hK => ?_) AllReadyH.nil
            go_simp
            refine (HC8.out w61).mono ?_
            rintro r w62 ⟨rfl, hb62⟩
            have HB62 := Lib.hid (HB61.out.trans (hb62.mono HB61.out.size))
            have HA62 : Hid (w62.heap[gA]? = some (.cells #[.int .i64 0] 3 (0, 0))) := (hb62.block gA (lt_of_block HA61.out)).trans HA61.out
            have HC62 : Hid (w62.heap[gC]? = some (.cells #[.int .i64 0] 3 (0, 0))) := (hb62.block gC (lt_of_block HC61.out)).trans HC61.out
            clear hb62
            refine hK.out _ _ (HCE.out _ (HB62.out)) (fun hHeld => ?_)
            clear hK K
            try simp only [Act.put, List.setIfInBounds_toArray, List.set_cons_zero, List.set_cons_succ]
            refine wpAnyH_ready (rs := [11]) (by kernel_rfl) (by simp) ?_
            refine AllReadyH.cons (o := _) rfl (fun K hK => ?_) AllReadyH.nil
            have qA := cell_of_one HA62.out
            have fA := free_of_one HA62.out
            go_simp
            obtain ⟨w63, hw63⟩ : ∃ w9, w9 = w62.setCell ⟨gA, 0, none⟩ (.int .i64 ra) := ⟨_, rfl⟩
            have HA63 : Hid (w63.heap[gA]? = some (.cells #[.int .i64 ra] 3 (0, 0))) := by rw [hw63]; exact one_setCell HA62.out
            have HC63 : Hid (w63.heap[gC]? = some (.cells #[.int .i64 0] 3 (0, 0))) := by rw [hw63]; exact (Below.heap_setCell _ _ _ _ (fun e => HNE.out e.symm)).trans HC62.out
            have HB63 : Hid (Below w1.heap.size w1 w63) := by rw [hw63]; exact HB62.out.setCell LgA.out _
            rw [← hw63]
            clear hw63 qA fA
            refine hK.out _ _ (HCE.out _ (HB63.out)) (fun hHeld => ?_)
            clear hK K
            try simp only [Act.put, List.setIfInBounds_toArray, List.set_cons_zero, List.set_cons_succ]
            refine wpAnyH_ready (rs := [12]) (by kernel_rfl) (by simp) ?_
            refine AllReadyH.cons (o := _) rfl (fun K hK => ?_) AllReadyH.nil
            have qC := cell_of_one HC63.out
            have fC := free_of_one HC63.out
            go_simp
            obtain ⟨w64, hw64⟩ : ∃ w9, w9 = w63.setCell ⟨gC, 0, none⟩ (.int .i64 wi) := ⟨_, rfl⟩
            have HC64 : Hid (w64.heap[gC]? = some (.cells #[.int .i64 wi] 3 (0, 0))) := by rw [hw64]; exact one_setCell HC63.out
            have HA64 : Hid (w64.heap[gA]? = some (.cells #[.int .i64 ra] 3 (0, 0))) := by rw [hw64]; exact (Below.heap_setCell _ _ _ _ HNE.out).trans HA63.out
            have HB64 : Hid (Below w1.heap.size w1 w64) := by rw [hw64]; exact HB63.out.setCell LgC.out _
            rw [← hw64]
            clear hw64 qC fC
            refine hK.out _ _ (HCE.out _ (HB64.out)) (fun hHeld => ?_)
            clear hK K
            try simp only [Act.put, List.setIfInBounds_toArray, List.set_cons_zero, List.set_cons_succ]
            refine wpAnyH_done (by kernel_rfl) ?_ _
            try go_wp2_with fail
            go_meet
            exact ⟨gA, gC, rfl, rfl, Lib.hid ⟨HA64.out, HC64.out, HB64.out⟩⟩
        · go_simp
          refine hK.out _ _ (HCE.out _ ((HB55.out.alloc HB55.out.size _))) (fun hHeld => ?_)
          clear hK K
          try simp only [Act.put, List.setIfInBounds_toArray, List.set_cons_zero, List.set_cons_succ]
          obtain ⟨gA, hg65⟩ : ∃ gA, gA = w55.heap.size := ⟨_, rfl⟩
          obtain ⟨w65, hw65⟩ : ∃ w65, w65 = w55.alloc (.cells #[.int .i64 0] 3) := ⟨_, rfl⟩
          have HA65 : Hid (w65.heap[gA]? = some (.cells #[.int .i64 0] 3 (0, 0))) := by rw [hw65, hg65]; exact heap_alloc_new w55 _
          have HB65 : Hid (Below w1.heap.size w1 w65) := by rw [hw65]; exact HB55.out.alloc HB55.out.size _
          have LgA : Hid (w1.heap.size ≤ gA) := by rw [hg65]; exact HB55.out.size
          have HNE : Hid (gA ≠ gC) := by have := lt_of_block HC55.out; simp only [Hid]; omega
          have HC65 : Hid (w65.heap[gC]? = some (.cells #[.int .i64 0] 3 (0, 0))) := by rw [hw65]; exact (Below.heap_alloc w55 _ _ (lt_of_block HC55.out)).trans HC55.out
          rw [← hw65, ← hg65]
          clear hw65 hg65
          refine wpAnyH_ready (rs := [7]) (by kernel_rfl) (by simp) ?_
          refine AllReadyH.cons (o := _) rfl (fun K hK => ?_) AllReadyH.nil
          go_simp
          refine (HC7.out w65).mono ?_
          rintro r w66 ⟨rfl, hb66⟩
          have HB66 := Lib.hid (HB65.out.trans (hb66.mono HB65.out.size))
          have HA66 : Hid (w66.heap[gA]? = some (.cells #[.int .i64 0] 3 (0, 0))) := (hb66.block gA (lt_of_block HA65.out)).trans HA65.out
          have HC66 : Hid (w66.heap[gC]? = some (.cells #[.int .i64 0] 3 (0, 0))) := (hb66.block gC (lt_of_block HC65.out)).trans HC65.out
          clear hb66
          refine hK.out _ _ (HCE.out _ (HB66.out)) (fun hHeld => ?_)
          clear hK K
          try simp only [Act.put, List.setIfInBounds_toArray, List.set_cons_zero, List.set_cons_succ]
          refine wpAnyH_ready (rs := [8]) (by kernel_rfl) (by simp) ?_
          refine AllReadyH.cons (o := _) rfl (fun K hK => ?_) AllReadyH.nil
          go_simp
          refine (HC8.out w66).mono ?_
          rintro r w67 ⟨rfl, hb67⟩
          have HB67 := Lib.hid (HB66.out.trans (hb67.mono HB66.out.size))
          have HA67 : Hid (w67.heap[gA]? = some (.cells #[.int .i64 0] 3 (0, 0))) := (hb67.block gA (lt_of_block HA66.out)).trans HA66.out
          have HC67 : Hid (w67.heap[gC]? = some (.cells #[.int .i64 0] 3 (0, 0))) := (hb67.block gC (lt_of_block HC66.out)).trans HC66.out
          clear hb67
          refine hK.out _ _ (HCE.out _ (HB67.out)) (fun hHeld => ?_)
          clear hK K
          try simp only [Act.put, List.setIfInBounds_toArray, List.set_cons_zero, List.set_cons_succ]
          refine wpAnyH_ready (rs := [11]) (by kernel_rfl) (by simp) ?_
          refine AllReadyH.cons (o := _) rfl (fun K hK => ?_) AllReadyH.nil
          have qA := cell_of_one HA67.out
          have fA := free_of_one HA67.out
          go_simp
          obtain ⟨w68, hw68⟩ : ∃ w9, w9 = w67.setCell ⟨gA, 0, none⟩ (.int .i64 ra) := ⟨_, rfl⟩
          have HA68 : Hid (w68.heap[gA]? = some (.cells #[.int .i64 ra] 3 (0, 0))) := by rw [hw68]; exact one_setCell HA67.out
          have HC68 : Hid (w68.heap[gC]? = some (.cells #[.int .i64 0] 3 (0, 0))) := by rw [hw68]; exact (Below.heap_setCell _ _ _ _ (fun e => HNE.out e.symm)).trans HC67.out
          have HB68 : Hid (Below w1.heap.size w1 w68) := by rw [hw68]; exact HB67.out.setCell LgA.out _
          rw [← hw68]
          clear hw68 qA fA
          refine hK.out _ _ (HCE.out _ (HB68.out)) (fun hHeld => ?_)
          clear hK K
          try simp only [Act.put, List.setIfInBounds_toArray, List.set_cons_zero, List.set_cons_succ]
          refine wpAnyH_ready (rs := [12]) (by kernel_rfl) (by simp) ?_
          refine AllReadyH.cons (o := _) rfl (fun K hK => ?_) AllReadyH.nil
          have qC := cell_of_one HC68.out
          have fC := free_of_one HC68.out
          go_simp
          obtain ⟨w69, hw69⟩ : ∃ w9, w9 = w68.setCell ⟨gC, 0, none⟩ (.int .i64 wi) := ⟨_, rfl⟩
          have HC69 : Hid (w69.heap[gC]? = some (.cells #[.int .i64 wi] 3 (0, 0))) := by rw [hw69]; exact one_setCell HC68.out
          have HA69 : Hid (w69.heap[gA]? = some (.cells #[.int .i64 ra] 3 (0, 0))) := by rw [hw69]; exact (Below.heap_setCell _ _ _ _ HNE.out).trans HA68.out
          have HB69 : Hid (Below w1.heap.size w1 w69) := by rw [hw69]; exact HB68.out.setCell LgC.out _
          rw [← hw69]
          clear hw69 qC fC
          refine hK.out _ _ (HCE.out _ (HB69.out)) (fun hHeld => ?_)
          clear hK K
          try simp only [Act.put, List.setIfInBounds_toArray, List.set_cons_zero, List.set_cons_succ]
          refine wpAnyH_done (by kernel_rfl) ?_ _
          try go_wp2_with fail
          go_meet
          exact ⟨gA, gC, rfl, rfl, Lib.hid ⟨HA69.out, HC69.out, HB69.out⟩⟩
    · go_simp
      refine hK.out _ _ (HCE.out _ ((HB5.out.alloc HB5.out.size _))) (fun hHeld => ?_)
      clear hK K
      try simp only [Act.put, List.setIfInBounds_toArray, List.set_cons_zero, List.set_cons_succ]
      obtain ⟨gA, hg70⟩ : ∃ gA, gA = w5.heap.size := ⟨_, rfl⟩
      obtain ⟨w70, hw70⟩ : ∃ w70, w70 = w5.alloc (.cells #[.int .i64 0] 3) := ⟨_, rfl⟩
      have HA70 : Hid (w70.heap[gA]? = some (.cells #[.int .i64 0] 3 (0, 0))) := by rw [hw70, hg70]; exact heap_alloc_new w5 _
      have HB70 : Hid (Below w1.heap.size w1 w70) := by rw [hw70]; exact HB5.out.alloc HB5.out.size _
      have LgA : Hid (w1.heap.size ≤ gA) := by rw [hg70]; exact HB5.out.size
      rw [← hw70, ← hg70]
      clear hw70 hg70
      refine wpAnyH_ready (rs := [2, 10]) (by kernel_rfl) (by simp) ?_
      refine AllReadyH.cons (o := _) rfl (fun K hK => ?_) (AllReadyH.cons (o := _) rfl (fun K hK => ?_) AllReadyH.nil)
      · go_simp
        refine (HC2.out w70).mono ?_
        rintro r w71 ⟨rfl, hb71⟩
        have HB71 := Lib.hid (HB70.out.trans (hb71.mono HB70.out.size))
        have HA71 : Hid (w71.heap[gA]? = some (.cells #[.int .i64 0] 3 (0, 0))) := (hb71.block gA (lt_of_block HA70.out)).trans HA70.out
        clear hb71
        refine hK.out _ _ (HCE.out _ (HB71.out)) (fun hHeld => ?_)
        clear hK K
        try simp only [Act.put, List.setIfInBounds_toArray, List.set_cons_zero, List.set_cons_succ]
        refine wpAnyH_ready (rs := [7, 10]) (by kernel_rfl) (by simp) ?_
        refine AllReadyH.cons (o := _) rfl (fun K hK => ?_) (AllReadyH.cons (o := _) rfl (fun K hK => ?_) AllReadyH.nil)
        · go_simp
          refine (HC7.out w71).mono ?_
          rintro r w72 ⟨rfl, hb72⟩
          have HB72 := Lib.hid (HB71.out.trans (hb72.mono HB71.out.size))
          have HA72 : Hid (w72.heap[gA]? = some (.cells #[.int .i64 0] 3 (0, 0))) := (hb72.block gA (lt_of_block HA71.out)).trans HA71.out
          clear hb72
          refine hK.out _ _ (HCE.out _ (HB72.out)) (fun hHeld => ?_)
          clear hK K
          try simp only [Act.put, List.setIfInBounds_toArray, List.set_cons_zero, List.set_cons_succ]
          refine wpAnyH_ready (rs := [8, 10]) (by kernel_rfl) (by simp) ?_
          refine AllReadyH.cons (o := _) rfl (fun K hK => ?_) (AllReadyH.cons (o := _) rfl (fun K hK => ?_) AllReadyH.nil)
          · go_simp
            refine (HC8.out w72).mono ?_
            rintro r w73 ⟨rfl, hb73⟩
            have HB73 := Lib.hid (HB72.out.trans (hb73.mono HB72.out.size))
            have HA73 : Hid (w73.heap[gA]? = some (.cells #[.int .i64 0] 3 (0, 0))) := (hb73.block gA (lt_of_block HA72.out)).trans HA72.out
            clear hb73
            refine hK.out _ _ (HCE.out _ (HB73.out)) (fun hHeld => ?_)
            clear hK K
            try simp only [Act.put, List.setIfInBounds_toArray, List.set_cons_zero, List.set_cons_succ]
            refine wpAnyH_ready (rs := [10]) (by kernel_rfl) (by simp) ?_
            refine AllReadyH.cons (o := _) rfl (fun K hK => ?_) AllReadyH.nil
            go_simp
            refine hK.out _ _ (HCE.out _ ((HB73.out.alloc HB73.out.size _))) (fun hHeld => ?_)
            clear hK K
            try simp only [Act.put, List.setIfInBounds_toArray, List.set_cons_zero, List.set_cons_succ]
            obtain ⟨gC, hg74⟩ : ∃ gC, gC = w73.heap.size := ⟨_, rfl⟩
            obtain ⟨w74, hw74⟩ : ∃ w74, w74 = w73.alloc (.cells #[.int .i64 0] 3) := ⟨_, rfl⟩
            have HC74 : Hid (w74.heap[gC]? = some (.cells #[.int .i64 0] 3 (0, 0))) := by rw [hw74, hg74]; exact heap_alloc_new w73 _
            have HB74 : Hid (Below w1.heap.size w1 w74) := by rw [hw74]; exact HB73.out.alloc HB73.out.size _
            have LgC : Hid (w1.heap.size ≤ gC) := by rw [hg74]; exact HB73.out.size
            have HNE : Hid (gA ≠ gC) := by have := lt_of_block HA73.out; simp only [Hid]; omega
            have HA74 : Hid (w74.heap[gA]? = some (.cells #[.int .i64 0] 3 (0, 0))) := by rw [hw74]; exact (Below.heap_alloc w73 _ _ (lt_of_block HA73.out)).trans HA73.out
            rw [← hw74, ← hg74]
            clear hw74 hg74
            refine wpAnyH_ready (rs := [11]) (by kernel_rfl) (by simp) ?_
            refine AllReadyH.cons (o := _) rfl (fun K hK => ?_) AllReadyH.nil
            have qA := cell_of_one HA74.out
            have fA := free_of_one HA74.out
            go_simp
            obtain ⟨w75, hw75⟩ : ∃ w9, w9 = w74.setCell ⟨gA, 0, none⟩ (.int .i64 ra) := ⟨_, rfl⟩
            have HA75 : Hid (w75.heap[gA]? = some (.cells #[.int .i64 ra] 3 (0, 0))) := by rw [hw75]; exact one_setCell HA74.out
            have HC75 : Hid (w75.heap[gC]? = some (.cells #[.int .i64 0] 3 (0, 0))) := by rw [hw75]; exact (Below.heap_setCell _ _ _ _ (fun e => HNE.out e.symm)).trans HC74.out
            have HB75 : Hid (Below w1.heap.size w1 w75) := by rw [hw75]; exact HB74.out.setCell LgA.out _
            rw [← hw75]
            clear hw75 qA fA
            refine hK.out _ _ (HCE.out _ (HB75.out)) (fun hHeld => ?_)
            clear hK K
            try simp only [Act.put, List.setIfInBounds_toArray, List.set_cons_zero, List.set_cons_succ]
            refine wpAnyH_ready (rs := [12]) (by kernel_rfl) (by simp) ?_
            refine AllReadyH.cons (o := _) rfl (fun K hK => ?_) AllReadyH.nil
            have qC := cell_of_one HC75.out
            have fC := free_of_one HC75.out
            go_simp
            obtain ⟨w76, hw76⟩ : ∃ w9, w9 = w75.setCell ⟨gC, 0, none⟩ (.int .i64 wi) := ⟨_, rfl⟩
            have HC76 : Hid (w76.heap[gC]? = some (.cells #[.int .i64 wi] 3 (0, 0))) := by rw [hw76]; exact one_setCell HC75.out
            have HA76 : Hid (w76.heap[gA]? = some (.cells #[.int .i64 ra] 3 (0, 0))) := by rw [hw76]; exact (Below.heap_setCell _ _ _ _ HNE.out).trans HA75.out
            have HB76 : Hid (Below w1.heap.size w1 w76) := by rw [hw76]; exact HB75.out.setCell LgC.out _
            rw [← hw76]
            clear hw76 qC fC
            refine hK.out _ _ (HCE.out _ (HB76.out)) (fun hHeld => ?_)
            clear hK K
            try simp only [Act.put, List.setIfInBounds_toArray, List.set_cons_zero, List.set_cons_succ]
            refine wpAnyH_done (by kernel_rfl) ?_ _
            try go_wp2_with fail
            go_meet
            exact ⟨gA, gC, rfl, rfl, Lib.hid ⟨HA76.out, HC76.out, HB76.out⟩⟩
          · go_simp
            refine hK.out _ _ (HCE.out _ ((HB72.out.alloc HB72.out.size _))) (fun hHeld => ?_)
            clear hK K
            try simp only [Act.put, List.setIfInBounds_toArray, List.set_cons_zero, List.set_cons_succ]
            obtain ⟨gC, hg77⟩ : ∃ gC, gC = w72.heap.size := ⟨_, rfl⟩
            obtain ⟨w77, hw77⟩ : ∃ w77, w77 = w72.alloc (.cells #[.int .i64 0] 3) := ⟨_, rfl⟩
            have HC77 : Hid (w77.heap[gC]? = some (.cells #[.int .i64 0] 3 (0, 0))) := by rw [hw77, hg77]; exact heap_alloc_new w72 _
            have HB77 : Hid (Below w1.heap.size w1 w77) := by rw [hw77]; exact HB72.out.alloc HB72.out.size _
            have LgC : Hid (w1.heap.size ≤ gC) := by rw [hg77]; exact HB72.out.size
            have HNE : Hid (gA ≠ gC) := by have := lt_of_block HA72.out; simp only [Hid]; omega
            have HA77 : Hid (w77.heap[gA]? = some (.cells #[.int .i64 0] 3 (0, 0))) := by rw [hw77]; exact (Below.heap_alloc w72 _ _ (lt_of_block HA72.out)).trans HA72.out
            rw [← hw77, ← hg77]
            clear hw77 hg77
            refine wpAnyH_ready (rs := [8]) (by kernel_rfl) (by simp) ?_
            refine AllReadyH.cons (o := _) rfl (fun K hK => ?_) AllReadyH.nil
            go_simp
            refine (HC8.out w77).mono ?_
            rintro r w78 ⟨rfl, hb78⟩
            have HB78 := Lib.hid (HB77.out.trans (hb78.mono HB77.out.size))
            have HA78 : Hid (w78.heap[gA]? = some (.cells #[.int .i64 0] 3 (0, 0))) := (hb78.block gA (lt_of_block HA77.out)).trans HA77.out
            have HC78 : Hid (w78.heap[gC]? = some (.cells #[.int .i64 0] 3 (0, 0))) := (hb78.block gC (lt_of_block HC77.out)).trans HC77.out
            clear hb78
            refine hK.out _ _ (HCE.out _ (HB78.out)) (fun hHeld => ?_)
            clear hK K
            try simp only [Act.put, List.setIfInBounds_toArray, List.set_cons_zero, List.set_cons_succ]
            refine wpAnyH_ready (rs := [11]) (by kernel_rfl) (by simp) ?_
            refine AllReadyH.cons (o := _) rfl (fun K hK => ?_) AllReadyH.nil
            have qA := cell_of_one HA78.out
            have fA := free_of_one HA78.out
            go_simp
            obtain ⟨w79, hw79⟩ : ∃ w9, w9 = w78.setCell ⟨gA, 0, none⟩ (.int .i64 ra) := ⟨_, rfl⟩
            have HA79 : Hid (w79.heap[gA]? = some (.cells #[.int .i64 ra] 3 (0, 0))) := by rw [hw79]; exact one_setCell HA78.out
            have HC79 : Hid (w79.heap[gC]? = some (.cells #[.int .i64 0] 3 (0, 0))) := by rw [hw79]; exact (Below.heap_setCell _ _ _ _ (fun e => HNE.out e.symm)).trans HC78.out
            have HB79 : Hid (Below w1.heap.size w1 w79) := by rw [hw79]; exact HB78.out.setCell LgA.out _
            rw [← hw79]
            clear hw79 qA fA
            refine hK.out _ _ (HCE.out _ (HB79.out)) (fun hHeld => ?_)
            clear hK K
            try simp only [Act.put, List.setIfInBounds_toArray, List.set_cons_zero, List.set_cons_succ]
            refine wpAnyH_ready (rs := [12]) (by kernel_rfl) (by simp) ?_
            refine AllReadyH.cons (o := _) rfl (fun K hK => ?_) AllReadyH.nil
            have qC := cell_of_one HC79.out
            have fC := free_of_one HC79.out
            go_simp
            obtain ⟨w80, hw80⟩ : ∃ w9, w9 = w79.setCell ⟨gC, 0, none⟩ (.int .i64 wi) := ⟨_, rfl⟩
            have HC80 : Hid (w80.heap[gC]? = some (.cells #[.int .i64 wi] 3 (0, 0))) := by rw [hw80]; exact one_setCell HC79.out
            have HA80 : Hid (w80.heap[gA]? = some (.cells #[.int .i64 ra] 3 (0, 0))) := by rw [hw80]; exact (Below.heap_setCell _ _ _ _ HNE.out).trans HA79.out
            have HB80 : Hid (Below w1.heap.size w1 w80) := by rw [hw80]; exact HB79.out.setCell LgC.out _
            rw [← hw80]
            clear hw80 qC fC
            refine hK.out _ _ (HCE.out _ (HB80.out)) (fun hHeld => ?_)
            clear hK K
            try simp only [Act.put, List.setIfInBounds_toArray, List.set_cons_zero, List.set_cons_succ]
            refine wpAnyH_done (by kernel_rfl) ?_ _
            try go_wp2_with fail
            go_meet
            exact ⟨gA, gC, rfl, rfl, Lib.hid ⟨HA80.out, HC80.out, HB80.out⟩⟩
        · go_simp
          refine hK.out _ _ (HCE.out _ ((HB71.out.alloc HB71.out.size _))) (fun hHeld => ?_)
          clear hK K
          try simp only [Act.put, List.setIfInBounds_toArray, List.set_cons_zero, List.set_cons_succ]
          obtain ⟨gC, hg81⟩ : ∃ gC, gC = w71.heap.size := ⟨_, rfl⟩
          obtain ⟨w81, hw81⟩ : ∃ w81, w81 = w71.alloc (.cells #[.int .i64 0] 3) := ⟨_, rfl⟩
          have HC81 : Hid (w81.heap[gC]? = some (.cells #[.int .i64 0] 3 (0, 0))) := by rw [hw81, hg81]; exact heap_alloc_new w71 _
          have HB81 : Hid (Below w1.heap.size w1 w81) := by rw [hw81]; exact HB71.out.alloc HB71.out.size _
          have LgC : Hid (w1.heap.size ≤ gC) := by rw [hg81]; exact HB71.out.size
          have HNE : Hid (gA ≠ gC) := by have := lt_of_block HA71.out; simp only [Hid]; omega
          have HA81 : Hid (w81.heap[gA]? = some (.cells #[.int .i64 0] 3 (0, 0))) := by rw [hw81]; exact (Below.heap_alloc w71 _ _ (lt_of_block HA71.out)).trans HA71.out
          rw [← hw81, ← hg81]
          clear hw81 hg81
          refine wpAnyH_ready (rs := [7]) (by kernel_rfl) (by simp) ?_
          refine AllReadyH.cons (o := _) rfl (fun K hK => ?_) AllReadyH.nil
          go_simp
          refine (HC7.out w81).mono ?_
          rintro r w82 ⟨rfl, hb82⟩
          have HB82 := Lib.hid (HB81.out.trans (hb82.mono HB81.out.size))
          have HA82 : Hid (w82.heap[gA]? = some (.cells #[.int .i64 0] 3 (0, 0))) := (hb82.block gA (lt_of_block HA81.out)).trans HA81.out
          have HC82 : Hid (w82.heap[gC]? = some (.cells #[.int .i64 0] 3 (0, 0))) := (hb82.block gC (lt_of_block HC81.out)).trans HC81.out
          clear hb82
          refine hK.out _ _ (HCE.out _ (HB82.out)) (fun hHeld => ?_)
          clear hK K
          try simp only [Act.put, List.setIfInBounds_toArray, List.set_cons_zero, List.set_cons_succ]
          refine wpAnyH_ready (rs := [8]) (by kernel_rfl) (by simp) ?_
          refine AllReadyH.cons (o := _) rfl (fun K hK => ?_) AllReadyH.nil
          go_simp
          refine (HC8.out w82).mono ?_
          rintro r w83 ⟨rfl, hb83⟩
          have HB83 := Lib.hid (HB82.out.trans (hb83.mono HB82.out.size))
          have HA83 : Hid (w83.heap[gA]? = some (.cells #[.int .i64 0] 3 (0, 0))) := (hb83.block gA (lt_of_block HA82.out)).trans HA82.out
          have HC83 : Hid (w83.heap[gC]? = some (.cells #[.int .i64 0] 3 (0, 0))) := (hb83.block gC (lt_of_block HC82.out)).trans HC82.out
          clear hb83
          refine hK.out _ _ (HCE.out _ (HB83.out)) (fun hHeld => ?_)
          clear hK K
          try simp only [Act.put, List.setIfInBounds_toArray, List.set_cons_zero, List.set_cons_succ]
          refine wpAnyH_ready (rs := [11]) (by kernel_rfl) (by simp) ?_
          refine AllReadyH.cons (o := _) rfl (fun K hK => ?_) AllReadyH.nil
          have qA := cell_of_one HA83.out
          have fA := free_of_one HA83.out
          go_simp
          obtain ⟨w84, hw84⟩ : ∃ w9, w9 = w83.setCell ⟨gA, 0, none⟩ (.int .i64 ra) := ⟨_, rfl⟩
          have HA84 : Hid (w84.heap[gA]? = some (.cells #[.int .i64 ra] 3 (0, 0))) := by rw [hw84]; exact one_setCell HA83.out
          have HC84 : Hid (w84.heap[gC]? = some (.cells #[.int .i64 0] 3 (0, 0))) := by rw [hw84]; exact (Below.heap_setCell _ _ _ _ (fun e => HNE.out e.symm)).trans HC83.out
          have HB84 : Hid (Below w1.heap.size w1 w84) := by rw [hw84]; exact HB83.out.setCell LgA.out _
          rw [← hw84]
          clear hw84 qA fA
          refine hK.out _ _ (HCE.out _ (HB84.out)) (fun hHeld => ?_)
          clear hK K
          try simp only [Act.put, List.setIfInBounds_toArray, List.set_cons_zero, List.set_cons_succ]
          refine wpAnyH_ready (rs := [12]) (by kernel_rfl) (by simp) ?_
          refine AllReadyH.cons (o := _) rfl (fun K hK => ?_) AllReadyH.nil
          have qC := cell_of_one HC84.out
          have fC := free_of_one HC84.out
          go_simp
          obtain ⟨w85, hw85⟩ : ∃ w9, w9 = w84.setCell ⟨gC, 0, none⟩ (.int .i64 wi) := ⟨_, rfl⟩
          have HC85 : Hid (w85.heap[gC]? = some (.cells #[.int .i64 wi] 3 (0, 0))) := by rw [hw85]; exact one_setCell HC84.out
          have HA85 : Hid (w85.heap[gA]? = some (.cells #[.int .i64 ra] 3 (0, 0))) := by rw [hw85]; exact (Below.heap_setCell _ _ _ _ HNE.out).trans HA84.out
          have HB85 : Hid (Below w1.heap.size w1 w85) := by rw [hw85]; exact HB84.out.setCell LgC.out _
          rw [← hw85]
          clear hw85 qC fC
          refine hK.out _ _ (HCE.out _ (HB85.out)) (fun hHeld => ?_)
          clear hK K
          try simp only [Act.put, List.setIfInBounds_toArray, List.set_cons_zero, List.set_cons_succ]
          refine wpAnyH_done (by kernel_rfl) ?_ _
          try go_wp2_with fail
          go_meet
          exact ⟨gA, gC, rfl, rfl, Lib.hid ⟨HA85.out, HC85.out, HB85.out⟩⟩
      · go_simp
        refine hK.out _ _ (HCE.out _ ((HB70.out.alloc HB70.out.size _))) (fun hHeld => ?_)
        clear hK K
        try simp only [Act.put, List.setIfInBounds_toArray, List.set_cons_zero, List.set_cons_succ]
        obtain ⟨gC, hg86⟩ : ∃ gC, gC = w70.heap.size := ⟨_, rfl⟩
        obtain ⟨w86, hw86⟩ : ∃ w86, w86 = w70.alloc (.cells #[.int .i64 0] 3) := ⟨_, rfl⟩
        have HC86 : Hid (w86.heap[gC]? = some (.cells #[.int .i64 0] 3 (0, 0))) := by rw [hw86, hg86]; exact heap_alloc_new w70 _
        have HB86 : Hid (Below w1.heap.size w1 w86) := by rw [hw86]; exact HB70.out.alloc HB70.out.size _
        have LgC : Hid (w1.heap.size ≤ gC) := by rw [hg86]; exact HB70.out.size
        have HNE : Hid (gA ≠ gC) := by have := lt_of_block HA70.out; simp only [Hid]; omega
        have HA86 : Hid (w86.heap[gA]? = some (.cells #[.int .i64 0] 3 (0, 0))) := by rw [hw86]; exact (Below.heap_alloc w70 _ _ (lt_of_block HA70.out)).trans HA70.out
        rw [← hw86, ← hg86]
        clear hw86 hg86
        refine wpAnyH_ready (rs := [2]) (by kernel_rfl) (by simp) ?_
        refine AllReadyH.cons (o := _) rfl (fun K hK => ?_) AllReadyH.nil
        go_simp
        refine (HC2.out w86).mono ?_
        rintro r w87 ⟨rfl, hb87⟩
        have HB87 := Lib.hid (HB86.out.trans (hb87.mono HB86.out.size))
        have HA87 : Hid (w87.heap[gA]? = some (.cells #[.int .i64 0] 3 (0, 0))) := (hb87.block gA (lt_of_block HA86.out)).trans HA86.out
        have HC87 : Hid (w87.heap[gC]? = some (.cells #[.int .i64 0] 3 (0, 0))) := (hb87.block gC (lt_of_block HC86.out)).trans HC86.out
        clear hb87
        refine hK.out _ _ (HCE.out _ (HB87.out)) (fun hHeld => ?_)
        clear hK K
        try simp only [Act.put, List.setIfInBounds_toArray, List.set_cons_zero, List.set_cons_succ]
        refine wpAnyH_ready (rs := [7]) (by kernel_rfl) (by simp) ?_
        refine AllReadyH.cons (o := _) rfl (fun K hK => ?_) AllReadyH.nil
        go_simp
        refine (HC7.out w87).mono ?_
        rintro r w88 ⟨rfl, hb88⟩
        have HB88 := Lib.hid (HB87.out.trans (hb88.mono HB87.out.size))
        have HA88 : Hid (w88.heap[gA]? = some (.cells #[.int .i64 0] 3 (0, 0))) := (hb88.block gA (lt_of_block HA87.out)).trans HA87.out
        have HC88 : Hid (w88.heap[gC]? = some (.cells #[.int .i64 0] 3 (0, 0))) := (hb88.block gC (lt_of_block HC87.out)).trans HC87.out
        clear hb88
        refine hK.out _ _ (HCE.out _ (HB88.out)) (fun hHeld => ?_)
        clear hK K
        try simp only [Act.put, List.setIfInBounds_toArray, List.set_cons_zero, List.set_cons_succ]
        refine wpAnyH_ready (rs := [8]) (by kernel_rfl) (by simp) ?_
        refine AllReadyH.cons (o := _) rfl (fun K hK => ?_) AllReadyH.nil
        go_simp
        refine (HC8.out w88).mono ?_
        rintro r w89 ⟨rfl, hb89⟩
        have HB89 := Lib.hid (HB88.out.trans (hb89.mono HB88.out.size))
        have HA89 : Hid (w89.heap[gA]? = some (.cells #[.int .i64 0] 3 (0, 0))) := (hb89.block gA (lt_of_block HA88.out)).trans HA88.out
        have HC89 : Hid (w89.heap[gC]? = some (.cells #[.int .i64 0] 3 (0, 0))) := (hb89.block gC (lt_of_block HC88.out)).trans HC88.out
        clear hb89
        refine hK.out _ _ (HCE.out _ (HB89.out)) (fun hHeld => ?_)
        clear hK K
        try simp only [Act.put, List.setIfInBounds_toArray, List.set_cons_zero, List.set_cons_succ]
        refine wpAnyH_ready (rs := [11]) (by kernel_rfl) (by simp) ?_
        refine AllReadyH.cons (o := _) rfl (fun K hK => ?_) AllReadyH.nil
        have qA := cell_of_one HA89.out
        have fA := free_of_one HA89.out
        go_simp
        obtain ⟨w90, hw90⟩ : ∃ w9, w9 = w89.setCell ⟨gA, 0, none⟩ (.int .i64 ra) := ⟨_, rfl⟩
        have HA90 : Hid (w90.heap[gA]? = some (.cells #[.int .i64 ra] 3 (0, 0))) := by rw [hw90]; exact one_setCell HA89.out
        have HC90 : Hid (w90.heap[gC]? = some (.cells #[.int .i64 0] 3 (0, 0))) := by rw [hw90]; exact (Below.heap_setCell _ _ _ _ (fun e => HNE.out e.symm)).trans HC89.out
        have HB90 : Hid (Below w1.heap.size w1 w90) := by rw [hw90]; exact HB89.out.setCell LgA.out _
        rw [← hw90]
        clear hw90 qA fA
        refine hK.out _ _ (HCE.out _ (HB90.out)) (fun hHeld => ?_)
        clear hK K
        try simp only [Act.put, List.setIfInBounds_toArray, List.set_cons_zero, List.set_cons_succ]
        refine wpAnyH_ready (rs := [12]) (by kernel_rfl) (by simp) ?_
        refine AllReadyH.cons (o := _) rfl (fun K hK => ?_) AllReadyH.nil
        have qC := cell_of_one HC90.out
        have fC := free_of_one HC90.out
        go_simp
        obtain ⟨w91, hw91⟩ : ∃ w9, w9 = w90.setCell ⟨gC, 0, none⟩ (.int .i64 wi) := ⟨_, rfl⟩
        have HC91 : Hid (w91.heap[gC]? = some (.cells #[.int .i64 wi] 3 (0, 0))) := by rw [hw91]; exact one_setCell HC90.out
        have HA91 : Hid (w91.heap[gA]? = some (.cells #[.int .i64 ra] 3 (0, 0))) := by rw [hw91]; exact (Below.heap_setCell _ _ _ _ HNE.out).trans HA90.out
        have HB91 : Hid (Below w1.heap.size w1 w91) := by rw [hw91]; exact HB90.out.setCell LgC.out _
        rw [← hw91]
        clear hw91 qC fC
        refine hK.out _ _ (HCE.out _ (HB91.out)) (fun hHeld => ?_)
        clear hK K
        try simp only [Act.put, List.setIfInBounds_toArray, List.set_cons_zero, List.set_cons_succ]
        refine wpAnyH_done (by kernel_rfl) ?_ _
        try go_wp2_with fail
        go_meet
        exact ⟨gA, gC, rfl, rfl, Lib.hid ⟨HA91.out, HC91.out, HB91.out⟩⟩
    · go_simp
      refine hK.out _ _ (HCE.out _ ((HB5.out.alloc HB5.out.size _))) (fun hHeld => ?_)
      clear hK K
      try simp only [Act.put, List.setIfInBounds_toArray, List.set_cons_zero, List.set_cons_succ]
      obtain ⟨gC, hg92⟩ : ∃ gC, gC = w5.heap.size := ⟨_, rfl⟩
      obtain ⟨w92, hw92⟩ : ∃ w92, w92 = w5.alloc (.cells #[.int .i64 0] 3) := ⟨_, rfl⟩
      have HC92 : Hid (w92.heap[gC]? = some (.cells #[.int .i64 0] 3 (0, 0))) := by rw [hw92, hg92]; exact heap_alloc_new w5 _
      have HB92 : Hid (Below w1.heap.size w1 w92) := by rw [hw92]; exact HB5.out.alloc HB5.out.size _
      have LgC : Hid (w1.heap.size ≤ gC) := by rw [hg92]; exact HB5.out.size
      rw [← hw92, ← hg92]
      clear hw92 hg92
      refine wpAnyH_ready (rs := [2, 9]) (by kernel_rfl) (by simp) ?_
      refine AllReadyH.cons (o := _) rfl (fun K hK => ?_) (AllReadyH.cons (o := _) rfl (fun K hK => ?_) AllReadyH.nil)
      · go_simp
        refine (HC2.out w92).mono ?_
        rintro r w93 ⟨rfl, hb93⟩
        have HB93 := Lib.hid (HB92.out.trans (hb93.mono HB92.out.size))
        have HC93 : Hid (w93.heap[gC]? = some (.cells #[.int .i64 0] 3 (0, 0))) := (hb93.block gC (lt_of_block HC92.out)).trans HC92.out
        clear hb93
        refine hK.out _ _ (HCE.out _ (HB93.out)) (fun hHeld => ?_)
        clear hK K
        try simp only [Act.put, List.setIfInBounds_toArray, List.set_cons_zero, List.set_cons_succ]
        refine wpAnyH_ready (rs := [7, 9]) (by kernel_rfl) (by simp) ?_
        refine AllReadyH.cons (o := _) rfl (fun K hK => ?_) (AllReadyH.cons (o := _) rfl (fun K hK => ?_) AllReadyH.nil)
        · go_simp
          refine (HC7.out w93).mono ?_
          rintro r w94 ⟨rfl, hb94⟩
          have HB94 := Lib.hid (HB93.out.trans (hb94.mono HB93.out.size))
          have HC94 : Hid (w94.heap[gC]? = some (.cells #[.int .i64 0] 3 (0, 0))) := (hb94.block gC (lt_of_block HC93.out)).trans HC93.out
          clear hb94
          refine hK.out _ _ (HCE.out _ (HB94.out)) (fun hHeld => ?_)
          clear hK K
          try simp only [Act.put, List.setIfInBounds_toArray, List.set_cons_zero, List.set_cons_succ]
          refine wpAnyH_ready (rs := [8, 9]) (by kernel_rfl) (by simp) ?_
          refine AllReadyH.cons (o := _) rfl (fun K hK => ?_) (AllReadyH.cons (o := _) rfl (fun K hK => ?_) AllReadyH.nil)
          · go_simp
            refine (HC8.out w94).mono ?_
            rintro r w95 ⟨rfl, hb95⟩
            have HB95 := Lib.hid (HB94.out.trans (hb95.mono HB94.out.size))
            have HC95 : Hid (w95.heap[gC]? = some (.cells #[.int .i64 0] 3 (0, 0))) := (hb95.block gC (lt_of_block HC94.out)).trans HC94.out
            clear hb95
            refine hK.out _ _ (HCE.out _ (HB95.out)) (fun hHeld => ?_)
            clear hK K
            try simp only [Act.put, List.setIfInBounds_toArray, List.set_cons_zero, List.set_cons_succ]
            refine wpAnyH_ready (rs := [9]) (by kernel_rfl) (by simp) ?_
            refine AllReadyH.cons (o := _) rfl (fun K hK => ?_) AllReadyH.nil
            go_simp
            refine hK.out _ _ (HCE.out _ ((HB95.out.alloc HB95.out.size _))) (fun hHeld => ?_)
            clear hK K
            try simp only [Act.put, List.setIfInBounds_toArray, List.set_cons_zero, List.set_cons_succ]
            obtain ⟨gA, hg96⟩ : ∃ gA, gA = w95.heap.size := ⟨_, rfl⟩
            obtain ⟨w96, hw96⟩ : ∃ w96, w96 = w95.alloc (.cells #[.int .i64 0] 3) := ⟨_, rfl⟩
            have HA96 : Hid (w96.heap[gA]? = some (.cells #[.int .i64 0] 3 (0, 0))) := by rw [hw96, hg96]; exact heap_alloc_new w95 _
            have HB96 : Hid (Below w1.heap.size w1 w96) := by rw [hw96]; exact HB95.out.alloc HB95.out.size _
            have LgA : Hid (w1.heap.size ≤ gA) := by rw [hg96]; exact HB95.out.size
            have HNE : Hid (gA ≠ gC) := by have := lt_of_block HC95.out; simp only [Hid]; omega
            have HC96 : Hid (w96.heap[gC]? = some (.cells #[.int .i64 0] 3 (0, 0))) := by rw [hw96]; exact (Below.heap_alloc w95 _ _ (lt_of_block HC95.out)).trans HC95.out
            rw [← hw96, ← hg96]
            clear hw96 hg96
            refine wpAnyH_ready (rs := [11]) (by kernel_rfl) (by simp) ?_
            refine AllReadyH.cons (o := _) rfl (fun K hK => ?_) AllReadyH.nil
            have qA := cell_of_one HA96.out
            have fA := free_of_one HA96.out
            go_simp
            obtain ⟨w97, hw97⟩ : ∃ w9, w9 = w96.setCell ⟨gA, 0, none⟩ (.int .i64 ra) := ⟨_, rfl⟩
            have HA97 : Hid (w97.heap[gA]? = some (.cells #[.int .i64 ra] 3 (0, 0))) := by rw [hw97]; exact one_setCell HA96.out
            have HC97 : Hid (w97.heap[gC]? = some (.cells #[.int .i64 0] 3 (0, 0))) := by rw [hw97]; exact (Below.heap_setCell _ _ _ _ (fun e => HNE.out e.symm)).trans HC96.out
            have HB97 : Hid (Below w1.heap.size w1 w97) := by rw [hw97]; exact HB96.out.setCell LgA.out _
            rw [← hw97]
            clear hw97 qA fA
            refine hK.out _ _ (HCE.out _ (HB97.out)) (fun hHeld => ?_)
            clear hK K
            try simp only [Act.put, List.setIfInBounds_toArray, List.set_cons_zero, List.set_cons_succ]
            refine wpAnyH_ready (rs := [12]) (by kernel_rfl) (by simp) ?_
            refine AllReadyH.cons (o := _) rfl (fun K hK => ?_) AllReadyH.nil
            have qC := cell_of_one HC97.out
            have fC := free_of_one HC97.out
            go_simp
            obtain ⟨w98, hw98⟩ : ∃ w9, w9 = w97.setCell ⟨gC, 0, none⟩ (.int .i64 wi) := ⟨_, rfl⟩
            have HC98 : Hid (w98.heap[gC]? = some (.cells #[.int .i64 wi] 3 (0, 0))) := by rw [hw98]; exact one_setCell HC97.out
            have HA98 : Hid (w98.heap[gA]? = some (.cells #[.int .i64 ra] 3 (0, 0))) := by rw [hw98]; exact (Below.heap_setCell _ _ _ _ HNE.out).trans HA97.out
            have HB98 : Hid (Below w1.heap.size w1 w98) := by rw [hw98]; exact HB97.out.setCell LgC.out _
            rw [← hw98]
            clear hw98 qC fC
            refine hK.out _ _ (HCE.out _ (HB98.out)) (fun hHeld => ?_)
            clear hK K
            try simp only [Act.put, List.setIfInBounds_toArray, List.set_cons_zero, List.set_cons_succ]
            refine wpAnyH_done (by kernel_rfl) ?_ _
            try go_wp2_with fail
            go_meet
            exact ⟨gA, gC, rfl, rfl, Lib.hid ⟨HA98.out, HC98.out, HB98.out⟩⟩
          · go_simp
            refine hK.out _ _ (HCE.out _ ((HB94.out.alloc HB94.out.size _))) (fun hHeld => ?_)
            clear hK K
            try simp only [Act.put, List.setIfInBounds_toArray, List.set_cons_zero, List.set_cons_succ]
            obtain ⟨gA, hg99⟩ : ∃ gA, gA = w94.heap.size := ⟨_, rfl⟩
            obtain ⟨w99, hw99⟩ : ∃ w99, w99 = w94.alloc (.cells #[.int .i64 0] 3) := ⟨_, rfl⟩
            have HA99 : Hid (w99.heap[gA]? = some (.cells #[.int .i64 0] 3 (0, 0))) := by rw [hw99, hg99]; exact heap_alloc_new w94 _
            have HB99 : Hid (Below w1.heap.size w1 w99) := by rw [hw99]; exact HB94.out.alloc HB94.out.size _
            have LgA : Hid (w1.heap.size ≤ gA) := by rw [hg99]; exact HB94.out.size
            have HNE : Hid (gA ≠ gC) := by have := lt_of_block HC94.out; simp only [Hid]; omega
            have HC99 : Hid (w99.heap[gC]? = some (.cells #[.int .i64 0] 3 (0, 0))) := by rw [hw99]; exact (Below.heap_alloc w94 _ _ (lt_of_block HC94.out)).trans HC94.out
            rw [← hw99, ← hg99]
            clear hw99 hg99
            refine wpAnyH_ready (rs := [8]) (by kernel_rfl) (by simp) ?_
            refine AllReadyH.cons (o := _) rfl (fun K hK => ?_) AllReadyH.nil
            go_simp
            refine (HC8.out w99).mono ?_
            rintro r w100 ⟨rfl, hb100⟩
            have HB100 := Lib.hid (HB99.out.trans (hb100.mono HB99.out.size))
            have HA100 : Hid (w100.heap[gA]? = some (.cells #[.int .i64 0] 3 (0, 0))) := (hb100.block gA (lt_of_block HA99.out)).trans HA99.out
            have HC100 : Hid (w100.heap[gC]? = some (.cells #[.int .i64 0] 3 (0, 0))) := (hb100.block gC (lt_of_block HC99.out)).trans HC99.out
            clear hb100
            refine hK.out _ _ (HCE.out _ (HB100.out)) (fun hHeld => ?_)
            clear hK K
            try simp only [Act.put, List.setIfInBounds_toArray, List.set_cons_zero, List.set_cons_succ]
            refine wpAnyH_ready (rs := [11]) (by kernel_rfl) (by simp) ?_
            refine AllReadyH.cons (o := _) rfl (fun K hK => ?_) AllReadyH.nil
            have qA := cell_of_one HA100.out
            have fA := free_of_one HA100.out
            go_simp
            obtain ⟨w101, hw101⟩ : ∃ w9, w9 = w100.setCell ⟨gA, 0, none⟩ (.int .i64 ra) := ⟨_, rfl⟩
            have HA101 : Hid (w101.heap[gA]? = some (.cells #[.int .i64 ra] 3 (0, 0))) := by rw [hw101]; exact one_setCell HA100.out
            have HC101 : Hid (w101.heap[gC]? = some (.cells #[.int .i64 0] 3 (0, 0))) := by rw [hw101]; exact (Below.heap_setCell _ _ _ _ (fun e => HNE.out e.symm)).trans HC100.out
            have HB101 : Hid (Below w1.heap.size w1 w101) := by rw [hw101]; exact HB100.out.setCell LgA.out _
            rw [← hw101]
            clear hw101 qA fA
            refine hK.out _ _ (HCE.out _ (HB101.out)) (fun hHeld => ?_)
            clear hK K
            try simp only [Act.put, List.setIfInBounds_toArray, List.set_cons_zero, List.set_cons_succ]
            refine wpAnyH_ready (rs := [12]) (by kernel_rfl) (by simp) ?_
            refine AllReadyH.cons (o := _) rfl (fun K hK => ?_) AllReadyH.nil
            have qC := cell_of_one HC101.out
            have fC := free_of_one HC101.out
            go_simp
            obtain ⟨w102, hw102⟩ : ∃ w9, w9 = w101.setCell ⟨gC, 0, none⟩ (.int .i64 wi) := ⟨_, rfl⟩
            have HC102 : Hid (w102.heap[gC]? = some (.cells #[.int .i64 wi] 3 (0, 0))) := by rw [hw102]; exact one_setCell HC101.out
            have HA102 : Hid (w102.heap[gA]? = some (.cells #[.int .i64 ra] 3 (0, 0))) := by rw [hw102]; exact (Below.heap_setCell _ _ _ _ HNE.out).trans HA101.out
            have HB102 : Hid (Below w1.heap.size w1 w102) := by rw [hw102]; exact HB101.out.setCell LgC.out _
            rw [← hw102]
            clear hw102 qC fC
            refine hK.out _ _ (HCE.out _ (HB102.out)) (fun hHeld => ?_)
            clear hK K
            try simp only [Act.put, List.setIfInBounds_toArray, List.set_cons_zero, List.set_cons_succ]
            refine wpAnyH_done (by kernel_rfl) ?_ _
            try go_wp2_with fail
            go_meet
            exact ⟨gA, gC, rfl, rfl, Lib.hid ⟨HA102.out, HC102.out, HB102.out⟩⟩
        · go_simp
          refine hK.out _ _ (HCE.out _ ((HB93.out.alloc HB93.out.size _))) (fun hHeld => ?_)
          clear hK K
          try simp only [Act.put, List.setIfInBounds_toArray, List.set_cons_zero, List.set_cons_succ]
          obtain ⟨gA, hg103⟩ : ∃ gA, gA = w93.heap.size := ⟨_, rfl⟩
          obtain ⟨w103, hw103⟩ : ∃ w103, w103 = w93.alloc (.cells #[.int .i64 0] 3) := ⟨_, rfl⟩
          have HA103 : Hid (w103.heap[gA]? = some (.cells #[.int .i64 0] 3 (0, 0))) := by rw [hw103, hg103]; exact heap_alloc_new w93 _
          have HB103 : Hid (Below w1.heap.size w1 w103) := by rw [hw103]; exact HB93.out.alloc HB93.out.size _
          have LgA : Hid (w1.heap.size ≤ gA) := by rw [hg103]; exact HB93.out.size
          have HNE : Hid (gA ≠ gC) := by have := lt_of_block HC93.out; simp only [Hid]; omega
          have HC103 : Hid (w103.heap[gC]? = some (.cells #[.int .i64 0] 3 (0, 0))) := by rw [hw103]; exact (Below.heap_alloc w93 _ _ (lt_of_block HC93.out)).trans HC93.out
          rw [← hw103, ← hg103]
          clear hw103 hg103
          refine wpAnyH_ready (rs := [7]) (by kernel_rfl) (by simp) ?_
          refine AllReadyH.cons (o := _) rfl (fun K hK => ?_) AllReadyH.nil
          go_simp
          refine (HC7.out w103).mono ?_
          rintro r w104 ⟨rfl, hb104⟩
          have HB104 := Lib.hid (HB103.out.trans (hb104.mono HB103.out.size))
          have HA104 : Hid (w104.heap[gA]? = some (.cells #[.int .i64 0] 3 (0, 0))) := (hb104.block gA (lt_of_block HA103.out)).trans HA103.out
          have HC104 : Hid (w104.heap[gC]? = some (.cells #[.int .i64 0] 3 (0, 0))) := (hb104.block gC (lt_of_block HC103.out)).trans HC103.out
          clear hb104
          refine hK.out _ _ (HCE.out _ (HB104.out)) (fun hHeld => ?_)
          clear hK K
          try simp only [Act.put, List.setIfInBounds_toArray, List.set_cons_zero, List.set_cons_succ]
          refine wpAnyH_ready (rs := [8]) (by kernel_rfl) (by simp) ?_
          refine AllReadyH.cons (o := _) rfl (fun K hK => ?_) AllReadyH.nil
          go_simp
          refine (HC8.out w104).mono ?_
          rintro r w105 ⟨rfl, hb105⟩
          have HB105 := Lib.hid (HB104.out.trans (hb105.mono HB104.out.size))
          have HA105 : Hid (w105.heap[gA]? = some (.cells #[.int .i64 0] 3 (0, 0))) := (hb105.block gA (lt_of_block HA104.out)).trans HA104.out
          have HC105 : Hid (w105.heap[gC]? = some (.cells #[.int .i64 0] 3 (0, 0))) := (hb105.block gC (lt_of_block HC104.out)).trans HC104.out
          clear hb105
          refine hK.out _ _ (HCE.out _ (HB105.out)) (fun hHeld => ?_)
          clear hK K
          try simp only [Act.put, List.setIfInBounds_toArray, List.set_cons_zero, List.set_cons_succ]
          refine wpAnyH_ready (rs := [11]) (by kernel_rfl) (by simp) ?_
          refine AllReadyH.cons (o := _) rfl (fun K hK => ?_) AllReadyH.nil
          have qA := cell_of_one HA105.out
          have fA := free_of_one HA105.out
          go_simp
          obtain ⟨w106, hw106⟩ : ∃ w9, w9 = w105.setCell ⟨gA, 0, none⟩ (.int .i64 ra) := ⟨_, rfl⟩
          have HA106 : Hid (w106.heap[gA]? = some (.cells #[.int .i64 ra] 3 (0, 0))) := by rw [hw106]; exact one_setCell HA105.out
          have HC106 : Hid (w106.heap[gC]? = some (.cells #[.int .i64 0] 3 (0, 0))) := by rw [hw106]; exact (Below.heap_setCell _ _ _ _ (fun e => HNE.out e.symm)).trans HC105.out
          have HB106 : Hid (Below w1.heap.size w1 w106) := by rw [hw106]; exact HB105.out.setCell LgA.out _
          rw [← hw106]
          clear hw106 qA fA
          refine hK.out _ _ (HCE.out _ (HB106.out)) (fun hHeld => ?_)
          clear hK K
          try simp only [Act.put, List.setIfInBounds_toArray, List.set_cons_zero, List.set_cons_succ]
          refine wpAnyH_ready (rs := [12]) (by kernel_rfl) (by simp) ?_
          refine AllReadyH.cons (o := _) rfl (fun K hK => ?_) AllReadyH.nil
          have qC := cell_of_one HC106.out
          have fC := free_of_one HC106.out
          go_simp
          obtain ⟨w107, hw107⟩ : ∃ w9, w9 = w106.setCell ⟨gC, 0, none⟩ (.int .i64 wi) := ⟨_, rfl⟩
          have HC107 : Hid (w107.heap[gC]? = some (.cells #[.int .i64 wi] 3 (0, 0))) := by rw [hw107]; exact one_setCell HC106.out
          have HA107 : Hid (w107.heap[gA]? = some (.cells #[.int .i64 ra] 3 (0, 0))) := by rw [hw107]; exact (Below.heap_setCell _ _ _ _ HNE.out).trans HA106.out
          have HB107 : Hid (Below w1.heap.size w1 w107) := by rw [hw107]; exact HB106.out.setCell LgC.out _
          rw [← hw107]
          clear hw107 qC fC
          refine hK.out _ _ (HCE.out _ (HB107.out)) (fun hHeld => ?_)
          clear hK K
          try simp only [Act.put, List.setIfInBounds_toArray, List.set_cons_zero, List.set_cons_succ]
          refine wpAnyH_done (by kernel_rfl) ?_ _
          try go_wp2_with fail
          go_meet
          exact ⟨gA, gC, rfl, rfl, Lib.hid ⟨HA107.out, HC107.out, HB107.out⟩⟩
      · go_simp
        refine hK.out _ _ (HCE.out _ ((HB92.out.alloc HB92.out.size _))) (fun hHeld => ?_)
        clear hK K
        try simp only [Act.put, List.setIfInBounds_toArray, List.set_cons_zero, List.set_cons_succ]
        obtain ⟨gA, hg108⟩ : ∃ gA, gA = w92.heap.size := ⟨_, rfl⟩
        obtain ⟨w108, hw108⟩ : ∃ w108, w108 = w92.alloc (.cells #[.int .i64 0] 3) := ⟨_, rfl⟩
        have HA108 : Hid (w108.heap[gA]? = some (.cells #[.int .i64 0] 3 (0, 0))) := by rw [hw108, hg108]; exact heap_alloc_new w92 _
        have HB108 : Hid (Below w1.heap.size w1 w108) := by rw [hw108]; exact HB92.out.alloc HB92.out.size _
        have LgA : Hid (w1.heap.size ≤ gA) := by rw [hg108]; exact HB92.out.size
        have HNE : Hid (gA ≠ gC) := by have := lt_of_block HC92.out; simp only [Hid]; omega
        have HC108 : Hid (w108.heap[gC]? = some (.cells #[.int .i64 0] 3 (0, 0))) := by rw [hw108]; exact (Below.heap_alloc w92 _ _ (lt_of_block HC92.out)).trans HC92.out
        rw [← hw108, ← hg108]
        clear hw108 hg108
        refine wpAnyH_ready (rs := [2]) (by kernel_rfl) (by simp) ?_
        refine AllReadyH.cons (o := _) rfl (fun K hK => ?_) AllReadyH.nil
        go_simp
        refine (HC2.out w108).mono ?_
        rintro r w109 ⟨rfl, hb109⟩
        have HB109 := Lib.hid (HB108.out.trans (hb109.mono HB108.out.size))
        have HA109 : Hid (w109.heap[gA]? = some (.cells #[.int .i64 0] 3 (0, 0))) := (hb109.block gA (lt_of_block HA108.out)).trans HA108.out
        have HC109 : Hid (w109.heap[gC]? = some (.cells #[.int .i64 0] 3 (0, 0))) := (hb109.block gC (lt_of_block HC108.out)).trans HC108.out
        clear hb109
        refine hK.out _ _ (HCE.out _ (HB109.out)) (fun hHeld => ?_)
        clear hK K
        try simp only [Act.put, List.setIfInBounds_toArray, List.set_cons_zero, List.set_cons_succ]
        refine wpAnyH_ready (rs := [7]) (by kernel_rfl) (by simp) ?_
        refine AllReadyH.cons (o := _) rfl (fun K hK => ?_) AllReadyH.nil
        go_simp
        refine (HC7.out w109).mono ?_
        rintro r w110 ⟨rfl, hb110⟩
        have HB110 := Lib.hid (HB109.out.trans (hb110.mono HB109.out.size))
        have HA110 : Hid (w110.heap[gA]? = some (.cells #[.int .i64 0] 3 (0, 0))) := (hb110.block gA (lt_of_block HA109.out)).trans HA109.out
        have HC110 : Hid (w110.heap[gC]? = some (.cells #[.int .i64 0] 3 (0, 0))) := (hb110.block gC (lt_of_block HC109.out)).trans HC109.out
        clear hb110
        refine hK.out _ _ (HCE.out _ (HB110.out)) (fun hHeld => ?_)
        clear hK K
        try simp only [Act.put, List.setIfInBounds_toArray, List.set_cons_zero, List.set_cons_succ]
        refine wpAnyH_ready (rs := [8]) (by kernel_rfl) (by simp) ?_
        refine AllReadyH.cons (o := _) rfl (fun K hK => ?_) AllReadyH.nil
        go_simp
        refine (HC8.out w110).mono ?_
        rintro r w111 ⟨rfl, hb111⟩
        have HB111 := Lib.hid (HB110.out.trans (hb111.mono HB110.out.size))
        have HA111 : Hid (w111.heap[gA]? = some (.cells #[.int .i64 0] 3 (0, 0))) := (hb111.block gA (lt_of_block HA110.out)).trans HA110.out
        have HC111 : Hid (w111.heap[gC]? = some (.cells #[.int .i64 0] 3 (0, 0))) := (hb111.block gC (lt_of_block HC110.out)).trans HC110.out
        clear hb111
        refine hK.out _ _ (HCE.out _ (HB111.out)) (fun hHeld => ?_)
        clear hK K
        try simp only [Act.put, List.setIfInBounds_toArray, List.set_cons_zero, List.set_cons_succ]
        refine wpAnyH_ready (rs := [11]) (by kernel_rfl) (by simp) ?_
        refine AllReadyH.cons (o := _) rfl (fun K hK => ?_) AllReadyH.nil
        have qA := cell_of_one HA111.out
        have fA := free_of_one HA111.out
        go_simp
        obtain ⟨w112, hw112⟩ : ∃ w9, w9 = w111.setCell ⟨gA, 0, none⟩ (.int .i64 ra) := ⟨_, rfl⟩
        have HA112 : Hid (w112.heap[gA]? = some (.cells #[.int .i64 ra] 3 (0, 0))) := by rw [hw112]; exact one_setCell HA111.out
        have HC112 : Hid (w112.heap[gC]? = some (.cells #[.int .i64 0] 3 (0, 0))) := by rw [hw112]; exact (Below.heap_setCell _ _ _ _ (fun e => HNE.out e.symm)).trans HC111.out
        have HB112 : Hid (Below w1.heap.size w1 w112) := by rw [hw112]; exact HB111.out.setCell LgA.out _
        rw [← hw112]
        clear hw112 qA fA
        refine hK.out _ _ (HCE.out _ (HB112.out)) (fun hHeld => ?_)
        clear hK K
        try simp only [Act.put, List.setIfInBounds_toArray, List.set_cons_zero, List.set_cons_succ]
        refine wpAnyH_ready (rs := [12]) (by kernel_rfl) (by simp) ?_
        refine AllReadyH.cons (o := _) rfl (fun K hK => ?_) AllReadyH.nil
        have qC := cell_of_one HC112.out
        have fC := free_of_one HC112.out
        go_simp
        obtain ⟨w113, hw113⟩ : ∃ w9, w9 = w112.setCell ⟨gC, 0, none⟩ (.int .i64 wi) := ⟨_, rfl⟩
        have HC113 : Hid (w113.heap[gC]? = some (.cells #[.int .i64 wi] 3 (0, 0))) := by rw [hw113]; exact one_setCell HC112.out
        have HA113 : Hid (w113.heap[gA]? = some (.cells #[.int .i64 ra] 3 (0, 0))) := by rw [hw113]; exact (Below.heap_setCell _ _ _ _ HNE.out).trans HA112.out
        have HB113 : Hid (Below w1.heap.size w1 w113) := by rw [hw113]; exact HB112.out.setCell LgC.out _
        rw [← hw113]
        clear hw113 qC fC
        refine hK.out _ _ (HCE.out _ (HB113.out)) (fun hHeld => ?_)
        clear hK K
        try simp only [Act.put, List.setIfInBounds_toArray, List.set_cons_zero, List.set_cons_succ]
        refine wpAnyH_done (by kernel_rfl) ?_ _
        try go_wp2_with fail
        go_meet
        exact ⟨gA, gC, rfl, rfl, Lib.hid ⟨HA113.out, HC113.out, HB113.out⟩⟩
  case rest =>
    rename World => wx
    obtain ⟨G1, G2, rfl, rfl, HX⟩ := hcut
    obtain ⟨y0, y1, y2, y3, y4, y5, y6⟩ := HCE.out wx HX.out.2.2
    go_wp2_with fail
    refine (HW.out wx).mono ?_
    rintro r w2 ⟨rfl, hb2⟩
    have HB2 := Lib.hid (HX.out.2.2.trans (hb2.mono HX.out.2.2.size))
    have HG : Hid (w2.heap[G1]? = some (.cells #[.int .i64 ra] 3 (0, 0)) ∧ w2.heap[G2]? = some (.cells #[.int .i64 wi] 3 (0, 0))) := ⟨(hb2.block _ (lt_of_block HX.out.1)).trans HX.out.1, (hb2.block _ (lt_of_block HX.out.2.1)).trans HX.out.2.1⟩
    clear hb2 y0 y1 y2 y3 y4 y5 y6
    by_cases he : mw = []
    · subst he
      go_wp2_with fail
      refine (HCT.out w2 G1 G2 HB2.out HG.out.1 HG.out.2).mono ?_
      rintro r w3 ⟨rfl, hb3⟩
      have HB3 := Lib.hid (HB2.out.trans (hb3.mono HB2.out.size))
      clear hb3
      cases q
      all_goals
        go_wp2
        go_ret
        exact ⟨rfl, HB1.out.trans (HB3.out.mono HB1.out.size)⟩
    · have hef : mw.isEmpty = false := by cases mw with
        | nil => exact absurd rfl he
        | cons a l => rfl
      go_wp2
      go_ret
      exact ⟨by rw [decide_eq_false he]; rfl, HB1.out.trans (HB2.out.mono HB1.out.size)⟩
end Go.Proofs.Ytccabdhfnjlbdaa
