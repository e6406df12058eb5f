/- Fill: Fits, the document's. -/
import Derived.Test.YtccabdhfnjlbdaaF8
namespace Go.Proofs.Ytccabdhfnjlbdaa
open Go.RowKit
set_option maxRecDepth 20000
set_option linter.unusedVariables false

theorem far_near (a wi : Int) (e : Rw) : nearP a wi e.r e.v = !farP (rt a) wi e := by
  unfold nearP farP
  by_cases h : min wi e.v < dist (rt a) (rt e.r)
  · rw [decide_eq_true h, decide_eq_false (by omega)]; rfl
  · rw [decide_eq_false h, decide_eq_true (by omega)]; rfl

set_option maxHeartbeats 8000000 in
theorem rfits_any (m : Mo) (now x y : Int) (P : Option Addr) (cp : Nat) (t : Tk) (A : Option Addr) (n c : Nat) (l : List Rw) (w : World) (hn : n = l.length) (hE : Rs w w.heap.size A l) (hl : n ≤ 1000) (hnow : In64 now) (hts : In64 t.s) :
    Calls Try.prog 16 #[m.v, .int .i64 now, .agg #[.int .u32 x, .int .i64 y, .slice P t.n cp, .int .i64 t.r, .int .i64 t.s], .slice A n c] w fun r w' => r = .returned (.bool (decide (m.wr = []) && !(l.any (farP (rt t.r) (m.win (waitP now t.s)))))) ∧ Below w.heap.size w w' := by
  obtain ⟨tn, tr, ts⟩ := t
  obtain ⟨w0, hw0⟩ : ∃ w0, w0 = w.alloc (.cells m.cells 23) := ⟨_, rfl⟩
  have hb0 : Below w.heap.size w w0 := by rw [hw0]; exact (Below.refl _ _).alloc (Nat.le_refl _) _
  have hp0 : w0.heap[w.heap.size]? = some (.cells m.cells 23 (0, 0)) := by rw [hw0]; exact heap_alloc_new w _
  have hs0 : w0.heap.size = w.heap.size + 1 := by rw [hw0]; simp
  obtain ⟨w1, hw1⟩ : ∃ w1, w1 = w0.alloc (.cells #[.int .u32 x, .int .i64 y, .slice P tn cp, .int .i64 tr, .int .i64 ts] 46) := ⟨_, rfl⟩
  have hb1 : Below w0.heap.size w0 w1 := by rw [hw1]; exact (Below.refl _ _).alloc (Nat.le_refl _) _
  have hp1 : w1.heap[w.heap.size + 1]? = some (.cells #[.int .u32 x, .int .i64 y, .slice P tn cp, .int .i64 tr, .int .i64 ts] 46 (0, 0)) := by rw [hw1, ← hs0]; exact heap_alloc_new w0 _
  have hb01 : Below w.heap.size w w1 := hb0.trans (hb1.mono hb0.size)
  have HCE : Hid (∀ W, Below w1.heap.size w1 W → W.cell? ⟨w.heap.size, 0, none⟩ = some (.int .i64 m.k) ∧ W.cell? ⟨w.heap.size, 1, none⟩ = some (.int .i64 m.b) ∧ W.cell? ⟨w.heap.size, 2, none⟩ = some (.int .i64 m.s) ∧ W.cell? ⟨w.heap.size, 3, none⟩ = some (.int .i64 m.c) ∧ W.cell? ⟨w.heap.size, 4, none⟩ = some (.int .i64 m.e) ∧ W.cell? ⟨w.heap.size + 1, 3, none⟩ = some (.int .i64 tr) ∧ W.cell? ⟨w.heap.size + 1, 4, none⟩ = some (.int .i64 ts)) := fun W hW => by
    have e1 := (hW.block _ (lt_of_block hp1)).trans hp1
    have e0 := (hW.block _ (lt_of_block ((hb1.block _ (lt_of_block hp0)).trans hp0))).trans ((hb1.block _ (lt_of_block hp0)).trans hp0)
    exact ⟨cell_of_row W _ 0 _ _ _ e0, cell_of_row W _ 1 _ _ _ e0, cell_of_row W _ 2 _ _ _ e0, cell_of_row W _ 3 _ _ _ e0, cell_of_row W _ 4 _ _ _ e0, cell_of_row W _ 3 _ _ _ e1, cell_of_row W _ 4 _ _ _ e1⟩
  have hwb := wait_bd now ts
  obtain ⟨wt, hwt⟩ : ∃ wt, wt = waitP now ts := ⟨_, rfl⟩
  rw [← hwt] at hwb
  obtain ⟨wi, hwi⟩ : ∃ wi, wi = m.win wt := ⟨_, rfl⟩
  have HC7 : Hid (∀ W, Calls Try.prog 30 #[.int .i64 now, .int .i64 ts] W fun r w' => r = .returned (.int .i64 wt) ∧ Below W.heap.size W w') := fun W => (rwait_any now ts W hnow hts).mono fun r w' h => ⟨by rw [h.1, hwt], by rw [h.2]; exact Below.refl _ _⟩
  have HC8 : Hid (∀ W, Calls Try.prog 29 #[m.v, .int .i64 wt] W fun r w' => r = .returned (.int .i64 wi) ∧ Below W.heap.size W w') := fun W => (rwindow_any m.k m.b m.s m.c m.e wt W (by omega)).mono fun r w' h => ⟨by rw [h.1, hwi]; rfl, h.2⟩
  have HNE : Hid (∀ W e, Calls Try.prog 31 #[.int .i64 tr, .int .i64 wi, .int .i64 e.r, .int .i64 e.v] W fun r w' => r = .returned (.bool (!farP (rt tr) wi e)) ∧ Below W.heap.size W w') := fun W e => (near_any tr wi e.r e.v W).mono fun r w' h => ⟨by rw [h.1, far_near], by rw [h.2]; exact Below.refl _ _⟩
  obtain ⟨mw, hmw⟩ : ∃ mw, mw = m.wr := ⟨_, rfl⟩
  have HW : Hid (∀ W, Calls Try.prog 24 #[m.v] W fun r w' => r = .returned (sV mw) ∧ Below W.heap.size W w') := fun W => by rw [hmw]; exact rwrongM_any m.k m.b m.s m.c m.e W
  simp only [← hmw, ← hwt, ← hwi]
  have H0 := Lib.hid hw0
  have H1 := Lib.hid hw1
  have HB1 := Lib.hid hb01
  have HE := Lib.hid (hE.later hb01 (Nat.le_refl _))
  have HN := Lib.hid hn
  have HBS : Hid (Below w1.heap.size w1 w1) := Below.refl _ _
  clear hw0 hw1 hb0 hb1 hp0 hp1 hs0 hb01 hn hE hnow hts hwt hwi hmw hwb
  go_enter Try.func16, Try.ntmps16
  go_upto_region 1 with (fail)
  rw [← H0.out, ← H1.out]
  obtain ⟨y0, y1, y2, y3, y4, y5, y6⟩ := HCE.out w1 HBS.out
  go_wp2_with fail
  refine (HW.out w1).mono ?_
  rintro r w2 ⟨rfl, hb2⟩
  have HB2 := Lib.hid hb2
  clear hb2 y0 y1 y2 y3 y4 y5 y6
  by_cases he : mw = []
  · subst he
    go_upto_region 3 with (fail)
    have HDp : Hid (Below w1.heap.size w1 w2.drew) := HB2.out.drew
    refine wp_region_held_drew (S := fun W : World => W.cell? ⟨w.heap.size, 0, none⟩ = some (.int .i64 m.k) ∧ W.cell? ⟨w.heap.size, 1, none⟩ = some (.int .i64 m.b) ∧ W.cell? ⟨w.heap.size, 2, none⟩ = some (.int .i64 m.s) ∧ W.cell? ⟨w.heap.size, 3, none⟩ = some (.int .i64 m.c) ∧ W.cell? ⟨w.heap.size, 4, none⟩ = some (.int .i64 m.e) ∧ W.cell? ⟨w.heap.size + 1, 3, none⟩ = some (.int .i64 tr) ∧ W.cell? ⟨w.heap.size + 1, 4, none⟩ = some (.int .i64 ts)) (by kernel_rfl) (HCE.out _ (HDp.out)) (fun hHeld => ?_)
    obtain ⟨Wp0, hW0⟩ : ∃ W0, W0 = w2.drew := ⟨_, rfl⟩
    rw [← hW0] at hHeld HDp ⊢
    clear hW0
    refine wpAnyH_take (i := 0) (oi := ?oi0p) (v := ?v0p) ?hi0p ?hs0p ?hf0p ?hr0p ?hQ0p ?hy0p ?hS0p ?h0p
    case hi0p => exact (by simp only [List.getElem?_toArray, List.getElem?_cons_zero]; rfl)
    case hs0p => kernel_rfl
    case hf0p => kernel_rfl
    case hr0p => kernel_rfl
    case hQ0p => exact fun _ _ _ h => h
    case hy0p =>
      refine Or.inl ⟨rfl, ?_⟩
      intro W hSw
      obtain ⟨y0, y1, y2, y3, y4, y5, y6⟩ := hSw
      go_simp
      try with_reducible rfl
    case hS0p => assumption
    try simp only [Act.put, List.setIfInBounds_toArray, List.set_cons_zero, List.set_cons_succ]
    refine wpAnyH_take (i := 1) (oi := ?oi1p) (v := ?v1p) ?hi1p ?hs1p ?hf1p ?hr1p ?hQ1p ?hy1p ?hS1p ?h1p
    case hi1p => exact (by simp only [List.getElem?_toArray, List.getElem?_cons_succ, List.getElem?_cons_zero]; rfl)
    case hs1p => kernel_rfl
    case hf1p => kernel_rfl
    case hr1p => kernel_rfl
    case hQ1p => exact fun _ _ _ h => h
    case hy1p =>
      refine Or.inl ⟨rfl, ?_⟩
      intro W hSw
      obtain ⟨y0, y1, y2, y3, y4, y5, y6⟩ := hSw
      go_simp
      try with_reducible rfl
    case hS1p => assumption
    try simp only [Act.put, List.setIfInBounds_toArray, List.set_cons_zero, List.set_cons_succ]
    refine wpAnyH_take (i := 2) (oi := ?oi2p) (v := ?v2p) ?hi2p ?hs2p ?hf2p ?hr2p ?hQ2p ?hy2p ?hS2p ?h2p
    case hi2p => exact (by simp only [List.getElem?_toArray, List.getElem?_cons_succ, List.getElem?_cons_zero]; rfl)
    case hs2p => kernel_rfl
    case hf2p => kernel_rfl
    case hr2p => kernel_rfl
    case hQ2p => exact fun _ _ _ h => h
    case hy2p =>
      refine Or.inl ⟨rfl, ?_⟩
      intro W hSw
      obtain ⟨y0, y1, y2, y3, y4, y5, y6⟩ := hSw
      go_simp
      try with_reducible rfl
    case hS2p => assumption
    try simp only [Act.put, List.setIfInBounds_toArray, List.set_cons_zero, List.set_cons_succ]
    refine wpAnyH_take (i := 3) (oi := ?oi3p) (v := ?v3p) ?hi3p ?hs3p ?hf3p ?hr3p ?hQ3p ?hy3p ?hS3p ?h3p
    case hi3p => exact (by simp only [List.getElem?_toArray, List.getElem?_cons_succ, List.getElem?_cons_zero]; rfl)
    case hs3p => kernel_rfl
    case hf3p => kernel_rfl
    case hr3p => kernel_rfl
    case hQ3p => exact fun _ _ _ h => h
    case hy3p =>
      refine Or.inl ⟨rfl, ?_⟩
      intro W hSw
      obtain ⟨y0, y1, y2, y3, y4, y5, y6⟩ := hSw
      go_simp
      try with_reducible rfl
    case hS3p => assumption
    try simp only [Act.put, List.setIfInBounds_toArray, List.set_cons_zero, List.set_cons_succ]
    refine wpAnyH_ready (rs := [4]) (by kernel_rfl) (by simp) ?_
    refine AllReadyH.cons (o := _) rfl (fun K hK => ?_) AllReadyH.nil
    go_simp
    refine (HC7.out Wp0).mono ?_
    rintro r Wp1 ⟨rfl, hbq⟩
    have HBp1 := Lib.hid (HDp.out.trans (hbq.mono HDp.out.size))
    clear hbq
    refine hK.out _ _ (HCE.out _ (HBp1.out)) (fun hHeld => ?_)
    clear hK K
    try simp only [Act.put, List.setIfInBounds_toArray, List.set_cons_zero, List.set_cons_succ]
    refine wpAnyH_ready (rs := [5]) (by kernel_rfl) (by simp) ?_
    refine AllReadyH.cons (o := _) rfl (fun K hK => ?_) AllReadyH.nil
    go_simp
    refine (HC8.out Wp1).mono ?_
    rintro r Wp2 ⟨rfl, hbq⟩
    have HBp2 := Lib.hid (HBp1.out.trans (hbq.mono HBp1.out.size))
    clear hbq
    refine hK.out _ _ (HCE.out _ (HBp2.out)) (fun hHeld => ?_)
    clear hK K
    try simp only [Act.put, List.setIfInBounds_toArray, List.set_cons_zero, List.set_cons_succ]
    refine wpAnyH_take (i := 6) (oi := ?oi6p) (v := ?v6p) ?hi6p ?hs6p ?hf6p ?hr6p ?hQ6p ?hy6p ?hS6p ?h6p
    case hi6p => exact (by simp only [List.getElem?_toArray, List.getElem?_cons_succ, List.getElem?_cons_zero]; rfl)
    case hs6p => kernel_rfl
    case hf6p => kernel_rfl
    case hr6p => kernel_rfl
    case hQ6p => exact fun _ _ _ h => h
    case hy6p =>
      refine Or.inl ⟨rfl, ?_⟩
      intro W hSw
      obtain ⟨y0, y1, y2, y3, y4, y5, y6⟩ := hSw
      go_simp
      try with_reducible rfl
    case hS6p => assumption
    try simp only [Act.put, List.setIfInBounds_toArray, List.set_cons_zero, List.set_cons_succ]
    refine wpAnyH_done (by kernel_rfl) ?_ _
    go_wp2_with fail
    go_loopw [10] (fun u wr => ∃ k : Nat, k ≤ n ∧ u = .int .i64 (k : Int) ∧ Hid ((∀ e ∈ l.take k, farP (rt tr) wi e = false) ∧ Below w1.heap.size w1 wr)) (fun u _ => n - (intOf u).toNat)
    case atStart => exact ⟨0, by omega, rfl, by simp, HBp2.out⟩
    case round =>
      obtain ⟨k, hk, rfl, HV⟩ := hrel
      by_cases hlt : k < n
      · obtain ⟨e, hy⟩ : ∃ e, l[k]? = some e := ⟨l[k]'(by rw [← HN.out]; exact hlt), List.getElem?_eq_getElem _⟩
        obtain ⟨b1, o1, rfl, hb1, ha1⟩ := HE.out (by have := HN.out; omega)
        obtain ⟨Q, cq, d0, d1, d2, d3⟩ := ha1 k _ hy
        have HY := Lib.hid hy
        obtain ⟨z, hz⟩ : ∃ z, z = farP (rt tr) wi e := ⟨_, rfl⟩
        have HN1 : Hid (∀ W, Calls Try.prog 31 #[.int .i64 tr, .int .i64 wi, .int .i64 e.r, .int .i64 e.v] W fun r w' => r = .returned (.bool (!z)) ∧ Below W.heap.size W w') := fun W => by rw [hz]; exact HNE.out W e
        have HZ := Lib.hid hz
        have HCF : Hid (∀ W, Below w1.heap.size w1 W → W.cell? ⟨w.heap.size + 1, 3, none⟩ = some (.int .i64 tr) ∧ W.cell? ⟨b1, o1 + k * 4 + 2, none⟩ = some (.int .i64 e.r) ∧ W.cell? ⟨b1, o1 + k * 4 + 3, none⟩ = some (.int .i64 e.v)) := fun W hW => ⟨(HCE.out W hW).2.2.2.2.2.1, (hW.cell (p := ⟨b1, _, none⟩) hb1).trans d2, (hW.cell (p := ⟨b1, _, none⟩) hb1).trans d3⟩
        have HV2 := Lib.hid HV.out.2
        clear ha1 hy hb1 d0 d1 d2 d3 hz
        cases z
        · go_upto_region 7 with (fail)
          have HDq : Hid (Below w1.heap.size w1 wr.drew) := HV2.out.drew
          refine wp_region_held_drew (S := fun W : World => W.cell? ⟨w.heap.size + 1, 3, none⟩ = some (.int .i64 tr) ∧ W.cell? ⟨b1, o1 + k * 4 + 2, none⟩ = some (.int .i64 e.r) ∧ W.cell? ⟨b1, o1 + k * 4 + 3, none⟩ = some (.int .i64 e.v)) (by kernel_rfl) (HCF.out _ (HDq.out)) (fun hHeld => ?_)
          obtain ⟨Wq0, hW0⟩ : ∃ W0, W0 = wr.drew := ⟨_, rfl⟩
          rw [← hW0] at hHeld HDq ⊢
          clear hW0
          refine wpAnyH_take (i := 0) (oi := ?oi0q) (v := ?v0q) ?hi0q ?hs0q ?hf0q ?hr0q ?hQ0q ?hy0q ?hS0q ?h0q
          case hi0q => exact (by simp only [List.getElem?_toArray, List.getElem?_cons_zero]; rfl)
          case hs0q => kernel_rfl
          case hf0q => kernel_rfl
          case hr0q => kernel_rfl
          case hQ0q => exact fun _ _ _ h => h
          case hy0q =>
            refine Or.inl ⟨rfl, ?_⟩
            intro W hSw
            obtain ⟨y0, y1, y2⟩ := hSw
            go_simp
            try with_reducible rfl
          case hS0q => assumption
          try simp only [Act.put, List.setIfInBounds_toArray, List.set_cons_zero, List.set_cons_succ]
          refine wpAnyH_take (i := 1) (oi := ?oi1q) (v := ?v1q) ?hi1q ?hs1q ?hf1q ?hr1q ?hQ1q ?hy1q ?hS1q ?h1q
          case hi1q => exact (by simp only [List.getElem?_toArray, List.getElem?_cons_succ, List.getElem?_cons_zero]; rfl)
          case hs1q => kernel_rfl
          case hf1q => kernel_rfl
          case hr1q => kernel_rfl
          case hQ1q => exact fun _ _ _ h => h
          case hy1q =>
            refine Or.inl ⟨rfl, ?_⟩
            intro W hSw
            obtain ⟨y0, y1, y2⟩ := hSw
            go_simp
            try with_reducible rfl
          case hS1q => assumption
          try simp only [Act.put, List.setIfInBounds_toArray, List.set_cons_zero, List.set_cons_succ]
          refine wpAnyH_take (i := 2) (oi := ?oi2q) (v := ?v2q) ?hi2q ?hs2q ?hf2q ?hr2q ?hQ2q ?hy2q ?hS2q ?h2q
          case hi2q => exact (by simp only [List.getElem?_toArray, List.getElem?_cons_succ, List.getElem?_cons_zero]; rfl)
          case hs2q => kernel_rfl
          case hf2q => kernel_rfl
          case hr2q => kernel_rfl
          case hQ2q => exact fun _ _ _ h => h
          case hy2q =>
            refine Or.inl ⟨rfl, ?_⟩
            intro W hSw
            obtain ⟨y0, y1, y2⟩ := hSw
            go_simp
            try with_reducible rfl
          case hS2q => assumption
          try simp only [Act.put, List.setIfInBounds_toArray, List.set_cons_zero, List.set_cons_succ]
          refine wpAnyH_take (i := 3) (oi := ?oi3q) (v := ?v3q) ?hi3q ?hs3q ?hf3q ?hr3q ?hQ3q ?hy3q ?hS3q ?h3q
          case hi3q => exact (by simp only [List.getElem?_toArray, List.getElem?_cons_succ, List.getElem?_cons_zero]; rfl)
          case hs3q => kernel_rfl
          case hf3q => kernel_rfl
          case hr3q => kernel_rfl
          case hQ3q => exact fun _ _ _ h => h
          case hy3q =>
            refine Or.inl ⟨rfl, ?_⟩
            intro W hSw
            obtain ⟨y0, y1, y2⟩ := hSw
            go_simp
            try with_reducible rfl
          case hS3q => assumption
          try simp only [Act.put, List.setIfInBounds_toArray, List.set_cons_zero, List.set_cons_succ]
          refine wpAnyH_take (i := 4) (oi := ?oi4q) (v := ?v4q) ?hi4q ?hs4q ?hf4q ?hr4q ?hQ4q ?hy4q ?hS4q ?h4q
          case hi4q => exact (by simp only [List.getElem?_toArray, List.getElem?_cons_succ, List.getElem?_cons_zero]; rfl)
          case hs4q => kernel_rfl
          case hf4q => kernel_rfl
          case hr4q => kernel_rfl
          case hQ4q => exact fun _ _ _ h => h
          case hy4q =>
            refine Or.inl ⟨rfl, ?_⟩
            intro W hSw
            obtain ⟨y0, y1, y2⟩ := hSw
            go_simp
            try with_reducible rfl
          case hS4q => assumption
          try simp only [Act.put, List.setIfInBounds_toArray, List.set_cons_zero, List.set_cons_succ]
          refine wpAnyH_take (i := 5) (oi := ?oi5q) (v := ?v5q) ?hi5q ?hs5q ?hf5q ?hr5q ?hQ5q ?hy5q ?hS5q ?h5q
          case hi5q => exact (by simp only [List.getElem?_toArray, List.getElem?_cons_succ, List.getElem?_cons_zero]; rfl)
          case hs5q => kernel_rfl
          case hf5q => kernel_rfl
          case hr5q => kernel_rfl
          case hQ5q => exact fun _ _ _ h => h
          case hy5q =>
            refine Or.inl ⟨rfl, ?_⟩
            intro W hSw
            obtain ⟨y0, y1, y2⟩ := hSw
            go_simp
            try with_reducible rfl
          case hS5q => assumption
          try simp only [Act.put, List.setIfInBounds_toArray, List.set_cons_zero, List.set_cons_succ]
          refine wpAnyH_take (i := 6) (oi := ?oi6q) (v := ?v6q) ?hi6q ?hs6q ?hf6q ?hr6q ?hQ6q ?hy6q ?hS6q ?h6q
          case hi6q => exact (by simp only [List.getElem?_toArray, List.getElem?_cons_succ, List.getElem?_cons_zero]; rfl)
          case hs6q => kernel_rfl
          case hf6q => kernel_rfl
          case hr6q => kernel_rfl
          case hQ6q => exact fun _ _ _ h => h
          case hy6q =>
            refine Or.inl ⟨rfl, ?_⟩
            intro W hSw
            obtain ⟨y0, y1, y2⟩ := hSw
            go_simp
            try with_reducible rfl
          case hS6q => assumption
          try simp only [Act.put, List.setIfInBounds_toArray, List.set_cons_zero, List.set_cons_succ]
          refine wpAnyH_take (i := 7) (oi := ?oi7q) (v := ?v7q) ?hi7q ?hs7q ?hf7q ?hr7q ?hQ7q ?hy7q ?hS7q ?h7q
          case hi7q => exact (by simp only [List.getElem?_toArray, List.getElem?_cons_succ, List.getElem?_cons_zero]; rfl)
          case hs7q => kernel_rfl
          case hf7q => kernel_rfl
          case hr7q => kernel_rfl
          case hQ7q => exact fun _ _ _ h => h
          case hy7q =>
            refine Or.inl ⟨rfl, ?_⟩
            intro W hSw
            obtain ⟨y0, y1, y2⟩ := hSw
            go_simp
            try with_reducible rfl
          case hS7q => assumption
          try simp only [Act.put, List.setIfInBounds_toArray, List.set_cons_zero, List.set_cons_succ]
          refine wpAnyH_take (i := 8) (oi := ?oi8q) (v := ?v8q) ?hi8q ?hs8q ?hf8q ?hr8q ?hQ8q ?hy8q ?hS8q ?h8q
          case hi8q => exact (by simp only [List.getElem?_toArray, List.getElem?_cons_succ, List.getElem?_cons_zero]; rfl)
          case hs8q => kernel_rfl
          case hf8q => kernel_rfl
          case hr8q => kernel_rfl
          case hQ8q => exact fun _ _ _ h => h
          case hy8q =>
            refine Or.inl ⟨rfl, ?_⟩
            intro W hSw
            obtain ⟨y0, y1, y2⟩ := hSw
            go_simp
            try with_reducible rfl
          case hS8q => assumption
          try simp only [Act.put, List.setIfInBounds_toArray, List.set_cons_zero, List.set_cons_succ]
          refine wpAnyH_take (i := 9) (oi := ?oi9q) (v := ?v9q) ?hi9q ?hs9q ?hf9q ?hr9q ?hQ9q ?hy9q ?hS9q ?h9q
          case hi9q => exact (by simp only [List.getElem?_toArray, List.getElem?_cons_succ, List.getElem?_cons_zero]; rfl)
          case hs9q => kernel_rfl
          case hf9q => kernel_rfl
          case hr9q => kernel_rfl
          case hQ9q => exact fun _ _ _ h => h
          case hy9q =>
            refine Or.inl ⟨rfl, ?_⟩
            intro W hSw
            obtain ⟨y0, y1, y2⟩ := hSw
            go_simp
            try with_reducible rfl
          case hS9q => assumption
          try simp only [Act.put, List.setIfInBounds_toArray, List.set_cons_zero, List.set_cons_succ]
          refine wpAnyH_take (i := 10) (oi := ?oi10q) (v := ?v10q) ?hi10q ?hs10q ?hf10q ?hr10q ?hQ10q ?hy10q ?hS10q ?h10q
          case hi10q => exact (by simp only [List.getElem?_toArray, List.getElem?_cons_succ, List.getElem?_cons_zero]; rfl)
          case hs10q => kernel_rfl
          case hf10q => kernel_rfl
          case hr10q => kernel_rfl
          case hQ10q => exact fun _ _ _ h => h
          case hy10q =>
            refine Or.inl ⟨rfl, ?_⟩
            intro W hSw
            obtain ⟨y0, y1, y2⟩ := hSw
            go_simp
            try with_reducible rfl
          case hS10q => assumption
          try simp only [Act.put, List.setIfInBounds_toArray, List.set_cons_zero, List.set_cons_succ]
          refine wpAnyH_take (i := 11) (oi := ?oi11q) (v := ?v11q) ?hi11q ?hs11q ?hf11q ?hr11q ?hQ11q ?hy11q ?hS11q ?h11q
          case hi11q => exact (by simp only [List.getElem?_toArray, List.getElem?_cons_succ, List.getElem?_cons_zero]; rfl)
          case hs11q => kernel_rfl
          case hf11q => kernel_rfl
          case hr11q => kernel_rfl
          case hQ11q => exact fun _ _ _ h => h
          case hy11q =>
            refine Or.inl ⟨rfl, ?_⟩
            intro W hSw
            obtain ⟨y0, y1, y2⟩ := hSw
            go_simp
            try with_reducible rfl
          case hS11q => assumption
          try simp only [Act.put, List.setIfInBounds_toArray, List.set_cons_zero, List.set_cons_succ]
          refine wpAnyH_take (i := 12) (oi := ?oi12q) (v := ?v12q) ?hi12q ?hs12q ?hf12q ?hr12q ?hQ12q ?hy12q ?hS12q ?h12q
          case hi12q => exact (by simp only [List.getElem?_toArray, List.getElem?_cons_succ, List.getElem?_cons_zero]; rfl)
          case hs12q => kernel_rfl
          case hf12q => kernel_rfl
          case hr12q => kernel_rfl
          case hQ12q => exact fun _ _ _ h => h
          case hy12q =>
            refine Or.inl ⟨rfl, ?_⟩
            intro W hSw
            obtain ⟨y0, y1, y2⟩ := hSw
            go_simp
            try with_reducible rfl
          case hS12q => assumption
          try simp only [Act.put, List.setIfInBounds_toArray, List.set_cons_zero, List.set_cons_succ]
          refine wpAnyH_ready (rs := [13]) (by kernel_rfl) (by simp) ?_
          refine AllReadyH.cons (o := _) rfl (fun K hK => ?_) AllReadyH.nil
          go_simp
          refine (HN1.out Wq0).mono ?_
          rintro r Wq1 ⟨rfl, hbq⟩
          have HBq1 := Lib.hid (HDq.out.trans (hbq.mono HDq.out.size))
          clear hbq
          refine hK.out _ _ (HCF.out _ (HBq1.out)) (fun hHeld => ?_)
          clear hK K
          try simp only [Act.put, List.setIfInBounds_toArray, List.set_cons_zero, List.set_cons_succ]
          refine wpAnyH_take (i := 14) (oi := ?oi14q) (v := (.bool false)) ?hi14q ?hs14q ?hf14q ?hr14q ?hQ14q ?hy14q ?hS14q ?h14q
          case hi14q => exact (by simp only [List.getElem?_toArray, List.getElem?_cons_succ, List.getElem?_cons_zero]; rfl)
          case hs14q => kernel_rfl
          case hf14q => kernel_rfl
          case hr14q => kernel_rfl
          case hQ14q => exact fun _ _ _ h => h
          case hy14q =>
            refine Or.inl ⟨rfl, ?_⟩
            intro W hSw
            obtain ⟨y0, y1, y2⟩ := hSw
            go_simp
            try with_reducible rfl
          case hS14q => assumption
          try simp only [Act.put, List.setIfInBounds_toArray, List.set_cons_zero, List.set_cons_succ]
          refine wpAnyH_done (by kernel_rfl) ?_ _
          go_wp2
          go_roundw
          case rel =>
            refine ⟨k + 1, by omega, by go_num, fun x hx => ?_, HBq1.out⟩
            rw [List.take_add_one, HY.out] at hx
            rcases List.mem_append.1 hx with h | h
            · exact HV.out.1 x h
            · simp at h
              subst h
              exact HZ.out.symm
          case measure => simp [intOf] <;> omega
        · have HA : Hid (l.any (farP (rt tr) wi) = true) := by
            simp only [Hid]
            rw [List.any_eq_true]
            exact ⟨e, List.mem_of_getElem? HY.out, HZ.out.symm⟩
          go_upto_region 7 with (fail)
          have HDs : Hid (Below w1.heap.size w1 wr.drew) := HV2.out.drew
          refine wp_region_held_drew (S := fun W : World => W.cell? ⟨w.heap.size + 1, 3, none⟩ = some (.int .i64 tr) ∧ W.cell? ⟨b1, o1 + k * 4 + 2, none⟩ = some (.int .i64 e.r) ∧ W.cell? ⟨b1, o1 + k * 4 + 3, none⟩ = some (.int .i64 e.v)) (by kernel_rfl) (HCF.out _ (HDs.out)) (fun hHeld => ?_)
          obtain ⟨Ws0, hW0⟩ : ∃ W0, W0 = wr.drew := ⟨_, rfl⟩
          rw [← hW0] at hHeld HDs ⊢
          clear hW0
          refine wpAnyH_take (i := 0) (oi := ?oi0s) (v := ?v0s) ?hi0s ?hs0s ?hf0s ?hr0s ?hQ0s ?hy0s ?hS0s ?h0s
          case hi0s => exact (by simp only [List.getElem?_toArray, List.getElem?_cons_zero]; rfl)
          case hs0s => kernel_rfl
          case hf0s => kernel_rfl
          case hr0s => kernel_rfl
          case hQ0s => exact fun _ _ _ h => h
          case hy0s =>
            refine Or.inl ⟨rfl, ?_⟩
            intro W hSw
            obtain ⟨y0, y1, y2⟩ := hSw
            go_simp
            try with_reducible rfl
          case hS0s => assumption
          try simp only [Act.put, List.setIfInBounds_toArray, List.set_cons_zero, List.set_cons_succ]
          refine wpAnyH_take (i := 1) (oi := ?oi1s) (v := ?v1s) ?hi1s ?hs1s ?hf1s ?hr1s ?hQ1s ?hy1s ?hS1s ?h1s
          case hi1s => exact (by simp only [List.getElem?_toArray, List.getElem?_cons_succ, List.getElem?_cons_zero]; rfl)
          case hs1s => kernel_rfl
          case hf1s => kernel_rfl
          case hr1s => kernel_rfl
          case hQ1s => exact fun _ _ _ h => h
          case hy1s =>
            refine Or.inl ⟨rfl, ?_⟩
            intro W hSw
            obtain ⟨y0, y1, y2⟩ := hSw
            go_simp
            try with_reducible rfl
          case hS1s => assumption
          try simp only [Act.put, List.setIfInBounds_toArray, List.set_cons_zero, List.set_cons_succ]
          refine wpAnyH_take (i := 2) (oi := ?oi2s) (v := ?v2s) ?hi2s ?hs2s ?hf2s ?hr2s ?hQ2s ?hy2s ?hS2s ?h2s
          case hi2s => exact (by simp only [List.getElem?_toArray, List.getElem?_cons_succ, List.getElem?_cons_zero]; rfl)
          case hs2s => kernel_rfl
          case hf2s => kernel_rfl
          case hr2s => kernel_rfl
          case hQ2s => exact fun _ _ _ h => h
          case hy2s =>
            refine Or.inl ⟨rfl, ?_⟩
            intro W hSw
            obtain ⟨y0, y1, y2⟩ := hSw
            go_simp
            try with_reducible rfl
          case hS2s => assumption
          try simp only [Act.put, List.setIfInBounds_toArray, List.set_cons_zero, List.set_cons_succ]
          refine wpAnyH_take (i := 3) (oi := ?oi3s) (v := ?v3s) ?hi3s ?hs3s ?hf3s ?hr3s ?hQ3s ?hy3s ?hS3s ?h3s
          case hi3s => exact (by simp only [List.getElem?_toArray, List.getElem?_cons_succ, List.getElem?_cons_zero]; rfl)
          case hs3s => kernel_rfl
          case hf3s => kernel_rfl
          case hr3s => kernel_rfl
          case hQ3s => exact fun _ _ _ h => h
          case hy3s =>
            refine Or.inl ⟨rfl, ?_⟩
            intro W hSw
            obtain ⟨y0, y1, y2⟩ := hSw
            go_simp
            try with_reducible rfl
          case hS3s => assumption
          try simp only [Act.put, List.setIfInBounds_toArray, List.set_cons_zero, List.set_cons_succ]
          refine wpAnyH_take (i := 4) (oi := ?oi4s) (v := ?v4s) ?hi4s ?hs4s ?hf4s ?hr4s ?hQ4s ?hy4s ?hS4s ?h4s
          case hi4s => exact (by simp only [List.getElem?_toArray, List.getElem?_cons_succ, List.getElem?_cons_zero]; rfl)
          case hs4s => kernel_rfl
          case hf4s => kernel_rfl
          case hr4s => kernel_rfl
          case hQ4s => exact fun _ _ _ h => h
          case hy4s =>
            refine Or.inl ⟨rfl, ?_⟩
            intro W hSw
            obtain ⟨y0, y1, y2⟩ := hSw
            go_simp
            try with_reducible rfl
          case hS4s => assumption
          try simp only [Act.put, List.setIfInBounds_toArray, List.set_cons_zero, List.set_cons_succ]
          refine wpAnyH_take (i := 5) (oi := ?oi5s) (v := ?v5s) ?hi5s ?hs5s ?hf5s ?hr5s ?hQ5s ?hy5s ?hS5s ?h5s
          case hi5s => exact (by simp only [List.getElem?_toArray, List.getElem?_cons_succ, List.getElem?_cons_zero]; rfl)
          case hs5s => kernel_rfl
          case hf5s => kernel_rfl
          case hr5s => kernel_rfl
          case hQ5s => exact fun _ _ _ h => h
          case hy5s =>
            refine Or.inl ⟨rfl, ?_⟩
            intro W hSw
            obtain ⟨y0, y1, y2⟩ := hSw
            go_simp
            try with_reducible rfl
          case hS5s => assumption
          try simp only [Act.put, List.setIfInBounds_toArray, List.set_cons_zero, List.set_cons_succ]
          refine wpAnyH_take (i := 6) (oi := ?oi6s) (v := ?v6s) ?hi6s ?hs6s ?hf6s ?hr6s ?hQ6s ?hy6s ?hS6s ?h6s
          case hi6s => exact (by simp only [List.getElem?_toArray, List.getElem?_cons_succ, List.getElem?_cons_zero]; rfl)
          case hs6s => kernel_rfl
          case hf6s => kernel_rfl
          case hr6s => kernel_rfl
          case hQ6s => exact fun _ _ _ h => h
          case hy6s =>
            refine Or.inl ⟨rfl, ?_⟩
            intro W hSw
            obtain ⟨y0, y1, y2⟩ := hSw
            go_simp
            try with_reducible rfl
          case hS6s => assumption
          try simp only [Act.put, List.setIfInBounds_toArray, List.set_cons_zero, List.set_cons_succ]
          refine wpAnyH_take (i := 7) (oi := ?oi7s) (v := ?v7s) ?hi7s ?hs7s ?hf7s ?hr7s ?hQ7s ?hy7s ?hS7s ?h7s
          case hi7s => exact (by simp only [List.getElem?_toArray, List.getElem?_cons_succ, List.getElem?_cons_zero]; rfl)
          case hs7s => kernel_rfl
          case hf7s => kernel_rfl
          case hr7s => kernel_rfl
          case hQ7s => exact fun _ _ _ h => h
          case hy7s =>
            refine Or.inl ⟨rfl, ?_⟩
            intro W hSw
            obtain ⟨y0, y1, y2⟩ := hSw
            go_simp
            try with_reducible rfl
          case hS7s => assumption
          try simp only [Act.put, List.setIfInBounds_toArray, List.set_cons_zero, List.set_cons_succ]
          refine wpAnyH_take (i := 8) (oi := ?oi8s) (v := ?v8s) ?hi8s ?hs8s ?hf8s ?hr8s ?hQ8s ?hy8s ?hS8s ?h8s
          case hi8s => exact (by simp only [List.getElem?_toArray, List.getElem?_cons_succ, List.getElem?_cons_zero]; rfl)
          case hs8s => kernel_rfl
          case hf8s => kernel_rfl
          case hr8s => kernel_rfl
          case hQ8s => exact fun _ _ _ h => h
          case hy8s =>
            refine Or.inl ⟨rfl, ?_⟩
            intro W hSw
            obtain ⟨y0, y1, y2⟩ := hSw
            go_simp
            try with_reducible rfl
          case hS8s => assumption
          try simp only [Act.put, List.setIfInBounds_toArray, List.set_cons_zero, List.set_cons_succ]
          refine wpAnyH_take (i := 9) (oi := ?oi9s) (v := ?v9s) ?hi9s ?hs9s ?hf9s ?hr9s ?hQ9s ?hy9s ?hS9s ?h9s
          case hi9s => exact (by simp only [List.getElem?_toArray, List.getElem?_cons_succ, List.getElem?_cons_zero]; rfl)
          case hs9s => kernel_rfl
          case hf9s => kernel_rfl
          case hr9s => kernel_rfl
          case hQ9s => exact fun _ _ _ h => h
          case hy9s =>
            refine Or.inl ⟨rfl, ?_⟩
            intro W hSw
            obtain ⟨y0, y1, y2⟩ := hSw
            go_simp
            try with_reducible rfl
          case hS9s => assumption
          try simp only [Act.put, List.setIfInBounds_toArray, List.set_cons_zero, List.set_cons_succ]
          refine wpAnyH_take (i := 10) (oi := ?oi10s) (v := ?v10s) ?hi10s ?hs10s ?hf10s ?hr10s ?hQ10s ?hy10s ?hS10s ?h10s
          case hi10s => exact (by simp only [List.getElem?_toArray, List.getElem?_cons_succ, List.getElem?_cons_zero]; rfl)
          case hs10s => kernel_rfl
          case hf10s => kernel_rfl
          case hr10s => kernel_rfl
          case hQ10s => exact fun _ _ _ h => h
          case hy10s =>
            refine Or.inl ⟨rfl, ?_⟩
            intro W hSw
            obtain ⟨y0, y1, y2⟩ := hSw
            go_simp
            try with_reducible rfl
          case hS10s => assumption
          try simp only [Act.put, List.setIfInBounds_toArray, List.set_cons_zero, List.set_cons_succ]
          refine wpAnyH_take (i := 11) (oi := ?oi11s) (v := ?v11s) ?hi11s ?hs11s ?hf11s ?hr11s ?hQ11s ?hy11s ?hS11s ?h11s
          case hi11s => exact (by simp only [List.getElem?_toArray, List.getElem?_cons_succ, List.getElem?_cons_zero]; rfl)
          case hs11s => kernel_rfl
          case hf11s => kernel_rfl
          case hr11s => kernel_rfl
          case hQ11s => exact fun _ _ _ h => h
          case hy11s =>
            refine Or.inl ⟨rfl, ?_⟩
            intro W hSw
            obtain ⟨y0, y1, y2⟩ := hSw
            go_simp
            try with_reducible rfl
          case hS11s => assumption
          try simp only [Act.put, List.setIfInBounds_toArray, List.set_cons_zero, List.set_cons_succ]
          refine wpAnyH_take (i := 12) (oi := ?oi12s) (v := ?v12s) ?hi12s ?hs12s ?hf12s ?hr12s ?hQ12s ?hy12s ?hS12s ?h12s
          case hi12s => exact (by simp only [List.getElem?_toArray, List.getElem?_cons_succ, List.getElem?_cons_zero]; rfl)
          case hs12s => kernel_rfl
          case hf12s => kernel_rfl
          case hr12s => kernel_rfl
          case hQ12s => exact fun _ _ _ h => h
          case hy12s =>
            refine Or.inl ⟨rfl, ?_⟩
            intro W hSw
            obtain ⟨y0, y1, y2⟩ := hSw
            go_simp
            try with_reducible rfl
          case hS12s => assumption
          try simp only [Act.put, List.setIfInBounds_toArray, List.set_cons_zero, List.set_cons_succ]
          refine wpAnyH_ready (rs := [13]) (by kernel_rfl) (by simp) ?_
          refine AllReadyH.cons (o := _) rfl (fun K hK => ?_) AllReadyH.nil
          go_simp
          refine (HN1.out Ws0).mono ?_
          rintro r Ws1 ⟨rfl, hbq⟩
          have HBs1 := Lib.hid (HDs.out.trans (hbq.mono HDs.out.size))
          clear hbq
          refine hK.out _ _ (HCF.out _ (HBs1.out)) (fun hHeld => ?_)
          clear hK K
          try simp only [Act.put, List.setIfInBounds_toArray, List.set_cons_zero, List.set_cons_succ]
          refine wpAnyH_take (i := 14) (oi := ?oi14s) (v := (.bool true)) ?hi14s ?hs14s ?hf14s ?hr14s ?hQ14s ?hy14s ?hS14s ?h14s
          case hi14s => exact (by simp only [List.getElem?_toArray, List.getElem?_cons_succ, List.getElem?_cons_zero]; rfl)
          case hs14s => kernel_rfl
          case hf14s => kernel_rfl
          case hr14s => kernel_rfl
          case hQ14s => exact fun _ _ _ h => h
          case hy14s =>
            refine Or.inl ⟨rfl, ?_⟩
            intro W hSw
            obtain ⟨y0, y1, y2⟩ := hSw
            go_simp
            try with_reducible rfl
          case hS14s => assumption
          try simp only [Act.put, List.setIfInBounds_toArray, List.set_cons_zero, List.set_cons_succ]
          refine wpAnyH_done (by kernel_rfl) ?_ _
          go_wp2
          go_ret
          exact ⟨by rw [HA.out]; rfl, HB1.out.trans (HBs1.out.mono HB1.out.size)⟩
      · have hkn : k = n := by omega
        subst hkn
        have HA : Hid (l.any (farP (rt tr) wi) = false) := by
          have h := HV.out.1
          rw [List.take_of_length_le (by rw [← HN.out]; exact Nat.le_refl _)] at h
          simp only [Hid]
          rw [List.any_eq_false]
          intro e he
          have := h e he
          simp [this]
        go_wp2
        go_ret
        exact ⟨by rw [HA.out]; rfl, HB1.out.trans (HV.out.2.mono HB1.out.size)⟩
  · have hef : mw.isEmpty = false := by cases mw with
      | nil => exact absurd rfl he
      | cons a l => rfl
    go_wp2
    go_ret
    exact ⟨by rw [decide_eq_false he]; rfl, HB1.out.trans (HB2.out.mono HB1.out.size)⟩
end Go.Proofs.Ytccabdhfnjlbdaa
