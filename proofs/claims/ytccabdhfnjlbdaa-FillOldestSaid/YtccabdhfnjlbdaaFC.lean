/- Fill: Find, the document's. -/
import Derived.Test.YtccabdhfnjlbdaaFB
namespace Go.Proofs.Ytccabdhfnjlbdaa
open Go.RowKit
set_option maxRecDepth 20000
set_option linter.unusedVariables false

set_option maxHeartbeats 8000000 in
theorem rfind_any (m : Mo) (now : Int) (L : Option Addr) (nl cl : Nat) (l : List Tk) (A : Option Addr) (n c : Nat) (rows : List Rw) (w : World) (hnl : nl = l.length) (hL : Ts w w.heap.size L l) (hll : nl ≤ 1000) (hln : ∀ t ∈ l, t.n ≤ 10 ∧ In64 t.s) (hn : n = rows.length) (hE : Rs w w.heap.size A rows) (hS : ∀ e ∈ rows, e.n ≤ 10) (hl : n ≤ 100) (hnow : In64 now) :
    Calls Try.prog 19 #[m.v, .int .i64 now, .slice L nl cl, .slice A n c] w fun r w' => r = .returned (fR (findR m now rows l)) ∧ Below w.heap.size w w' := by
  obtain ⟨w0, hw0⟩ : ∃ w0, w0 = w.alloc (.cells m.cells 23) := ⟨_, rfl⟩
  have hb0 : Below w.heap.size w w0 := by rw [hw0]; exact (Below.refl _ _).alloc (Nat.le_refl _) _
  have hp0 : w0.heap[w.heap.size]? = some (.cells m.cells 23 (0, 0)) := by rw [hw0]; exact heap_alloc_new w _
  have HCE : Hid (∀ W, Below w0.heap.size w0 W → W.cell? ⟨w.heap.size, 0, none⟩ = some (.int .i64 m.k) ∧ W.cell? ⟨w.heap.size, 1, none⟩ = some (.int .i64 m.b) ∧ W.cell? ⟨w.heap.size, 2, none⟩ = some (.int .i64 m.s) ∧ W.cell? ⟨w.heap.size, 3, none⟩ = some (.int .i64 m.c) ∧ W.cell? ⟨w.heap.size, 4, none⟩ = some (.int .i64 m.e)) := fun W hW => by
    have e0 := (hW.block _ (lt_of_block hp0)).trans hp0
    exact ⟨cell_of_row W _ 0 _ _ _ e0, cell_of_row W _ 1 _ _ _ e0, cell_of_row W _ 2 _ _ _ e0, cell_of_row W _ 3 _ _ _ e0, cell_of_row W _ 4 _ _ _ e0⟩
  have HT : Hid (∀ W t, Below w0.heap.size w0 W → t ∈ l → Calls Try.prog 13 #[m.v, .int .i64 t.n, .slice A n c] W fun r w' => r = .returned (.int .i64 (teamP m t.n rows)) ∧ Below W.heap.size W w') := fun W t hW ht =>
    rteam_any m t.n A n c rows W (by have := (hln t ht).1; unfold In64; omega) hn ((hE.later hb0 (Nat.le_refl _)).later hW (Nat.le_refl _)) hS hl
  have HF : Hid (∀ W t x y P cp, Below w0.heap.size w0 W → t ∈ l → Calls Try.prog 16 #[m.v, .int .i64 now, .agg #[.int .u32 x, .int .i64 y, .slice P t.n cp, .int .i64 t.r, .int .i64 t.s], .slice A n c] W fun r w' => r = .returned (.bool (fitsP m now t rows)) ∧ Below W.heap.size W w') := fun W t x y P cp hW ht =>
    rfits_any m now x y P cp t A n c rows W hn ((hE.later hb0 (Nat.le_refl _)).later hW (Nat.le_refl _)) (by omega) hnow (hln t ht).2
  have HL := Lib.hid (hL.later hb0 (Nat.le_refl _))
  have HNL := Lib.hid hnl
  have H0 := Lib.hid hw0
  have HB0 := Lib.hid hb0
  have HBS : Hid (Below w0.heap.size w0 w0) := Below.refl _ _
  clear hw0 hb0 hp0 hnl hL hln hn hE hS hl hnow
  go_enter Try.func19, Try.ntmps19
  go_upto_region 1 with (fail)
  rw [← H0.out]
  go_wp2_with fail
  go_loopw [11] (fun u wr => ∃ k : Nat, k ≤ nl ∧ u = .int .i64 (k : Int) ∧ Hid ((∀ t ∈ l.take k, okP m now rows t = false) ∧ Below w0.heap.size w0 wr)) (fun u _ => nl - (intOf u).toNat)
  case atStart => exact ⟨0, by omega, rfl, by simp, HBS.out⟩
  case round =>
    obtain ⟨k, hk, rfl, HV⟩ := hrel
    by_cases hlt : k < nl
    · obtain ⟨t, hy⟩ : ∃ t, l[k]? = some t := ⟨l[k]'(by rw [← HNL.out]; exact hlt), List.getElem?_eq_getElem _⟩
      obtain ⟨b1, o1, rfl, hb1, ha1⟩ := HL.out (by have := HNL.out; omega)
      obtain ⟨x, y, P, cp, d0, d1, d2, d3, d4⟩ := ha1 k _ hy
      have HY := Lib.hid hy
      have hmem := List.mem_of_getElem? hy
      obtain ⟨tm, htm⟩ : ∃ tm, tm = teamP m t.n rows := ⟨_, rfl⟩
      obtain ⟨f, hf⟩ : ∃ f, f = fitsP m now t rows := ⟨_, rfl⟩
      have HT1 : Hid (∀ W, Below w0.heap.size w0 W → Calls Try.prog 13 #[m.v, .int .i64 t.n, .slice A n c] W fun r w' => r = .returned (.int .i64 tm) ∧ Below W.heap.size W w') := fun W hW => by rw [htm]; exact HT.out W t hW hmem
      have HF1 : Hid (∀ W, Below w0.heap.size w0 W → Calls Try.prog 16 #[m.v, .int .i64 now, .agg #[.int .u32 x, .int .i64 y, .slice P t.n cp, .int .i64 t.r, .int .i64 t.s], .slice A n c] W fun r w' => r = .returned (.bool f) ∧ Below W.heap.size W w') := fun W hW => by rw [hf]; exact HF.out W t x y P cp hW hmem
      have HOK : Hid (okP m now rows t = (decide (¬ tm = 0) && f)) := by simp only [Hid, okP]; rw [htm, hf]
      have HSOME : Hid (¬ tm = 0 → f = true → findR m now rows l = ((k : Int), tm, true)) := fun h1 h2 => by
        rw [htm]
        exact findR_some HY.out (by rw [HOK.out, decide_eq_true h1, h2]; rfl) HV.out.1
      have HNEXT : Hid (okP m now rows t = false → ∀ x ∈ l.take (k + 1), okP m now rows x = false) := fun h0 x hx => by
        rw [List.take_add_one, HY.out] at hx
        rcases List.mem_append.1 hx with h | h
        · exact HV.out.1 x h
        · simp at h
          subst h
          exact h0
      clear hy htm hf hmem
      have HCF : Hid (∀ W : World, Below w0.heap.size w0 W → W.cell? ⟨b1, o1 + k * 5, none⟩ = some (.int .u32 x) ∧ W.cell? ⟨b1, o1 + k * 5 + 1, none⟩ = some (.int .i64 y) ∧ W.cell? ⟨b1, o1 + k * 5 + 2, none⟩ = some (.slice P t.n cp) ∧ W.cell? ⟨b1, o1 + k * 5 + 3, none⟩ = some (.int .i64 t.r) ∧ W.cell? ⟨b1, o1 + k * 5 + 4, none⟩ = some (.int .i64 t.s)) := fun W hW => by
        exact ⟨(hW.cell (p := ⟨b1, _, none⟩) hb1).trans d0, (hW.cell (p := ⟨b1, _, none⟩) hb1).trans d1, (hW.cell (p := ⟨b1, _, none⟩) hb1).trans d2, (hW.cell (p := ⟨b1, _, none⟩) hb1).trans d3, (hW.cell (p := ⟨b1, _, none⟩) hb1).trans d4⟩
      have HV2 := Lib.hid HV.out.2
      have HKN : Hid (k < nl) := hlt
      clear ha1 hb1 d0 d1 d2 d3 d4
      go_upto_region 4 with (fail)
      have HDp : Hid (Below w0.heap.size w0 wr.drew) := HV2.out.drew
      refine wp_region_held_drew (S := fun W : World => (W.cell? ⟨w.heap.size, 0, none⟩ = some (.int .i64 m.k) ∧ W.cell? ⟨w.heap.size, 1, none⟩ = some (.int .i64 m.b) ∧ W.cell? ⟨w.heap.size, 2, none⟩ = some (.int .i64 m.s) ∧ W.cell? ⟨w.heap.size, 3, none⟩ = some (.int .i64 m.c) ∧ W.cell? ⟨w.heap.size, 4, none⟩ = some (.int .i64 m.e)) ∧ (W.cell? ⟨b1, o1 + k * 5, none⟩ = some (.int .u32 x) ∧ W.cell? ⟨b1, o1 + k * 5 + 1, none⟩ = some (.int .i64 y) ∧ W.cell? ⟨b1, o1 + k * 5 + 2, none⟩ = some (.slice P t.n cp) ∧ W.cell? ⟨b1, o1 + k * 5 + 3, none⟩ = some (.int .i64 t.r) ∧ W.cell? ⟨b1, o1 + k * 5 + 4, none⟩ = some (.int .i64 t.s))) (by kernel_rfl) (⟨HCE.out _ (HDp.out), HCF.out _ (HDp.out)⟩) (fun hHeld => ?_)
      obtain ⟨Wp0, hW0⟩ : ∃ W0, W0 = wr.drew := ⟨_, rfl⟩
      rw [← hW0] at hHeld HDp ⊢
      clear hW0
      refine wpAnyH_take (i := 0) (oi := ?oi0p) (v := ?v0p) ?hi0p ?hs0p ?hf0p ?hr0p ?hQ0p ?hy0p ?hS0p ?h0p
      case hi0p => exact (by simp only [List.getElem?_toArray, List.getElem?_cons_zero]; rfl)
      case hs0p => kernel_rfl
      case hf0p => kernel_rfl
      case hr0p => kernel_rfl
      case hQ0p => exact fun _ _ _ h => h
      case hy0p =>
        refine Or.inl ⟨rfl, ?_⟩
        intro W hSw
        obtain ⟨⟨y0, y1, y2, y3, y4⟩, z0, z1, z2, z3, z4⟩ := hSw
        go_simp
        try with_reducible rfl
      case hS0p => assumption
      try simp only [Act.put, List.setIfInBounds_toArray, List.set_cons_zero, List.set_cons_succ]
      refine wpAnyH_take (i := 1) (oi := ?oi1p) (v := ?v1p) ?hi1p ?hs1p ?hf1p ?hr1p ?hQ1p ?hy1p ?hS1p ?h1p
      case hi1p => exact (by simp only [List.getElem?_toArray, List.getElem?_cons_succ, List.getElem?_cons_zero]; rfl)
      case hs1p => kernel_rfl
      case hf1p => kernel_rfl
      case hr1p => kernel_rfl
      case hQ1p => exact fun _ _ _ h => h
      case hy1p =>
        refine Or.inl ⟨rfl, ?_⟩
        intro W hSw
        obtain ⟨⟨y0, y1, y2, y3, y4⟩, z0, z1, z2, z3, z4⟩ := hSw
        go_simp
        try with_reducible rfl
      case hS1p => assumption
      try simp only [Act.put, List.setIfInBounds_toArray, List.set_cons_zero, List.set_cons_succ]
      refine wpAnyH_take (i := 2) (oi := ?oi2p) (v := ?v2p) ?hi2p ?hs2p ?hf2p ?hr2p ?hQ2p ?hy2p ?hS2p ?h2p
      case hi2p => exact (by simp only [List.getElem?_toArray, List.getElem?_cons_succ, List.getElem?_cons_zero]; rfl)
      case hs2p => kernel_rfl
      case hf2p => kernel_rfl
      case hr2p => kernel_rfl
      case hQ2p => exact fun _ _ _ h => h
      case hy2p =>
        refine Or.inl ⟨rfl, ?_⟩
        intro W hSw
        obtain ⟨⟨y0, y1, y2, y3, y4⟩, z0, z1, z2, z3, z4⟩ := hSw
        go_simp
        try with_reducible rfl
      case hS2p => assumption
      try simp only [Act.put, List.setIfInBounds_toArray, List.set_cons_zero, List.set_cons_succ]
      refine wpAnyH_take (i := 3) (oi := ?oi3p) (v := ?v3p) ?hi3p ?hs3p ?hf3p ?hr3p ?hQ3p ?hy3p ?hS3p ?h3p
      case hi3p => exact (by simp only [List.getElem?_toArray, List.getElem?_cons_succ, List.getElem?_cons_zero]; rfl)
      case hs3p => kernel_rfl
      case hf3p => kernel_rfl
      case hr3p => kernel_rfl
      case hQ3p => exact fun _ _ _ h => h
      case hy3p =>
        refine Or.inl ⟨rfl, ?_⟩
        intro W hSw
        obtain ⟨⟨y0, y1, y2, y3, y4⟩, z0, z1, z2, z3, z4⟩ := hSw
        go_simp
        try with_reducible rfl
      case hS3p => assumption
      try simp only [Act.put, List.setIfInBounds_toArray, List.set_cons_zero, List.set_cons_succ]
      refine wpAnyH_take (i := 4) (oi := ?oi4p) (v := ?v4p) ?hi4p ?hs4p ?hf4p ?hr4p ?hQ4p ?hy4p ?hS4p ?h4p
      case hi4p => exact (by simp only [List.getElem?_toArray, List.getElem?_cons_succ, List.getElem?_cons_zero]; rfl)
      case hs4p => kernel_rfl
      case hf4p => kernel_rfl
      case hr4p => kernel_rfl
      case hQ4p => exact fun _ _ _ h => h
      case hy4p =>
        refine Or.inl ⟨rfl, ?_⟩
        intro W hSw
        obtain ⟨⟨y0, y1, y2, y3, y4⟩, z0, z1, z2, z3, z4⟩ := hSw
        go_simp
        try with_reducible rfl
      case hS4p => assumption
      try simp only [Act.put, List.setIfInBounds_toArray, List.set_cons_zero, List.set_cons_succ]
      refine wpAnyH_take (i := 5) (oi := ?oi5p) (v := ?v5p) ?hi5p ?hs5p ?hf5p ?hr5p ?hQ5p ?hy5p ?hS5p ?h5p
      case hi5p => exact (by simp only [List.getElem?_toArray, List.getElem?_cons_succ, List.getElem?_cons_zero]; rfl)
      case hs5p => kernel_rfl
      case hf5p => kernel_rfl
      case hr5p => kernel_rfl
      case hQ5p => exact fun _ _ _ h => h
      case hy5p =>
        refine Or.inl ⟨rfl, ?_⟩
        intro W hSw
        obtain ⟨⟨y0, y1, y2, y3, y4⟩, z0, z1, z2, z3, z4⟩ := hSw
        go_simp
        try with_reducible rfl
      case hS5p => assumption
      try simp only [Act.put, List.setIfInBounds_toArray, List.set_cons_zero, List.set_cons_succ]
      refine wpAnyH_take (i := 6) (oi := ?oi6p) (v := ?v6p) ?hi6p ?hs6p ?hf6p ?hr6p ?hQ6p ?hy6p ?hS6p ?h6p
      case hi6p => exact (by simp only [List.getElem?_toArray, List.getElem?_cons_succ, List.getElem?_cons_zero]; rfl)
      case hs6p => kernel_rfl
      case hf6p => kernel_rfl
      case hr6p => kernel_rfl
      case hQ6p => exact fun _ _ _ h => h
      case hy6p =>
        refine Or.inl ⟨rfl, ?_⟩
        intro W hSw
        obtain ⟨⟨y0, y1, y2, y3, y4⟩, z0, z1, z2, z3, z4⟩ := hSw
        go_simp
        try with_reducible rfl
      case hS6p => assumption
      try simp only [Act.put, List.setIfInBounds_toArray, List.set_cons_zero, List.set_cons_succ]
      refine wpAnyH_take (i := 7) (oi := ?oi7p) (v := ?v7p) ?hi7p ?hs7p ?hf7p ?hr7p ?hQ7p ?hy7p ?hS7p ?h7p
      case hi7p => exact (by simp only [List.getElem?_toArray, List.getElem?_cons_succ, List.getElem?_cons_zero]; rfl)
      case hs7p => kernel_rfl
      case hf7p => kernel_rfl
      case hr7p => kernel_rfl
      case hQ7p => exact fun _ _ _ h => h
      case hy7p =>
        refine Or.inl ⟨rfl, ?_⟩
        intro W hSw
        obtain ⟨⟨y0, y1, y2, y3, y4⟩, z0, z1, z2, z3, z4⟩ := hSw
        go_simp
        try with_reducible rfl
      case hS7p => assumption
      try simp only [Act.put, List.setIfInBounds_toArray, List.set_cons_zero, List.set_cons_succ]
      refine wpAnyH_ready (rs := [8]) (by kernel_rfl) (by simp) ?_
      refine AllReadyH.cons (o := _) rfl (fun K hK => ?_) AllReadyH.nil
      go_simp
      refine (HT1.out Wp0 HDp.out).mono ?_
      rintro r Wp1 ⟨rfl, hbq⟩
      have HBp1 := Lib.hid (HDp.out.trans (hbq.mono HDp.out.size))
      clear hbq
      refine hK.out _ _ (⟨HCE.out _ (HBp1.out), HCF.out _ (HBp1.out)⟩) (fun hHeld => ?_)
      clear hK K
      try simp only [Act.put, List.setIfInBounds_toArray, List.set_cons_zero, List.set_cons_succ]
      refine wpAnyH_take (i := 9) (oi := ?oi9p) (v := ?v9p) ?hi9p ?hs9p ?hf9p ?hr9p ?hQ9p ?hy9p ?hS9p ?h9p
      case hi9p => exact (by simp only [List.getElem?_toArray, List.getElem?_cons_succ, List.getElem?_cons_zero]; rfl)
      case hs9p => kernel_rfl
      case hf9p => kernel_rfl
      case hr9p => kernel_rfl
      case hQ9p => exact fun _ _ _ h => h
      case hy9p =>
        refine Or.inl ⟨rfl, ?_⟩
        intro W hSw
        obtain ⟨⟨y0, y1, y2, y3, y4⟩, z0, z1, z2, z3, z4⟩ := hSw
        go_simp
        try with_reducible rfl
      case hS9p => assumption
      try simp only [Act.put, List.setIfInBounds_toArray, List.set_cons_zero, List.set_cons_succ]
      refine wpAnyH_done (by kernel_rfl) ?_ _
      by_cases ht0 : tm = 0
      · subst ht0
        have HOF : Hid (okP m now rows t = false) := by simp only [Hid]; rw [HOK.out]; rfl
        go_upto_region 5 with (fail)
        have HDq : Hid (Below w0.heap.size w0 Wp1.drew) := HBp1.out.drew
        refine wp_region_held_drew (S := fun W : World => (W.cell? ⟨w.heap.size, 0, none⟩ = some (.int .i64 m.k) ∧ W.cell? ⟨w.heap.size, 1, none⟩ = some (.int .i64 m.b) ∧ W.cell? ⟨w.heap.size, 2, none⟩ = some (.int .i64 m.s) ∧ W.cell? ⟨w.heap.size, 3, none⟩ = some (.int .i64 m.c) ∧ W.cell? ⟨w.heap.size, 4, none⟩ = some (.int .i64 m.e)) ∧ (W.cell? ⟨b1, o1 + k * 5, none⟩ = some (.int .u32 x) ∧ W.cell? ⟨b1, o1 + k * 5 + 1, none⟩ = some (.int .i64 y) ∧ W.cell? ⟨b1, o1 + k * 5 + 2, none⟩ = some (.slice P t.n cp) ∧ W.cell? ⟨b1, o1 + k * 5 + 3, none⟩ = some (.int .i64 t.r) ∧ W.cell? ⟨b1, o1 + k * 5 + 4, none⟩ = some (.int .i64 t.s))) (by kernel_rfl) (⟨HCE.out _ (HDq.out), HCF.out _ (HDq.out)⟩) (fun hHeld => ?_)
        obtain ⟨Wq0, hW0⟩ : ∃ W0, W0 = Wp1.drew := ⟨_, rfl⟩
        rw [← hW0] at hHeld HDq ⊢
        clear hW0
        refine wpAnyH_take (i := 0) (oi := ?oi0q) (v := ?v0q) ?hi0q ?hs0q ?hf0q ?hr0q ?hQ0q ?hy0q ?hS0q ?h0q
        case hi0q => exact (by simp only [List.getElem?_toArray, List.getElem?_cons_zero]; rfl)
        case hs0q => kernel_rfl
        case hf0q => kernel_rfl
        case hr0q => kernel_rfl
        case hQ0q => exact fun _ _ _ h => h
        case hy0q =>
          refine Or.inl ⟨rfl, ?_⟩
          intro W hSw
          obtain ⟨⟨y0, y1, y2, y3, y4⟩, z0, z1, z2, z3, z4⟩ := hSw
          go_simp
          try with_reducible rfl
        case hS0q => assumption
        try simp only [Act.put, List.setIfInBounds_toArray, List.set_cons_zero, List.set_cons_succ]
        refine wpAnyH_take (i := 1) (oi := ?oi1q) (v := (.bool false)) ?hi1q ?hs1q ?hf1q ?hr1q ?hQ1q ?hy1q ?hS1q ?h1q
        case hi1q => exact (by simp only [List.getElem?_toArray, List.getElem?_cons_succ, List.getElem?_cons_zero]; rfl)
        case hs1q => kernel_rfl
        case hf1q => kernel_rfl
        case hr1q => kernel_rfl
        case hQ1q => exact fun _ _ _ h => h
        case hy1q =>
          refine Or.inl ⟨rfl, ?_⟩
          intro W hSw
          obtain ⟨⟨y0, y1, y2, y3, y4⟩, z0, z1, z2, z3, z4⟩ := hSw
          go_simp
          try with_reducible rfl
        case hS1q => assumption
        try simp only [Act.put, List.setIfInBounds_toArray, List.set_cons_zero, List.set_cons_succ]
        refine wpAnyH_take (i := 2) (oi := ?oi2q) (v := ?v2q) ?hi2q ?hs2q ?hf2q ?hr2q ?hQ2q ?hy2q ?hS2q ?h2q
        case hi2q => exact (by simp only [List.getElem?_toArray, List.getElem?_cons_succ, List.getElem?_cons_zero]; rfl)
        case hs2q => kernel_rfl
        case hf2q => kernel_rfl
        case hr2q => kernel_rfl
        case hQ2q => exact fun _ _ _ h => h
        case hy2q =>
          refine Or.inl ⟨rfl, ?_⟩
          intro W hSw
          obtain ⟨⟨y0, y1, y2, y3, y4⟩, z0, z1, z2, z3, z4⟩ := hSw
          go_simp
          try with_reducible rfl
        case hS2q => assumption
        try simp only [Act.put, List.setIfInBounds_toArray, List.set_cons_zero, List.set_cons_succ]
        refine wpAnyH_take (i := 3) (oi := ?oi3q) (v := undef) ?hi3q ?hs3q ?hf3q ?hr3q ?hQ3q ?hy3q ?hS3q ?h3q
        case hi3q => exact (by simp only [List.getElem?_toArray, List.getElem?_cons_succ, List.getElem?_cons_zero]; rfl)
        case hs3q => kernel_rfl
        case hf3q => kernel_rfl
        case hr3q => kernel_rfl
        case hQ3q => exact fun _ _ _ h => h
        case hy3q =>
          exact Or.inr ⟨rfl, rfl⟩
        case hS3q => assumption
        try simp only [Act.put, List.setIfInBounds_toArray, List.set_cons_zero, List.set_cons_succ]
        refine wpAnyH_take (i := 4) (oi := ?oi4q) (v := undef) ?hi4q ?hs4q ?hf4q ?hr4q ?hQ4q ?hy4q ?hS4q ?h4q
        case hi4q => exact (by simp only [List.getElem?_toArray, List.getElem?_cons_succ, List.getElem?_cons_zero]; rfl)
        case hs4q => kernel_rfl
        case hf4q => kernel_rfl
        case hr4q => kernel_rfl
        case hQ4q => exact fun _ _ _ h => h
        case hy4q =>
          exact Or.inr ⟨rfl, rfl⟩
        case hS4q => assumption
        try simp only [Act.put, List.setIfInBounds_toArray, List.set_cons_zero, List.set_cons_succ]
        refine wpAnyH_take (i := 5) (oi := ?oi5q) (v := undef) ?hi5q ?hs5q ?hf5q ?hr5q ?hQ5q ?hy5q ?hS5q ?h5q
        case hi5q => exact (by simp only [List.getElem?_toArray, List.getElem?_cons_succ, List.getElem?_cons_zero]; rfl)
        case hs5q => kernel_rfl
        case hf5q => kernel_rfl
        case hr5q => kernel_rfl
        case hQ5q => exact fun _ _ _ h => h
        case hy5q =>
          exact Or.inr ⟨rfl, rfl⟩
        case hS5q => assumption
        try simp only [Act.put, List.setIfInBounds_toArray, List.set_cons_zero, List.set_cons_succ]
        refine wpAnyH_take (i := 6) (oi := ?oi6q) (v := undef) ?hi6q ?hs6q ?hf6q ?hr6q ?hQ6q ?hy6q ?hS6q ?h6q
        case hi6q => exact (by simp only [List.getElem?_toArray, List.getElem?_cons_succ, List.getElem?_cons_zero]; rfl)
        case hs6q => kernel_rfl
        case hf6q => kernel_rfl
        case hr6q => kernel_rfl
        case hQ6q => exact fun _ _ _ h => h
        case hy6q =>
          exact Or.inr ⟨rfl, rfl⟩
        case hS6q => assumption
        try simp only [Act.put, List.setIfInBounds_toArray, List.set_cons_zero, List.set_cons_succ]
        refine wpAnyH_take (i := 7) (oi := ?oi7q) (v := undef) ?hi7q ?hs7q ?hf7q ?hr7q ?hQ7q ?hy7q ?hS7q ?h7q
        case hi7q => exact (by simp only [List.getElem?_toArray, List.getElem?_cons_succ, List.getElem?_cons_zero]; rfl)
        case hs7q => kernel_rfl
        case hf7q => kernel_rfl
        case hr7q => kernel_rfl
        case hQ7q => exact fun _ _ _ h => h
        case hy7q =>
          exact Or.inr ⟨rfl, rfl⟩
        case hS7q => assumption
        try simp only [Act.put, List.setIfInBounds_toArray, List.set_cons_zero, List.set_cons_succ]
        refine wpAnyH_take (i := 8) (oi := ?oi8q) (v := undef) ?hi8q ?hs8q ?hf8q ?hr8q ?hQ8q ?hy8q ?hS8q ?h8q
        case hi8q => exact (by simp only [List.getElem?_toArray, List.getElem?_cons_succ, List.getElem?_cons_zero]; rfl)
        case hs8q => kernel_rfl
        case hf8q => kernel_rfl
        case hr8q => kernel_rfl
        case hQ8q => exact fun _ _ _ h => h
        case hy8q =>
          exact Or.inr ⟨rfl, rfl⟩
        case hS8q => assumption
        try simp only [Act.put, List.setIfInBounds_toArray, List.set_cons_zero, List.set_cons_succ]
        refine wpAnyH_take (i := 9) (oi := ?oi9q) (v := undef) ?hi9q ?hs9q ?hf9q ?hr9q ?hQ9q ?hy9q ?hS9q ?h9q
        case hi9q => exact (by simp only [List.getElem?_toArray, List.getElem?_cons_succ, List.getElem?_cons_zero]; rfl)
        case hs9q => kernel_rfl
        case hf9q => kernel_rfl
        case hr9q => kernel_rfl
        case hQ9q => exact fun _ _ _ h => h
        case hy9q =>
          exact Or.inr ⟨rfl, rfl⟩
        case hS9q => assumption
        try simp only [Act.put, List.setIfInBounds_toArray, List.set_cons_zero, List.set_cons_succ]
        refine wpAnyH_take (i := 10) (oi := ?oi10q) (v := undef) ?hi10q ?hs10q ?hf10q ?hr10q ?hQ10q ?hy10q ?hS10q ?h10q
        case hi10q => exact (by simp only [List.getElem?_toArray, List.getElem?_cons_succ, List.getElem?_cons_zero]; rfl)
        case hs10q => kernel_rfl
        case hf10q => kernel_rfl
        case hr10q => kernel_rfl
        case hQ10q => exact fun _ _ _ h => h
        case hy10q =>
          exact Or.inr ⟨rfl, rfl⟩
        case hS10q => assumption
        try simp only [Act.put, List.setIfInBounds_toArray, List.set_cons_zero, List.set_cons_succ]
        refine wpAnyH_take (i := 11) (oi := ?oi11q) (v := (.bool false)) ?hi11q ?hs11q ?hf11q ?hr11q ?hQ11q ?hy11q ?hS11q ?h11q
        case hi11q => exact (by simp only [List.getElem?_toArray, List.getElem?_cons_succ, List.getElem?_cons_zero]; rfl)
        case hs11q => kernel_rfl
        case hf11q => kernel_rfl
        case hr11q => kernel_rfl
        case hQ11q => exact fun _ _ _ h => h
        case hy11q =>
          refine Or.inl ⟨rfl, ?_⟩
          intro W hSw
          obtain ⟨⟨y0, y1, y2, y3, y4⟩, z0, z1, z2, z3, z4⟩ := hSw
          go_simp
          try with_reducible rfl
        case hS11q => assumption
        try simp only [Act.put, List.setIfInBounds_toArray, List.set_cons_zero, List.set_cons_succ]
        refine wpAnyH_done (by kernel_rfl) ?_ _
        go_wp2
        go_roundw
        case rel => exact ⟨k + 1, by omega, by go_num, HNEXT.out HOF.out, HDq.out⟩
        case measure => simp [intOf] <;> omega
      · have htb : (tm == 0) = false := by simp [ht0]
        cases f
        · have HOF : Hid (okP m now rows t = false) := by simp only [Hid]; rw [HOK.out, Bool.and_false]
          go_upto_region 5 with (fail)
          have HDr : Hid (Below w0.heap.size w0 Wp1.drew) := HBp1.out.drew
          refine wp_region_held_drew (S := fun W : World => (W.cell? ⟨w.heap.size, 0, none⟩ = some (.int .i64 m.k) ∧ W.cell? ⟨w.heap.size, 1, none⟩ = some (.int .i64 m.b) ∧ W.cell? ⟨w.heap.size, 2, none⟩ = some (.int .i64 m.s) ∧ W.cell? ⟨w.heap.size, 3, none⟩ = some (.int .i64 m.c) ∧ W.cell? ⟨w.heap.size, 4, none⟩ = some (.int .i64 m.e)) ∧ (W.cell? ⟨b1, o1 + k * 5, none⟩ = some (.int .u32 x) ∧ W.cell? ⟨b1, o1 + k * 5 + 1, none⟩ = some (.int .i64 y) ∧ W.cell? ⟨b1, o1 + k * 5 + 2, none⟩ = some (.slice P t.n cp) ∧ W.cell? ⟨b1, o1 + k * 5 + 3, none⟩ = some (.int .i64 t.r) ∧ W.cell? ⟨b1, o1 + k * 5 + 4, none⟩ = some (.int .i64 t.s))) (by kernel_rfl) (⟨HCE.out _ (HDr.out), HCF.out _ (HDr.out)⟩) (fun hHeld => ?_)
          obtain ⟨Wr0, hW0⟩ : ∃ W0, W0 = Wp1.drew := ⟨_, rfl⟩
          rw [← hW0] at hHeld HDr ⊢
          clear hW0
          refine wpAnyH_take (i := 0) (oi := ?oi0r) (v := ?v0r) ?hi0r ?hs0r ?hf0r ?hr0r ?hQ0r ?hy0r ?hS0r ?h0r
          case hi0r => exact (by simp only [List.getElem?_toArray, List.getElem?_cons_zero]; rfl)
          case hs0r => kernel_rfl
          case hf0r => kernel_rfl
          case hr0r => kernel_rfl
          case hQ0r => exact fun _ _ _ h => h
          case hy0r =>
            refine Or.inl ⟨rfl, ?_⟩
            intro W hSw
            obtain ⟨⟨y0, y1, y2, y3, y4⟩, z0, z1, z2, z3, z4⟩ := hSw
            go_simp
            try with_reducible rfl
          case hS0r => assumption
          try simp only [Act.put, List.setIfInBounds_toArray, List.set_cons_zero, List.set_cons_succ]
          refine wpAnyH_take (i := 1) (oi := ?oi1r) (v := (.bool true)) ?hi1r ?hs1r ?hf1r ?hr1r ?hQ1r ?hy1r ?hS1r ?h1r
          case hi1r => exact (by simp only [List.getElem?_toArray, List.getElem?_cons_succ, List.getElem?_cons_zero]; rfl)
          case hs1r => kernel_rfl
          case hf1r => kernel_rfl
          case hr1r => kernel_rfl
          case hQ1r => exact fun _ _ _ h => h
          case hy1r =>
            refine Or.inl ⟨rfl, ?_⟩
            intro W hSw
            go_simp
            try simp [ht0, htb]
          case hS1r => assumption
          try simp only [Act.put, List.setIfInBounds_toArray, List.set_cons_zero, List.set_cons_succ]
          refine wpAnyH_take (i := 2) (oi := ?oi2r) (v := ?v2r) ?hi2r ?hs2r ?hf2r ?hr2r ?hQ2r ?hy2r ?hS2r ?h2r
          case hi2r => exact (by simp only [List.getElem?_toArray, List.getElem?_cons_succ, List.getElem?_cons_zero]; rfl)
          case hs2r => kernel_rfl
          case hf2r => kernel_rfl
          case hr2r => kernel_rfl
          case hQ2r => exact fun _ _ _ h => h
          case hy2r =>
            refine Or.inl ⟨rfl, ?_⟩
            intro W hSw
            obtain ⟨⟨y0, y1, y2, y3, y4⟩, z0, z1, z2, z3, z4⟩ := hSw
            go_simp
            try with_reducible rfl
          case hS2r => assumption
          try simp only [Act.put, List.setIfInBounds_toArray, List.set_cons_zero, List.set_cons_succ]
          refine wpAnyH_take (i := 3) (oi := ?oi3r) (v := ?v3r) ?hi3r ?hs3r ?hf3r ?hr3r ?hQ3r ?hy3r ?hS3r ?h3r
          case hi3r => exact (by simp only [List.getElem?_toArray, List.getElem?_cons_succ, List.getElem?_cons_zero]; rfl)
          case hs3r => kernel_rfl
          case hf3r => kernel_rfl
          case hr3r => kernel_rfl
          case hQ3r => exact fun _ _ _ h => h
          case hy3r =>
            refine Or.inl ⟨rfl, ?_⟩
            intro W hSw
            obtain ⟨⟨y0, y1, y2, y3, y4⟩, z0, z1, z2, z3, z4⟩ := hSw
            go_simp
            try with_reducible rfl
          case hS3r => assumption
          try simp only [Act.put, List.setIfInBounds_toArray, List.set_cons_zero, List.set_cons_succ]
          refine wpAnyH_take (i := 4) (oi := ?oi4r) (v := ?v4r) ?hi4r ?hs4r ?hf4r ?hr4r ?hQ4r ?hy4r ?hS4r ?h4r
          case hi4r => exact (by simp only [List.getElem?_toArray, List.getElem?_cons_succ, List.getElem?_cons_zero]; rfl)
          case hs4r => kernel_rfl
          case hf4r => kernel_rfl
          case hr4r => kernel_rfl
          case hQ4r => exact fun _ _ _ h => h
          case hy4r =>
            refine Or.inl ⟨rfl, ?_⟩
            intro W hSw
            obtain ⟨⟨y0, y1, y2, y3, y4⟩, z0, z1, z2, z3, z4⟩ := hSw
            go_simp
            try with_reducible rfl
          case hS4r => assumption
          try simp only [Act.put, List.setIfInBounds_toArray, List.set_cons_zero, List.set_cons_succ]
          refine wpAnyH_take (i := 5) (oi := ?oi5r) (v := ?v5r) ?hi5r ?hs5r ?hf5r ?hr5r ?hQ5r ?hy5r ?hS5r ?h5r
          case hi5r => exact (by simp only [List.getElem?_toArray, List.getElem?_cons_succ, List.getElem?_cons_zero]; rfl)
          case hs5r => kernel_rfl
          case hf5r => kernel_rfl
          case hr5r => kernel_rfl
          case hQ5r => exact fun _ _ _ h => h
          case hy5r =>
            refine Or.inl ⟨rfl, ?_⟩
            intro W hSw
            obtain ⟨⟨y0, y1, y2, y3, y4⟩, z0, z1, z2, z3, z4⟩ := hSw
            go_simp
            try with_reducible rfl
          case hS5r => assumption
          try simp only [Act.put, List.setIfInBounds_toArray, List.set_cons_zero, List.set_cons_succ]
          refine wpAnyH_take (i := 6) (oi := ?oi6r) (v := ?v6r) ?hi6r ?hs6r ?hf6r ?hr6r ?hQ6r ?hy6r ?hS6r ?h6r
          case hi6r => exact (by simp only [List.getElem?_toArray, List.getElem?_cons_succ, List.getElem?_cons_zero]; rfl)
          case hs6r => kernel_rfl
          case hf6r => kernel_rfl
          case hr6r => kernel_rfl
          case hQ6r => exact fun _ _ _ h => h
          case hy6r =>
            refine Or.inl ⟨rfl, ?_⟩
            intro W hSw
            obtain ⟨⟨y0, y1, y2, y3, y4⟩, z0, z1, z2, z3, z4⟩ := hSw
            go_simp
            try with_reducible rfl
          case hS6r => assumption
          try simp only [Act.put, List.setIfInBounds_toArray, List.set_cons_zero, List.set_cons_succ]
          refine wpAnyH_take (i := 7) (oi := ?oi7r) (v := ?v7r) ?hi7r ?hs7r ?hf7r ?hr7r ?hQ7r ?hy7r ?hS7r ?h7r
          case hi7r => exact (by simp only [List.getElem?_toArray, List.getElem?_cons_succ, List.getElem?_cons_zero]; rfl)
          case hs7r => kernel_rfl
          case hf7r => kernel_rfl
          case hr7r => kernel_rfl
          case hQ7r => exact fun _ _ _ h => h
          case hy7r =>
            refine Or.inl ⟨rfl, ?_⟩
            intro W hSw
            obtain ⟨⟨y0, y1, y2, y3, y4⟩, z0, z1, z2, z3, z4⟩ := hSw
            go_simp
            try with_reducible rfl
          case hS7r => assumption
          try simp only [Act.put, List.setIfInBounds_toArray, List.set_cons_zero, List.set_cons_succ]
          refine wpAnyH_take (i := 8) (oi := ?oi8r) (v := ?v8r) ?hi8r ?hs8r ?hf8r ?hr8r ?hQ8r ?hy8r ?hS8r ?h8r
          case hi8r => exact (by simp only [List.getElem?_toArray, List.getElem?_cons_succ, List.getElem?_cons_zero]; rfl)
          case hs8r => kernel_rfl
          case hf8r => kernel_rfl
          case hr8r => kernel_rfl
          case hQ8r => exact fun _ _ _ h => h
          case hy8r =>
            refine Or.inl ⟨rfl, ?_⟩
            intro W hSw
            obtain ⟨⟨y0, y1, y2, y3, y4⟩, z0, z1, z2, z3, z4⟩ := hSw
            go_simp
            try with_reducible rfl
          case hS8r => assumption
          try simp only [Act.put, List.setIfInBounds_toArray, List.set_cons_zero, List.set_cons_succ]
          refine wpAnyH_take (i := 9) (oi := ?oi9r) (v := ?v9r) ?hi9r ?hs9r ?hf9r ?hr9r ?hQ9r ?hy9r ?hS9r ?h9r
          case hi9r => exact (by simp only [List.getElem?_toArray, List.getElem?_cons_succ, List.getElem?_cons_zero]; rfl)
          case hs9r => kernel_rfl
          case hf9r => kernel_rfl
          case hr9r => kernel_rfl
          case hQ9r => exact fun _ _ _ h => h
          case hy9r =>
            refine Or.inl ⟨rfl, ?_⟩
            intro W hSw
            obtain ⟨⟨y0, y1, y2, y3, y4⟩, z0, z1, z2, z3, z4⟩ := hSw
            go_simp
            try with_reducible rfl
          case hS9r => assumption
          try simp only [Act.put, List.setIfInBounds_toArray, List.set_cons_zero, List.set_cons_succ]
          refine wpAnyH_ready (rs := [10]) (by kernel_rfl) (by simp) ?_
          refine AllReadyH.cons (o := _) rfl (fun K hK => ?_) AllReadyH.nil
          go_simp
          refine (HF1.out Wr0 HDr.out).mono ?_
          rintro r Wr1 ⟨rfl, hbq⟩
          have HBr1 := Lib.hid (HDr.out.trans (hbq.mono HDr.out.size))
          clear hbq
          refine hK.out _ _ (⟨HCE.out _ (HBr1.out), HCF.out _ (HBr1.out)⟩) (fun hHeld => ?_)
          clear hK K
          try simp only [Act.put, List.setIfInBounds_toArray, List.set_cons_zero, List.set_cons_succ]
          refine wpAnyH_take (i := 11) (oi := ?oi11r) (v := (.bool false)) ?hi11r ?hs11r ?hf11r ?hr11r ?hQ11r ?hy11r ?hS11r ?h11r
          case hi11r => exact (by simp only [List.getElem?_toArray, List.getElem?_cons_succ, List.getElem?_cons_zero]; rfl)
          case hs11r => kernel_rfl
          case hf11r => kernel_rfl
          case hr11r => kernel_rfl
          case hQ11r => exact fun _ _ _ h => h
          case hy11r =>
            refine Or.inl ⟨rfl, ?_⟩
            intro W hSw
            obtain ⟨⟨y0, y1, y2, y3, y4⟩, z0, z1, z2, z3, z4⟩ := hSw
            go_simp
            try with_reducible rfl
          case hS11r => assumption
          try simp only [Act.put, List.setIfInBounds_toArray, List.set_cons_zero, List.set_cons_succ]
          refine wpAnyH_done (by kernel_rfl) ?_ _
          go_wp2
          go_roundw
          case rel => exact ⟨k + 1, by omega, by go_num, HNEXT.out HOF.out, HBr1.out⟩
          case measure => simp [intOf] <;> omega
        · have HFI := Lib.hid (HSOME.out ht0 rfl)
          go_upto_region 5 with (fail)
          have HDs : Hid (Below w0.heap.size w0 Wp1.drew) := HBp1.out.drew
          refine wp_region_held_drew (S := fun W : World => (W.cell? ⟨w.heap.size, 0, none⟩ = some (.int .i64 m.k) ∧ W.cell? ⟨w.heap.size, 1, none⟩ = some (.int .i64 m.b) ∧ W.cell? ⟨w.heap.size, 2, none⟩ = some (.int .i64 m.s) ∧ W.cell? ⟨w.heap.size, 3, none⟩ = some (.int .i64 m.c) ∧ W.cell? ⟨w.heap.size, 4, none⟩ = some (.int .i64 m.e)) ∧ (W.cell? ⟨b1, o1 + k * 5, none⟩ = some (.int .u32 x) ∧ W.cell? ⟨b1, o1 + k * 5 + 1, none⟩ = some (.int .i64 y) ∧ W.cell? ⟨b1, o1 + k * 5 + 2, none⟩ = some (.slice P t.n cp) ∧ W.cell? ⟨b1, o1 + k * 5 + 3, none⟩ = some (.int .i64 t.r) ∧ W.cell? ⟨b1, o1 + k * 5 + 4, none⟩ = some (.int .i64 t.s))) (by kernel_rfl) (⟨HCE.out _ (HDs.out), HCF.out _ (HDs.out)⟩) (fun hHeld => ?_)
          obtain ⟨Ws0, hW0⟩ : ∃ W0, W0 = Wp1.drew := ⟨_, rfl⟩
          rw [← hW0] at hHeld HDs ⊢
          clear hW0
          refine wpAnyH_take (i := 0) (oi := ?oi0s) (v := ?v0s) ?hi0s ?hs0s ?hf0s ?hr0s ?hQ0s ?hy0s ?hS0s ?h0s
          case hi0s => exact (by simp only [List.getElem?_toArray, List.getElem?_cons_zero]; rfl)
          case hs0s => kernel_rfl
          case hf0s => kernel_rfl
          case hr0s => kernel_rfl
          case hQ0s => exact fun _ _ _ h => h
          case hy0s =>
            refine Or.inl ⟨rfl, ?_⟩
            intro W hSw
            obtain ⟨⟨y0, y1, y2, y3, y4⟩, z0, z1, z2, z3, z4⟩ := hSw
            go_simp
            try with_reducible rfl
          case hS0s => assumption
          try simp only [Act.put, List.setIfInBounds_toArray, List.set_cons_zero, List.set_cons_succ]
          refine wpAnyH_take (i := 1) (oi := ?oi1s) (v := (.bool true)) ?hi1s ?hs1s ?hf1s ?hr1s ?hQ1s ?hy1s ?hS1s ?h1s
          case hi1s => exact (by simp only [List.getElem?_toArray, List.getElem?_cons_succ, List.getElem?_cons_zero]; rfl)
          case hs1s => kernel_rfl
          case hf1s => kernel_rfl
          case hr1s => kernel_rfl
          case hQ1s => exact fun _ _ _ h => h
          case hy1s =>
            refine Or.inl ⟨rfl, ?_⟩
            intro W hSw
            go_simp
            try simp [ht0, htb]
          case hS1s => assumption
          try simp only [Act.put, List.setIfInBounds_toArray, List.set_cons_zero, List.set_cons_succ]
          refine wpAnyH_take (i := 2) (oi := ?oi2s) (v := ?v2s) ?hi2s ?hs2s ?hf2s ?hr2s ?hQ2s ?hy2s ?hS2s ?h2s
          case hi2s => exact (by simp only [List.getElem?_toArray, List.getElem?_cons_succ, List.getElem?_cons_zero]; rfl)
          case hs2s => kernel_rfl
          case hf2s => kernel_rfl
          case hr2s => kernel_rfl
          case hQ2s => exact fun _ _ _ h => h
          case hy2s =>
            refine Or.inl ⟨rfl, ?_⟩
            intro W hSw
            obtain ⟨⟨y0, y1, y2, y3, y4⟩, z0, z1, z2, z3, z4⟩ := hSw
            go_simp
            try with_reducible rfl
          case hS2s => assumption
          try simp only [Act.put, List.setIfInBounds_toArray, List.set_cons_zero, List.set_cons_succ]
          refine wpAnyH_take (i := 3) (oi := ?oi3s) (v := ?v3s) ?hi3s ?hs3s ?hf3s ?hr3s ?hQ3s ?hy3s ?hS3s ?h3s
          case hi3s => exact (by simp only [List.getElem?_toArray, List.getElem?_cons_succ, List.getElem?_cons_zero]; rfl)
          case hs3s => kernel_rfl
          case hf3s => kernel_rfl
          case hr3s => kernel_rfl
          case hQ3s => exact fun _ _ _ h => h
          case hy3s =>
            refine Or.inl ⟨rfl, ?_⟩
            intro W hSw
            obtain ⟨⟨y0, y1, y2, y3, y4⟩, z0, z1, z2, z3, z4⟩ := hSw
            go_simp
            try with_reducible rfl
          case hS3s => assumption
          try simp only [Act.put, List.setIfInBounds_toArray, List.set_cons_zero, List.set_cons_succ]
          refine wpAnyH_take (i := 4) (oi := ?oi4s) (v := ?v4s) ?hi4s ?hs4s ?hf4s ?hr4s ?hQ4s ?hy4s ?hS4s ?h4s
          case hi4s => exact (by simp only [List.getElem?_toArray, List.getElem?_cons_succ, List.getElem?_cons_zero]; rfl)
          case hs4s => kernel_rfl
          case hf4s => kernel_rfl
          case hr4s => kernel_rfl
          case hQ4s => exact fun _ _ _ h => h
          case hy4s =>
            refine Or.inl ⟨rfl, ?_⟩
            intro W hSw
            obtain ⟨⟨y0, y1, y2, y3, y4⟩, z0, z1, z2, z3, z4⟩ := hSw
            go_simp
            try with_reducible rfl
          case hS4s => assumption
          try simp only [Act.put, List.setIfInBounds_toArray, List.set_cons_zero, List.set_cons_succ]
          refine wpAnyH_take (i := 5) (oi := ?oi5s) (v := ?v5s) ?hi5s ?hs5s ?hf5s ?hr5s ?hQ5s ?hy5s ?hS5s ?h5s
          case hi5s => exact (by simp only [List.getElem?_toArray, List.getElem?_cons_succ, List.getElem?_cons_zero]; rfl)
          case hs5s => kernel_rfl
          case hf5s => kernel_rfl
          case hr5s => kernel_rfl
          case hQ5s => exact fun _ _ _ h => h
          case hy5s =>
            refine Or.inl ⟨rfl, ?_⟩
            intro W hSw
            obtain ⟨⟨y0, y1, y2, y3, y4⟩, z0, z1, z2, z3, z4⟩ := hSw
            go_simp
            try with_reducible rfl
          case hS5s => assumption
          try simp only [Act.put, List.setIfInBounds_toArray, List.set_cons_zero, List.set_cons_succ]
          refine wpAnyH_take (i := 6) (oi := ?oi6s) (v := ?v6s) ?hi6s ?hs6s ?hf6s ?hr6s ?hQ6s ?hy6s ?hS6s ?h6s
          case hi6s => exact (by simp only [List.getElem?_toArray, List.getElem?_cons_succ, List.getElem?_cons_zero]; rfl)
          case hs6s => kernel_rfl
          case hf6s => kernel_rfl
          case hr6s => kernel_rfl
          case hQ6s => exact fun _ _ _ h => h
          case hy6s =>
            refine Or.inl ⟨rfl, ?_⟩
            intro W hSw
            obtain ⟨⟨y0, y1, y2, y3, y4⟩, z0, z1, z2, z3, z4⟩ := hSw
            go_simp
            try with_reducible rfl
          case hS6s => assumption
          try simp only [Act.put, List.setIfInBounds_toArray, List.set_cons_zero, List.set_cons_succ]
          refine wpAnyH_take (i := 7) (oi := ?oi7s) (v := ?v7s) ?hi7s ?hs7s ?hf7s ?hr7s ?hQ7s ?hy7s ?hS7s ?h7s
          case hi7s => exact (by simp only [List.getElem?_toArray, List.getElem?_cons_succ, List.getElem?_cons_zero]; rfl)
          case hs7s => kernel_rfl
          case hf7s => kernel_rfl
          case hr7s => kernel_rfl
          case hQ7s => exact fun _ _ _ h => h
          case hy7s =>
            refine Or.inl ⟨rfl, ?_⟩
            intro W hSw
            obtain ⟨⟨y0, y1, y2, y3, y4⟩, z0, z1, z2, z3, z4⟩ := hSw
            go_simp
            try with_reducible rfl
          case hS7s => assumption
          try simp only [Act.put, List.setIfInBounds_toArray, List.set_cons_zero, List.set_cons_succ]
          refine wpAnyH_take (i := 8) (oi := ?oi8s) (v := ?v8s) ?hi8s ?hs8s ?hf8s ?hr8s ?hQ8s ?hy8s ?hS8s ?h8s
          case hi8s => exact (by simp only [List.getElem?_toArray, List.getElem?_cons_succ, List.getElem?_cons_zero]; rfl)
          case hs8s => kernel_rfl
          case hf8s => kernel_rfl
          case hr8s => kernel_rfl
          case hQ8s => exact fun _ _ _ h => h
          case hy8s =>
            refine Or.inl ⟨rfl, ?_⟩
            intro W hSw
            obtain ⟨⟨y0, y1, y2, y3, y4⟩, z0, z1, z2, z3, z4⟩ := hSw
            go_simp
            try with_reducible rfl
          case hS8s => assumption
          try simp only [Act.put, List.setIfInBounds_toArray, List.set_cons_zero, List.set_cons_succ]
          refine wpAnyH_take (i := 9) (oi := ?oi9s) (v := ?v9s) ?hi9s ?hs9s ?hf9s ?hr9s ?hQ9s ?hy9s ?hS9s ?h9s
          case hi9s => exact (by simp only [List.getElem?_toArray, List.getElem?_cons_succ, List.getElem?_cons_zero]; rfl)
          case hs9s => kernel_rfl
          case hf9s => kernel_rfl
          case hr9s => kernel_rfl
          case hQ9s => exact fun _ _ _ h => h
          case hy9s =>
            refine Or.inl ⟨rfl, ?_⟩
            intro W hSw
            obtain ⟨⟨y0, y1, y2, y3, y4⟩, z0, z1, z2, z3, z4⟩ := hSw
            go_simp
            try with_reducible rfl
          case hS9s => assumption
          try simp only [Act.put, List.setIfInBounds_toArray, List.set_cons_zero, List.set_cons_succ]
          refine wpAnyH_ready (rs := [10]) (by kernel_rfl) (by simp) ?_
          refine AllReadyH.cons (o := _) rfl (fun K hK => ?_) AllReadyH.nil
          go_simp
          refine (HF1.out Ws0 HDs.out).mono ?_
          rintro r Ws1 ⟨rfl, hbq⟩
          have HBs1 := Lib.hid (HDs.out.trans (hbq.mono HDs.out.size))
          clear hbq
          refine hK.out _ _ (⟨HCE.out _ (HBs1.out), HCF.out _ (HBs1.out)⟩) (fun hHeld => ?_)
          clear hK K
          try simp only [Act.put, List.setIfInBounds_toArray, List.set_cons_zero, List.set_cons_succ]
          refine wpAnyH_take (i := 11) (oi := ?oi11s) (v := (.bool true)) ?hi11s ?hs11s ?hf11s ?hr11s ?hQ11s ?hy11s ?hS11s ?h11s
          case hi11s => exact (by simp only [List.getElem?_toArray, List.getElem?_cons_succ, List.getElem?_cons_zero]; rfl)
          case hs11s => kernel_rfl
          case hf11s => kernel_rfl
          case hr11s => kernel_rfl
          case hQ11s => exact fun _ _ _ h => h
          case hy11s =>
            refine Or.inl ⟨rfl, ?_⟩
            intro W hSw
            obtain ⟨⟨y0, y1, y2, y3, y4⟩, z0, z1, z2, z3, z4⟩ := hSw
            go_simp
            try with_reducible rfl
          case hS11s => assumption
          try simp only [Act.put, List.setIfInBounds_toArray, List.set_cons_zero, List.set_cons_succ]
          refine wpAnyH_done (by kernel_rfl) ?_ _
          go_wp2
          go_ret3
          exact ⟨by rw [HFI.out]; rfl, HB0.out.trans (HBs1.out.mono HB0.out.size)⟩
    · have hkn : k = nl := by omega
      subst hkn
      have HA : Hid (findR m now rows l = (0, 0, false)) := by
        have h := HV.out.1
        rw [List.take_of_length_le (by rw [← HNL.out]; exact Nat.le_refl _)] at h
        exact findR_none h
      go_wp2
      go_ret3
      exact ⟨by rw [HA.out]; rfl, HB0.out.trans (HV.out.2.mono HB0.out.size)⟩
end Go.Proofs.Ytccabdhfnjlbdaa
