/- Pool: the document's With where the instance is another one. -/
import Derived.Test.YtddjbkaofodmlaaPG
namespace Go.Proofs.Ytddjbkaofodmlaa
open Go.RowKit
set_option maxRecDepth 20000
set_option linter.unusedVariables false
set_option linter.unusedSimpArgs false

set_option maxHeartbeats 8000000 in
theorem rwith_any (A : Option Addr) (n c j : Nat) (beat s' m' a' : Int) (l : List In) (w : World) (hn : n = l.length) (hR : Rs w w.heap.size A l) (hl : n ≤ 16) (hj : j < n) :
    Calls Try.prog 28 #[rV A n c beat, .int .u32 ((j + 1 : Nat) : Int), iV s' m' a'] w (RPost n beat (l.set j (s', m', a')) w) := by
  obtain ⟨x, hx⟩ : ∃ x, x = j + 1 := ⟨_, rfl⟩
  rw [← hx]
  obtain ⟨e', he'⟩ : ∃ e' : In, e' = (s', m', a') := ⟨_, rfl⟩
  rw [← he']
  obtain ⟨T, hT⟩ : ∃ T, T = w.heap.size + 3 := ⟨_, rfl⟩
  obtain ⟨wa, hwa⟩ : ∃ wa, wa = w.alloc (.cells (rC A n c beat) 27) := ⟨_, rfl⟩
  have hsa : wa.heap.size = w.heap.size + 1 := by rw [hwa]; simp
  have hba : Below w.heap.size w wa := by rw [hwa]; exact (Below.refl _ _).alloc (Nat.le_refl _) _
  have hqa : wa.heap[w.heap.size]? = some (.cells (rC A n c beat) 27 (0, 0)) := by rw [hwa]; exact heap_alloc_new w _
  obtain ⟨wb, hwb⟩ : ∃ wb, wb = wa.alloc (.cells (iC s' m' a') 61) := ⟨_, rfl⟩
  have hsb : wb.heap.size = w.heap.size + 2 := by rw [hwb]; simp [hsa]
  have hbb : Below wa.heap.size wa wb := by rw [hwb]; exact (Below.refl _ _).alloc (Nat.le_refl _) _
  have hqb : wb.heap[w.heap.size + 1]? = some (.cells (iC s' m' a') 61 (0, 0)) := by rw [hwb, ← hsa]; exact heap_alloc_new wa _
  obtain ⟨wc, hwc⟩ : ∃ wc, wc = wb.alloc (.cells #[.slice none 0 0, .int .i64 0] 27) := ⟨_, rfl⟩
  have hsc : wc.heap.size = T := by rw [hwc, hT]; simp [hsb]
  have hbc : Below wb.heap.size wb wc := by rw [hwc]; exact (Below.refl _ _).alloc (Nat.le_refl _) _
  have hqc : wc.heap[w.heap.size + 2]? = some (.cells #[.slice none 0 0, .int .i64 0] 27 (0, 0)) := by rw [hwc, ← hsb]; exact heap_alloc_new wb _
  obtain ⟨w1, hw1⟩ : ∃ w1, w1 = wc.alloc (.cells #[.slice none 0 0, .int .i64 beat] 27) := ⟨_, rfl⟩
  have hb1 : Below wc.heap.size wc w1 := by rw [hw1]; exact (Below.refl _ _).alloc (Nat.le_refl _) _
  have hq1 : w1.heap[T]? = some (.cells #[.slice none 0 0, .int .i64 beat] 27 (0, 0)) := by rw [hw1, ← hsc]; exact heap_alloc_new wc _
  have hQA : w1.heap[w.heap.size]? = some (.cells (rC A n c beat) 27 (0, 0)) := (hb1.block _ (by rw [hsc]; omega)).trans ((hbc.block _ (by rw [hsb]; omega)).trans ((hbb.block _ (lt_of_block hqa)).trans hqa))
  have hQB : w1.heap[w.heap.size + 1]? = some (.cells (iC s' m' a') 61 (0, 0)) := (hb1.block _ (by rw [hsc]; omega)).trans ((hbc.block _ (lt_of_block hqb)).trans hqb)
  have hQC : w1.heap[w.heap.size + 2]? = some (.cells #[.slice none 0 0, .int .i64 0] 27 (0, 0)) := (hb1.block _ (lt_of_block hqc)).trans hqc
  have HB1 : Hid (Below w.heap.size w w1) := ((hba.trans (hbb.mono hba.size)).trans (hbc.mono (by rw [hsb]; omega))).trans (hb1.mono (by rw [hsc]; omega))
  have H1 : Hid (w1 = (((w.alloc (.cells (rC A n c beat) 27)).alloc (.cells (iC s' m' a') 61)).alloc (.cells #[.slice none 0 0, .int .i64 0] 27)).alloc (.cells #[.slice none 0 0, .int .i64 beat] 27)) := by simp only [Hid]; rw [hw1, hwc, hwb, hwa]
  have HS : Hid (∃ A c, WSt w1 T beat (.slice A 0 c) 0 ((l.set j e').take 0) w1) := ⟨none, 0, World.ownsRow_nil w1 _ 61 3, hq1, Below.refl _ _⟩
  have HTT := Lib.hid hT
  have HCC : Hid (∀ W, Below T w1 W → W.cell? ⟨w.heap.size, 0, none⟩ = some (.slice A n c) ∧ (W.cell? ⟨w.heap.size + 1, 0, none⟩ = some (.int .i64 s') ∧ W.cell? ⟨w.heap.size + 1, 1, none⟩ = some (.int .u32 m') ∧ W.cell? ⟨w.heap.size + 1, 2, none⟩ = some (.int .i64 a')) ∧ W.heap[w.heap.size + 2]? = some (.cells #[.slice none 0 0, .int .i64 0] 27 (0, 0))) := fun W hW => by
    have e1 := (hW.block w.heap.size (by omega)).trans hQA
    have e2 := (hW.block (w.heap.size + 1) (by omega)).trans hQB
    exact ⟨cell_of_row W _ 0 _ _ _ e1, ⟨cell_of_row W _ 0 _ _ _ e2, cell_of_row W _ 1 _ _ _ e2, cell_of_row W _ 2 _ _ _ e2⟩, (hW.block (w.heap.size + 2) (by omega)).trans hQC⟩
  have HR : Hid (Rs w1 w.heap.size A l) := hR.below HB1.out
  have HN := Lib.hid hn
  have HX := Lib.hid hx
  have HE := Lib.hid he'
  clear hwa hsa hba hqa hwb hsb hbb hqb hwc hsc hbc hqc hw1 hb1 hq1 hQA hQB hQC hT hR hn hx he'
  go_enter Try.func28, Try.ntmps28
  go_upto_region 2 with (fail)
  rw [← H1.out, ← HTT.out]
  go_wp2_with fail
  go_loopw [8] (fun u wr => ∃ (k : Nat), k ≤ n ∧ u = .int .i64 (k : Int) ∧ Hid (∃ A c, WSt w1 T beat (.slice A k c) k ((l.set j e').take k) wr)) (fun u _ => n - (intOf u).toNat)
  case atStart => exact ⟨0, by omega, rfl, HS.out⟩
  case round =>
    obtain ⟨k, hk, rfl, HV⟩ := hrel
    obtain ⟨A2, c2, hV⟩ := HV.out
    have HV : Hid (WSt w1 T beat (.slice A2 k c2) k ((l.set j e').take k) wr) := hV
    clear hV
    obtain ⟨t0, ⟨x0, x1, x2⟩, -⟩ := HCC.out wr HV.out.2.2
    by_cases hlt : k < n
    · by_cases hkj : k = j
      · have HTK : Hid ((l.set j e').take (k + 1) = (l.set j e').take k ++ [(s', m', a')]) := by
          simp only [Hid]
          rw [List.take_add_one, ← hkj, List.getElem?_set_self (by rw [← HN.out]; exact hlt), HE.out]
          rfl
        have ht : ((k : Int) + 1 == (x : Int)) = true := by have := HX.out; simp; omega
        obtain ⟨w2, hw2⟩ : ∃ w2, w2 = wr.alloc (.cells (iC s' m' a') 61) := ⟨_, rfl⟩
        have hg2 : w2.heap[wr.heap.size]? = some (.cells (ic (s', m', a')).toArray 61 (0, 0)) := by rw [hw2]; exact heap_alloc_new wr _
        have hb2 : Below wr.heap.size wr w2 := by rw [hw2]; exact (Below.refl _ _).alloc (Nat.le_refl _) _
        have HW2 := Lib.hid (wst_alloc HV.out hb2)
        have H2 := Lib.hid hw2
        have c0 := cell_of_row wr T 0 _ _ _ HV.out.2.1
        simp at c0
        have ht2 : Hid (∀ W : World, W = w2 → W.ownsRow (T + 1) 61 3 (.slice A2 k c2) k (ir ((l.set j e').take k)) ∧ W.heap[wr.heap.size]? = some (.cells (ic (s', m', a')).toArray 61 (0, 0)) ∧ T + 1 ≤ W.heap.size) := fun W e => by rw [e]; exact ⟨HW2.out.1, hg2, wst_lt HW2.out⟩
        clear hw2 hg2 hb2 hkj
        go_wp2_with (at_builtin; refine wpList_append_in rfl (.tmp 25) (.tmp 27) rfl (T + 1) wr.heap.size (.slice A2 k c2) k (ir ((l.set j e').take k)) (s', m', a') rfl rfl (ht2.out _ H2.out.symm).1 (ht2.out _ H2.out.symm).2.1 (by omega) (ht2.out _ H2.out.symm).2.2 ?_; intro v4 w4 hown4 hg4; rw [← H2.out] at hg4; obtain ⟨A4, c4, rfl⟩ := own_formI hown4; have HO4 := Lib.hid hown4; have HG4 := Lib.hid hg4; have c4' := cell_of_row w4 T 0 _ _ _ (wst_var HW2.out hg4); have f4 := frozen_of_row w4 T 0 _ _ (wst_var HW2.out hg4); simp at c4'; clear hown4 hg4)
        go_roundw
        case rel => exact ⟨k + 1, by omega, by go_num, A4, c4, by rw [HTK.out]; exact wst_put HW2.out HG4.out HO4.out⟩
        case measure => simp [intOf] <;> omega
      · obtain ⟨⟨s, m, a⟩, hy⟩ : ∃ e, l[k]? = some e := ⟨l[k]'(by rw [← HN.out]; exact hlt), List.getElem?_eq_getElem _⟩
        have HTK : Hid ((l.set j e').take (k + 1) = (l.set j e').take k ++ [(s, m, a)]) := by
          simp only [Hid]
          rw [List.take_add_one, List.getElem?_set_ne (fun h => hkj h.symm), hy]
          rfl
        have ht : ¬ (k : Int) + 1 = (x : Int) := by have := HX.out; omega
        obtain ⟨b1, o1, rfl, hb1, ha1⟩ := HR.out (by have := HN.out; omega)
        have hrow : ∀ W, Below T w1 W → W.cell? ⟨b1, o1 + k * 3, none⟩ = some (.int .i64 s) ∧ W.cell? ⟨b1, o1 + k * 3 + 1, none⟩ = some (.int .u32 m) ∧ W.cell? ⟨b1, o1 + k * 3 + 2, none⟩ = some (.int .i64 a) := fun W hW => by
          obtain ⟨d0, d1, d2⟩ := ha1 k _ hy
          have hlt' : b1 < T := by have := HTT.out; omega
          exact ⟨(hW.cell (p := ⟨b1, _, none⟩) hlt').trans d0, (hW.cell (p := ⟨b1, _, none⟩) hlt').trans d1, (hW.cell (p := ⟨b1, _, none⟩) hlt').trans d2⟩
        clear ha1 hb1 hy x0 x1 x2
        have HSall : Hid (∀ W, Below T w1 W → W.cell? ⟨w.heap.size, 0, none⟩ = some (.slice (some ⟨b1, o1, none⟩) n c) ∧ W.cell? ⟨b1, o1 + k * 3, none⟩ = some (.int .i64 s) ∧ W.cell? ⟨b1, o1 + k * 3 + 1, none⟩ = some (.int .u32 m) ∧ W.cell? ⟨b1, o1 + k * 3 + 2, none⟩ = some (.int .i64 a)) := fun W hW => ⟨(HCC.out W hW).1, hrow W hW⟩
        clear hrow
        go_upto_region 7 with (fail)
        refine wp_region_held_drew (S := fun W : World => W.cell? ⟨w.heap.size, 0, none⟩ = some (.slice (some ⟨b1, o1, none⟩) n c) ∧ W.cell? ⟨b1, o1 + k * 3, none⟩ = some (.int .i64 s) ∧ W.cell? ⟨b1, o1 + k * 3 + 1, none⟩ = some (.int .u32 m) ∧ W.cell? ⟨b1, o1 + k * 3 + 2, none⟩ = some (.int .i64 a)) (by kernel_rfl) (HSall.out _ HV.out.2.2.drew) (fun hHeld => ?_)
        obtain ⟨W0, hW0⟩ : ∃ W0, W0 = wr.drew := ⟨_, rfl⟩
        have HV0 : Hid (WSt w1 T beat (.slice A2 k c2) k ((l.set j e').take k) W0) := by rw [hW0]; exact ⟨HV.out.1, HV.out.2.1, HV.out.2.2.drew⟩
        rw [← hW0] at hHeld ⊢
        clear hW0 HV
        refine wpAnyH_take (i := 0) (oi := ?oi0) (v := ?v0) ?hi0 ?hs0 ?hf0 ?hr0 ?hQ0 ?hy0 ?hS0 ?h0
        case hi0 => exact (by simp only [List.getElem?_toArray, List.getElem?_cons_zero]; rfl)
        case hs0 => kernel_rfl
        case hf0 => kernel_rfl
        case hr0 => kernel_rfl
        case hQ0 => exact fun _ _ _ h => h
        case hy0 =>
          refine Or.inl ⟨rfl, ?_⟩
          intro W hSw
          obtain ⟨y0, y1, y2, y3⟩ := hSw
          go_simp
          try with_reducible rfl
        case hS0 => assumption
        try simp only [Act.put, List.setIfInBounds_toArray, List.set_cons_zero, List.set_cons_succ]
        refine wpAnyH_take (i := 2) (oi := ?oi2) (v := ?v2) ?hi2 ?hs2 ?hf2 ?hr2 ?hQ2 ?hy2 ?hS2 ?h2
        case hi2 => exact (by simp only [List.getElem?_toArray, List.getElem?_cons_succ, List.getElem?_cons_zero]; rfl)
        case hs2 => kernel_rfl
        case hf2 => kernel_rfl
        case hr2 => kernel_rfl
        case hQ2 => exact fun _ _ _ h => h
        case hy2 =>
          refine Or.inl ⟨rfl, ?_⟩
          intro W hSw
          obtain ⟨y0, y1, y2, y3⟩ := hSw
          go_simp
          try with_reducible rfl
        case hS2 => assumption
        try simp only [Act.put, List.setIfInBounds_toArray, List.set_cons_zero, List.set_cons_succ]
        refine wpAnyH_take (i := 3) (oi := ?oi3) (v := ?v3) ?hi3 ?hs3 ?hf3 ?hr3 ?hQ3 ?hy3 ?hS3 ?h3
        case hi3 => exact (by simp only [List.getElem?_toArray, List.getElem?_cons_succ, List.getElem?_cons_zero]; rfl)
        case hs3 => kernel_rfl
        case hf3 => kernel_rfl
        case hr3 => kernel_rfl
        case hQ3 => exact fun _ _ _ h => h
        case hy3 =>
          refine Or.inl ⟨rfl, ?_⟩
          intro W hSw
          obtain ⟨y0, y1, y2, y3⟩ := hSw
          go_simp
          try with_reducible rfl
        case hS3 => assumption
        try simp only [Act.put, List.setIfInBounds_toArray, List.set_cons_zero, List.set_cons_succ]
        refine wpAnyH_take (i := 4) (oi := ?oi4) (v := ?v4) ?hi4 ?hs4 ?hf4 ?hr4 ?hQ4 ?hy4 ?hS4 ?h4
        case hi4 => exact (by simp only [List.getElem?_toArray, List.getElem?_cons_succ, List.getElem?_cons_zero]; rfl)
        case hs4 => kernel_rfl
        case hf4 => kernel_rfl
        case hr4 => kernel_rfl
        case hQ4 => exact fun _ _ _ h => h
        case hy4 =>
          refine Or.inl ⟨rfl, ?_⟩
          intro W hSw
          obtain ⟨y0, y1, y2, y3⟩ := hSw
          go_simp
          try with_reducible rfl
        case hS4 => assumption
        try simp only [Act.put, List.setIfInBounds_toArray, List.set_cons_zero, List.set_cons_succ]
        refine wpAnyH_take (i := 5) (oi := ?oi5) (v := ?v5) ?hi5 ?hs5 ?hf5 ?hr5 ?hQ5 ?hy5 ?hS5 ?h5
        case hi5 => exact (by simp only [List.getElem?_toArray, List.getElem?_cons_succ, List.getElem?_cons_zero]; rfl)
        case hs5 => kernel_rfl
        case hf5 => kernel_rfl
        case hr5 => kernel_rfl
        case hQ5 => exact fun _ _ _ h => h
        case hy5 =>
          refine Or.inl ⟨rfl, ?_⟩
          intro W hSw
          obtain ⟨y0, y1, y2, y3⟩ := hSw
          go_simp
          try with_reducible rfl
        case hS5 => assumption
        try simp only [Act.put, List.setIfInBounds_toArray, List.set_cons_zero, List.set_cons_succ]
        refine wpAnyH_take (i := 6) (oi := ?oi6) (v := ?v6) ?hi6 ?hs6 ?hf6 ?hr6 ?hQ6 ?hy6 ?hS6 ?h6
        case hi6 => exact (by simp only [List.getElem?_toArray, List.getElem?_cons_succ, List.getElem?_cons_zero]; rfl)
        case hs6 => kernel_rfl
        case hf6 => kernel_rfl
        case hr6 => kernel_rfl
        case hQ6 => exact fun _ _ _ h => h
        case hy6 =>
          refine Or.inl ⟨rfl, ?_⟩
          intro W hSw
          obtain ⟨y0, y1, y2, y3⟩ := hSw
          go_simp
          try with_reducible rfl
        case hS6 => assumption
        try simp only [Act.put, List.setIfInBounds_toArray, List.set_cons_zero, List.set_cons_succ]
        refine wpAnyH_ready (rs := [1, 7]) (by kernel_rfl) (by simp) ?_
        refine AllReadyH.cons (o := _) rfl (fun K hK => ?_) (AllReadyH.cons (o := _) rfl (fun K hK => ?_) AllReadyH.nil)
        · have c1' := cell_of_row _ T 0 _ _ _ HV0.out.2.1
          simp at c1'
          go_simp
          clear c1'
          refine hK.out _ _ (HSall.out _ HV0.out.2.2) (fun hHeld => ?_)
          clear hK K
          try simp only [Act.put, List.setIfInBounds_toArray, List.set_cons_zero, List.set_cons_succ]
          refine wpAnyH_ready (rs := [7]) (by kernel_rfl) (by simp) ?_
          refine AllReadyH.cons (o := _) rfl (fun K hK => ?_) AllReadyH.nil
          go_simp
          obtain ⟨W2, hW2⟩ : ∃ W2, W2 = W0.alloc (.cells (iC s m a) 61) := ⟨_, rfl⟩
          rw [← hW2]
          have HQ2 : Hid (W2.heap[W0.heap.size]? = some (.cells (ic (s, m, a)).toArray 61 (0, 0))) := by rw [hW2]; exact heap_alloc_new W0 _
          have HV2 : Hid (WSt w1 T beat (.slice A2 k c2) k ((l.set j e').take k) W2) := wst_alloc HV0.out (by rw [hW2]; exact (Below.refl _ _).alloc (Nat.le_refl _) _)
          clear hW2
          refine hK.out _ _ (HSall.out _ HV2.out.2.2) (fun hHeld => ?_)
          clear hK K
          try simp only [Act.put, List.setIfInBounds_toArray, List.set_cons_zero, List.set_cons_succ]
          refine wpAnyH_ready (rs := [8]) (by kernel_rfl) (by simp) ?_
          refine AllReadyH.cons (o := _) rfl (fun K hK => ?_) AllReadyH.nil
          refine step_append_in rfl _ _ rfl (T + 1) W0.heap.size (.slice A2 k c2) k (ir ((l.set j e').take k)) (s, m, a) rfl rfl HV2.out.1 HQ2.out (by omega) (wst_lt HV2.out) ?_
          intro v4 W4 hown4 hg4
          obtain ⟨A4, c4, rfl⟩ := own_formI hown4
          have HO4 := Lib.hid hown4
          have HG4 := Lib.hid hg4
          have HB4 : Hid (Below T w1 W4) := HV2.out.2.2.grown hg4 (Nat.le_of_lt (wst_lt HV2.out)) (fun g hgg => by have := (ownlt HV2.out.1 g hgg).1; omega)
          clear hown4 hg4
          refine hK.out _ _ (HSall.out _ HB4.out) (fun hHeld => ?_)
          clear hK K
          try simp only [Act.put, List.setIfInBounds_toArray, List.set_cons_zero, List.set_cons_succ]
          refine wpAnyH_take (i := 9) (oi := ?oi9p) (v := ?v9p) ?hi9p ?hs9p ?hf9p ?hr9p ?hQ9p ?hy9p ?hS9p ?h9p
          case hi9p => exact (by simp only [List.getElem?_toArray, List.getElem?_cons_succ, List.getElem?_cons_zero]; rfl)
          case hs9p => kernel_rfl
          case hf9p => kernel_rfl
          case hr9p => kernel_rfl
          case hQ9p => exact fun _ _ _ h => h
          case hy9p =>
            refine Or.inl ⟨rfl, ?_⟩
            intro W hSw
            obtain ⟨y0, y1, y2, y3⟩ := hSw
            go_simp
            try with_reducible rfl
          case hS9p => assumption
          try simp only [Act.put, List.setIfInBounds_toArray, List.set_cons_zero, List.set_cons_succ]
          refine wpAnyH_ready (rs := [10]) (by kernel_rfl) (by simp) ?_
          refine AllReadyH.cons (o := _) rfl (fun K hK => ?_) AllReadyH.nil
          have c4' := cell_of_row W4 T 0 _ _ _ (wst_var HV2.out HG4.out)
          have f4' := frozen_of_row W4 T 0 _ _ (wst_var HV2.out HG4.out)
          simp at c4'
          go_simp
          clear c4' f4'
          have HWN := Lib.hid (wst_put HV2.out HG4.out HO4.out)
          refine hK.out _ _ (HSall.out _ HWN.out.2.2) (fun hHeld => ?_)
          clear hK K
          try simp only [Act.put, List.setIfInBounds_toArray, List.set_cons_zero, List.set_cons_succ]
          refine wpAnyH_done (by kernel_rfl) ?_ _
          obtain ⟨W5, hW5⟩ : ∃ W5, W5 = W4.setCell ⟨T, 0, none⟩ (.slice A4 (k + 1) c4) := ⟨_, rfl⟩
          rw [← hW5] at HWN ⊢
          clear hW5 hHeld
          go_wp2_with fail
          go_roundw
          case rel => exact ⟨k + 1, by omega, by go_num, A4, c4, by rw [HTK.out]; exact HWN.out⟩
          case measure => simp [intOf] <;> omega
        · go_simp
          obtain ⟨W2, hW2⟩ : ∃ W2, W2 = W0.alloc (.cells (iC s m a) 61) := ⟨_, rfl⟩
          rw [← hW2]
          have HQ2 : Hid (W2.heap[W0.heap.size]? = some (.cells (ic (s, m, a)).toArray 61 (0, 0))) := by rw [hW2]; exact heap_alloc_new W0 _
          have HV2 : Hid (WSt w1 T beat (.slice A2 k c2) k ((l.set j e').take k) W2) := wst_alloc HV0.out (by rw [hW2]; exact (Below.refl _ _).alloc (Nat.le_refl _) _)
          clear hW2
          refine hK.out _ _ (HSall.out _ HV2.out.2.2) (fun hHeld => ?_)
          clear hK K
          try simp only [Act.put, List.setIfInBounds_toArray, List.set_cons_zero, List.set_cons_succ]
          refine wpAnyH_ready (rs := [1]) (by kernel_rfl) (by simp) ?_
          refine AllReadyH.cons (o := _) rfl (fun K hK => ?_) AllReadyH.nil
          have c1' := cell_of_row _ T 0 _ _ _ HV2.out.2.1
          simp at c1'
          go_simp
          clear c1'
          refine hK.out _ _ (HSall.out _ HV2.out.2.2) (fun hHeld => ?_)
          clear hK K
          try simp only [Act.put, List.setIfInBounds_toArray, List.set_cons_zero, List.set_cons_succ]
          refine wpAnyH_ready (rs := [8]) (by kernel_rfl) (by simp) ?_
          refine AllReadyH.cons (o := _) rfl (fun K hK => ?_) AllReadyH.nil
          refine step_append_in rfl _ _ rfl (T + 1) W0.heap.size (.slice A2 k c2) k (ir ((l.set j e').take k)) (s, m, a) rfl rfl HV2.out.1 HQ2.out (by omega) (wst_lt HV2.out) ?_
          intro v4 W4 hown4 hg4
          obtain ⟨A4, c4, rfl⟩ := own_formI hown4
          have HO4 := Lib.hid hown4
          have HG4 := Lib.hid hg4
          have HB4 : Hid (Below T w1 W4) := HV2.out.2.2.grown hg4 (Nat.le_of_lt (wst_lt HV2.out)) (fun g hgg => by have := (ownlt HV2.out.1 g hgg).1; omega)
          clear hown4 hg4
          refine hK.out _ _ (HSall.out _ HB4.out) (fun hHeld => ?_)
          clear hK K
          try simp only [Act.put, List.setIfInBounds_toArray, List.set_cons_zero, List.set_cons_succ]
          refine wpAnyH_take (i := 9) (oi := ?oi9q) (v := ?v9q) ?hi9q ?hs9q ?hf9q ?hr9q ?hQ9q ?hy9q ?hS9q ?h9q
          case hi9q => exact (by simp only [List.getElem?_toArray, List.getElem?_cons_succ, List.getElem?_cons_zero]; rfl)
          case hs9q => kernel_rfl
          case hf9q => kernel_rfl
          case hr9q => kernel_rfl
          case hQ9q => exact fun _ _ _ h => h
          case hy9q =>
            refine Or.inl ⟨rfl, ?_⟩
            intro W hSw
            obtain ⟨y0, y1, y2, y3⟩ := hSw
            go_simp
            try with_reducible rfl
          case hS9q => assumption
          try simp only [Act.put, List.setIfInBounds_toArray, List.set_cons_zero, List.set_cons_succ]
          refine wpAnyH_ready (rs := [10]) (by kernel_rfl) (by simp) ?_
          refine AllReadyH.cons (o := _) rfl (fun K hK => ?_) AllReadyH.nil
          have c4' := cell_of_row W4 T 0 _ _ _ (wst_var HV2.out HG4.out)
          have f4' := frozen_of_row W4 T 0 _ _ (wst_var HV2.out HG4.out)
          simp at c4'
          go_simp
          clear c4' f4'
          have HWN := Lib.hid (wst_put HV2.out HG4.out HO4.out)
          refine hK.out _ _ (HSall.out _ HWN.out.2.2) (fun hHeld => ?_)
          clear hK K
          try simp only [Act.put, List.setIfInBounds_toArray, List.set_cons_zero, List.set_cons_succ]
          refine wpAnyH_done (by kernel_rfl) ?_ _
          obtain ⟨W5, hW5⟩ : ∃ W5, W5 = W4.setCell ⟨T, 0, none⟩ (.slice A4 (k + 1) c4) := ⟨_, rfl⟩
          rw [← hW5] at HWN ⊢
          clear hW5 hHeld
          go_wp2_with fail
          go_roundw
          case rel => exact ⟨k + 1, by omega, by go_num, A4, c4, by rw [HTK.out]; exact HWN.out⟩
          case measure => simp [intOf] <;> omega
    · have hkn : k = n := by omega
      subst hkn
      have HLL : Hid ((l.set j e').take k = l.set j e') := List.take_of_length_le (by rw [List.length_set, ← HN.out]; exact Nat.le_refl _)
      rw [HLL.out] at HV
      have c0 := cell_of_row wr T 0 _ _ _ HV.out.2.1
      have c1 := cell_of_row wr T 1 _ _ _ HV.out.2.1
      simp at c0 c1
      have hq4 := (HCC.out wr HV.out.2.2).2.2
      have z0 := cell_of_row wr (w.heap.size + 2) 0 _ _ _ hq4
      have z1 := cell_of_row wr (w.heap.size + 2) 1 _ _ _ hq4
      simp at z0 z1
      have zf : ∀ i, wr.frozen? ⟨w.heap.size + 2, i, none⟩ = false := fun i => frozen_of_row wr _ i _ _ hq4
      have HT := Lib.hid (two (.slice A2 k c2) (.int .i64 beat) hq4)
      have HRES : Hid (Rs ((wr.setCell ⟨w.heap.size + 2, 0, none⟩ (.slice A2 k c2)).setCell ⟨w.heap.size + 2, 1, none⟩ (.int .i64 beat)) ((wr.setCell ⟨w.heap.size + 2, 0, none⟩ (.slice A2 k c2)).setCell ⟨w.heap.size + 2, 1, none⟩ (.int .i64 beat)).heap.size A2 (l.set j e') ∧ Below w.heap.size w ((wr.setCell ⟨w.heap.size + 2, 0, none⟩ (.slice A2 k c2)).setCell ⟨w.heap.size + 2, 1, none⟩ (.int .i64 beat))) := by
        have hT := HTT.out
        exact ⟨Rs.of_own (ownsRow_setCell_below (ownsRow_setCell_below HV.out.1 (by show w.heap.size + 2 < _; omega) _) (by show w.heap.size + 2 < _; omega) _), ((HB1.out.trans (HV.out.2.2.mono (by omega))).setCell (by show w.heap.size ≤ w.heap.size + 2; omega) _).setCell (by show w.heap.size ≤ w.heap.size + 2; omega) _⟩
      have HGE : Hid (∀ b o, A2 = some ⟨b, o, none⟩ → w.heap.size ≤ b) := fun b o e => by subst e; have := (ownlt HV.out.1 b rfl).1; have := HTT.out; omega
      clear hq4 x0 x1 x2
      go_wp2
      obtain ⟨e0, e1⟩ := HT.out
      exact bodyPost_ret (v := rV A2 k c2 beat) (by simp [results, Try.results28, go_sem, e0, e1]) rfl ⟨A2, c2, rfl, HRES.out.1, HRES.out.2, HGE.out⟩
end Go.Proofs.Ytddjbkaofodmlaa
