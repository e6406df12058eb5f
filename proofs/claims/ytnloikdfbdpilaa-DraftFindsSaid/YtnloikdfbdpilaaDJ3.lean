/- Draft: the document's Fits. -/
import Derived.Test.YtnloikdfbdpilaaDJ2
import Derived.Test.YtnloikdfbdpilaaD4
namespace Go.Proofs.Ytnloikdfbdpilaa
open Go.RowKit
set_option maxRecDepth 20000
set_option linter.unusedVariables false

set_option linter.unusedSimpArgs false in
set_option maxHeartbeats 8000000 in
theorem rfits_any (m : Mo) (now : Int) (A : Option Addr) (n c : Nat) (l : List Tk) (w : World) (hn : n = l.length) (hE : Ts w w.heap.size A l) (hl : n ≤ 1000) (hnow : In64 now) (hs : ∀ t ∈ l, In64 t.s) :
    Calls Try.prog 15 #[m.v, .int .i64 now, .slice A n c] w fun r w' => (∃ t : Bool, r = .returned (.bool t) ∧ (t = true ↔ m.wr = [] ∧ Fit (entsP m now l))) ∧ Below w.heap.size w w' := by
  obtain ⟨w0, hw0⟩ : ∃ w0, w0 = w.alloc (.cells m.cells 23) := ⟨_, rfl⟩
  have hb0 : Below w.heap.size w w0 := by rw [hw0]; exact (Below.refl _ _).alloc (Nat.le_refl _) _
  have hq0 : w0.heap[w.heap.size]? = some (.cells m.cells 23 (0, 0)) := by rw [hw0]; exact heap_alloc_new w _
  have HWR : Hid (∀ W, Calls Try.prog 30 #[m.v] W fun r w' => r = .returned (sV m.wr) ∧ Below W.heap.size W w') := fun W => rwrongM_any m.k m.b m.s m.c m.e W
  have HCE : Hid (∀ W, Below w0.heap.size w0 W → W.cell? ⟨w.heap.size, 0, none⟩ = some (.int .i64 m.k) ∧ W.cell? ⟨w.heap.size, 1, none⟩ = some (.int .i64 m.b) ∧ W.cell? ⟨w.heap.size, 2, none⟩ = some (.int .i64 m.s) ∧ W.cell? ⟨w.heap.size, 3, none⟩ = some (.int .i64 m.c) ∧ W.cell? ⟨w.heap.size, 4, none⟩ = some (.int .i64 m.e)) := fun W hW => by
    have e2 := (hW.block _ (lt_of_block hq0)).trans hq0
    exact ⟨cell_of_row W _ 0 _ _ _ e2, cell_of_row W _ 1 _ _ _ e2, cell_of_row W _ 2 _ _ _ e2, cell_of_row W _ 3 _ _ _ e2, cell_of_row W _ 4 _ _ _ e2⟩
  obtain ⟨mw, hmw⟩ : ∃ mw, mw = m.wr := ⟨_, rfl⟩
  rw [← hmw] at HWR ⊢
  have H0 := Lib.hid hw0
  have HB0 := Lib.hid hb0
  have HE := Lib.hid (hE.later hb0 (Nat.le_refl _))
  have HN := Lib.hid hn
  have HS := Lib.hid hs
  have HNOW := Lib.hid hnow
  obtain ⟨c0, c1, c2, c3, c4⟩ := HCE.out w0 (Below.refl _ _)
  clear hw0 hb0 hq0 hn hE hs hmw hnow
  by_cases he : mw.isEmpty = true
  · have HMW : Hid (mw = []) := List.isEmpty_iff.1 he
    go_enter Try.func15, Try.ntmps15
    go_upto_region 1 with (fail)
    rw [← H0.out]
    go_wp2_with fail
    refine (HWR.out w0).mono ?_
    rintro r w1 ⟨rfl, hb⟩
    have HB1 := Lib.hid hb
    clear hb c0 c1 c2 c3 c4
    go_wp2_with fail
    go_loopw [7] (fun u wr => ∃ k : Nat, k ≤ n ∧ u = .int .i64 (k : Int) ∧ Hid (Fit ((entsP m now l).take k) ∧ Below w0.heap.size w0 wr)) (fun u _ => n - (intOf u).toNat)
    case atStart => exact ⟨0, by omega, rfl, by simp [Fit], HB1.out⟩
    case round =>
      obtain ⟨k, hk, rfl, HV⟩ := hrel
      by_cases hlt : k < n
      · obtain ⟨t, hy⟩ : ∃ t, l[k]? = some t := ⟨l[k]'(by rw [← HN.out]; exact hlt), List.getElem?_eq_getElem _⟩
        have HTK : Hid ((entsP m now l).take (k + 1) = (entsP m now l).take k ++ [entP m now k t]) := by simp only [Hid]; rw [List.take_add_one, entsP_get m now l k t hy]; rfl
        have HST := Lib.hid (HS.out t (List.mem_of_getElem? hy))
        have HY := Lib.hid hy
        clear hy
        go_wp2_with fail
        go_loopw [8] (fun u wq => ∃ i : Nat, i ≤ k ∧ u = .int .i64 (i : Int) ∧ Hid ((∀ o ∈ (entsP m now l).take i, Nr o (entP m now k t)) ∧ Below w0.heap.size w0 wq)) (fun u _ => n - (intOf u).toNat)
        case atStart => exact ⟨0, by omega, rfl, by simp, HV.out.2⟩
        case round =>
          obtain ⟨i, hi, rfl, HI⟩ := hrel
          by_cases hil : i < k
          · obtain ⟨o, ho⟩ : ∃ o, l[i]? = some o := ⟨l[i]'(by rw [← HN.out]; omega), List.getElem?_eq_getElem _⟩
            have HT2 : Hid ((entsP m now l).take (i + 1) = (entsP m now l).take i ++ [entP m now i o]) := by simp only [Hid]; rw [List.take_add_one, entsP_get m now l i o ho]; rfl
            have HME : Hid (entP m now i o ∈ (entsP m now l).take k) := by
              simp only [Hid]
              refine List.mem_of_getElem? (i := i) ?_
              rw [List.getElem?_take, if_pos hil, entsP_get m now l i o ho]
            have HSO := Lib.hid (HS.out o (List.mem_of_getElem? ho))
            obtain ⟨b1, o1, rfl, hb1, ha1⟩ := HE.out (by have := HN.out; omega)
            obtain ⟨x, y, P, cp, d0', d1', d2', d3', d4'⟩ := ha1 k t HY.out
            obtain ⟨x', y', P', cp', e0', e1', e2', e3', e4'⟩ := ha1 i o ho
            have HCF : Hid (∀ W, Below wr.heap.size wr W → W.cell? ⟨b1, o1 + k * 5 + 3, none⟩ = some (.int .i64 t.r) ∧ W.cell? ⟨b1, o1 + k * 5 + 4, none⟩ = some (.int .i64 t.s) ∧ W.cell? ⟨b1, o1 + i * 5 + 3, none⟩ = some (.int .i64 o.r) ∧ W.cell? ⟨b1, o1 + i * 5 + 4, none⟩ = some (.int .i64 o.s) ∧ W.cell? ⟨w.heap.size, 0, none⟩ = some (.int .i64 m.k) ∧ W.cell? ⟨w.heap.size, 1, none⟩ = some (.int .i64 m.b) ∧ W.cell? ⟨w.heap.size, 2, none⟩ = some (.int .i64 m.s) ∧ W.cell? ⟨w.heap.size, 3, none⟩ = some (.int .i64 m.c) ∧ W.cell? ⟨w.heap.size, 4, none⟩ = some (.int .i64 m.e)) := fun W hW => by
              have hbw := HI.out.2.trans (hW.mono HI.out.2.size)
              obtain ⟨z0, z1, z2, z3, z4⟩ := HCE.out W hbw
              exact ⟨(hbw.cell (p := ⟨b1, _, none⟩) hb1).trans d3', (hbw.cell (p := ⟨b1, _, none⟩) hb1).trans d4', (hbw.cell (p := ⟨b1, _, none⟩) hb1).trans e3', (hbw.cell (p := ⟨b1, _, none⟩) hb1).trans e4', z0, z1, z2, z3, z4⟩
            have HBS : Hid (Below wr.heap.size wr wr) := Below.refl _ _
            have HW1 : Hid (∀ W, Calls Try.prog 11 #[.int .i64 now, .int .i64 t.s] W fun r w' => r = .returned (.int .i64 (waitP now t.s)) ∧ Below W.heap.size W w') := fun W => (rwait_any now t.s W HNOW.out HST.out).mono fun r w' h => ⟨h.1, by rw [h.2]; exact Below.refl _ _⟩
            have HW2 : Hid (∀ W, Calls Try.prog 11 #[.int .i64 now, .int .i64 o.s] W fun r w' => r = .returned (.int .i64 (waitP now o.s)) ∧ Below W.heap.size W w') := fun W => (rwait_any now o.s W HNOW.out HSO.out).mono fun r w' h => ⟨h.1, by rw [h.2]; exact Below.refl _ _⟩
            have hwb1 := wait_bd now t.s
            have hwb2 := wait_bd now o.s
            obtain ⟨wt, hwt⟩ : ∃ wt, wt = waitP now t.s := ⟨_, rfl⟩
            obtain ⟨wo, hwo⟩ : ∃ wo, wo = waitP now o.s := ⟨_, rfl⟩
            rw [← hwt] at HW1 hwb1
            rw [← hwo] at HW2 hwb2
            have HI1 : Hid (∀ W, Calls Try.prog 31 #[m.v, .int .i64 wt] W fun r w' => r = .returned (.int .i64 (m.win wt)) ∧ Below W.heap.size W w') := fun W => rwindow_any m.k m.b m.s m.c m.e wt W (by omega)
            have HI2 : Hid (∀ W, Calls Try.prog 31 #[m.v, .int .i64 wo] W fun r w' => r = .returned (.int .i64 (m.win wo)) ∧ Below W.heap.size W w') := fun W => rwindow_any m.k m.b m.s m.c m.e wo W (by omega)
            obtain ⟨v1, hv1⟩ : ∃ v1, v1 = m.win wt := ⟨_, rfl⟩
            obtain ⟨v2, hv2⟩ : ∃ v2, v2 = m.win wo := ⟨_, rfl⟩
            rw [← hv1] at HI1
            rw [← hv2] at HI2
            have HNR : Hid (Nr (entP m now i o) (entP m now k t) ↔ dist (rt t.r) (rt o.r) ≤ min v1 v2) := by rw [hv1, hv2, hwt, hwo]; exact Iff.rfl
            obtain ⟨q, hq⟩ : ∃ q, q = decide (dist (rt t.r) (rt o.r) ≤ min v1 v2) := ⟨_, rfl⟩
            have HNE : Hid (∀ W, Calls Try.prog 23 #[.int .i64 t.r, .int .i64 v1, .int .i64 o.r, .int .i64 v2] W fun r w' => r = .returned (.bool q) ∧ Below W.heap.size W w') := fun W => (near_any t.r v1 o.r v2 W).mono fun r w' h => ⟨by rw [hq]; exact h.1, by rw [h.2]; exact Below.refl _ _⟩
            have HQ := Lib.hid hq
            have HKN : Hid (k < n ∧ i < n) := ⟨hlt, by omega⟩
            clear ho ha1 hb1 d0' d1' d2' d3' d4' e0' e1' e2' e3' e4' hwt hwo hv1 hv2 hq hwb1 hwb2
            go_upto_region 9 with (fail)
            have HD : Hid (Below wr.heap.size wr wr.drew) := HBS.out.drew
            refine wp_region_held_drew (S := fun W : World => W.cell? ⟨b1, o1 + k * 5 + 3, none⟩ = some (.int .i64 t.r) ∧ W.cell? ⟨b1, o1 + k * 5 + 4, none⟩ = some (.int .i64 t.s) ∧ W.cell? ⟨b1, o1 + i * 5 + 3, none⟩ = some (.int .i64 o.r) ∧ W.cell? ⟨b1, o1 + i * 5 + 4, none⟩ = some (.int .i64 o.s) ∧ W.cell? ⟨w.heap.size, 0, none⟩ = some (.int .i64 m.k) ∧ W.cell? ⟨w.heap.size, 1, none⟩ = some (.int .i64 m.b) ∧ W.cell? ⟨w.heap.size, 2, none⟩ = some (.int .i64 m.s) ∧ W.cell? ⟨w.heap.size, 3, none⟩ = some (.int .i64 m.c) ∧ W.cell? ⟨w.heap.size, 4, none⟩ = some (.int .i64 m.e)) (by kernel_rfl) (HCF.out _ (HD.out)) (fun hHeld => ?_)
            obtain ⟨W0, hW0⟩ : ∃ W0, W0 = wr.drew := ⟨_, rfl⟩
            rw [← hW0] at hHeld HD ⊢
            clear hW0
            refine wpAnyH_take (i := 0) (oi := ?oi0) (v := ?v0) ?hi0 ?hs0 ?hf0 ?hr0 ?hQ0 ?hy0 ?hS0 ?h0
            case hi0 => exact (by simp only [List.getElem?_toArray, List.getElem?_cons_zero]; rfl)
            case hs0 => kernel_rfl
            case hf0 => kernel_rfl
            case hr0 => kernel_rfl
            case hQ0 => exact fun _ _ _ h => h
            case hy0 =>
              refine Or.inl ⟨rfl, ?_⟩
              intro W hSw
              obtain ⟨y0, y1, y2, y3, y4, y5, y6, y7, y8⟩ := hSw
              have z1 := HKN.out.1
              have z2 := HKN.out.2
              go_simp
              try with_reducible rfl
            case hS0 => assumption
            try simp only [Act.put, List.setIfInBounds_toArray, List.set_cons_zero, List.set_cons_succ]
            refine wpAnyH_take (i := 1) (oi := ?oi1) (v := ?v1) ?hi1 ?hs1 ?hf1 ?hr1 ?hQ1 ?hy1 ?hS1 ?h1
            case hi1 => exact (by simp only [List.getElem?_toArray, List.getElem?_cons_succ, List.getElem?_cons_zero]; rfl)
            case hs1 => kernel_rfl
            case hf1 => kernel_rfl
            case hr1 => kernel_rfl
            case hQ1 => exact fun _ _ _ h => h
            case hy1 =>
              refine Or.inl ⟨rfl, ?_⟩
              intro W hSw
              obtain ⟨y0, y1, y2, y3, y4, y5, y6, y7, y8⟩ := hSw
              have z1 := HKN.out.1
              have z2 := HKN.out.2
              go_simp
              try with_reducible rfl
            case hS1 => assumption
            try simp only [Act.put, List.setIfInBounds_toArray, List.set_cons_zero, List.set_cons_succ]
            refine wpAnyH_take (i := 2) (oi := ?oi2) (v := ?v2) ?hi2 ?hs2 ?hf2 ?hr2 ?hQ2 ?hy2 ?hS2 ?h2
            case hi2 => exact (by simp only [List.getElem?_toArray, List.getElem?_cons_succ, List.getElem?_cons_zero]; rfl)
            case hs2 => kernel_rfl
            case hf2 => kernel_rfl
            case hr2 => kernel_rfl
            case hQ2 => exact fun _ _ _ h => h
            case hy2 =>
              refine Or.inl ⟨rfl, ?_⟩
              intro W hSw
              obtain ⟨y0, y1, y2, y3, y4, y5, y6, y7, y8⟩ := hSw
              have z1 := HKN.out.1
              have z2 := HKN.out.2
              go_simp
              try with_reducible rfl
            case hS2 => assumption
            try simp only [Act.put, List.setIfInBounds_toArray, List.set_cons_zero, List.set_cons_succ]
            refine wpAnyH_take (i := 3) (oi := ?oi3) (v := ?v3) ?hi3 ?hs3 ?hf3 ?hr3 ?hQ3 ?hy3 ?hS3 ?h3
            case hi3 => exact (by simp only [List.getElem?_toArray, List.getElem?_cons_succ, List.getElem?_cons_zero]; rfl)
            case hs3 => kernel_rfl
            case hf3 => kernel_rfl
            case hr3 => kernel_rfl
            case hQ3 => exact fun _ _ _ h => h
            case hy3 =>
              refine Or.inl ⟨rfl, ?_⟩
              intro W hSw
              obtain ⟨y0, y1, y2, y3, y4, y5, y6, y7, y8⟩ := hSw
              have z1 := HKN.out.1
              have z2 := HKN.out.2
              go_simp
              try with_reducible rfl
            case hS3 => assumption
            try simp only [Act.put, List.setIfInBounds_toArray, List.set_cons_zero, List.set_cons_succ]
            refine wpAnyH_take (i := 4) (oi := ?oi4) (v := ?v4) ?hi4 ?hs4 ?hf4 ?hr4 ?hQ4 ?hy4 ?hS4 ?h4
            case hi4 => exact (by simp only [List.getElem?_toArray, List.getElem?_cons_succ, List.getElem?_cons_zero]; rfl)
            case hs4 => kernel_rfl
            case hf4 => kernel_rfl
            case hr4 => kernel_rfl
            case hQ4 => exact fun _ _ _ h => h
            case hy4 =>
              refine Or.inl ⟨rfl, ?_⟩
              intro W hSw
              obtain ⟨y0, y1, y2, y3, y4, y5, y6, y7, y8⟩ := hSw
              have z1 := HKN.out.1
              have z2 := HKN.out.2
              go_simp
              try with_reducible rfl
            case hS4 => assumption
            try simp only [Act.put, List.setIfInBounds_toArray, List.set_cons_zero, List.set_cons_succ]
            refine wpAnyH_take (i := 5) (oi := ?oi5) (v := ?v5) ?hi5 ?hs5 ?hf5 ?hr5 ?hQ5 ?hy5 ?hS5 ?h5
            case hi5 => exact (by simp only [List.getElem?_toArray, List.getElem?_cons_succ, List.getElem?_cons_zero]; rfl)
            case hs5 => kernel_rfl
            case hf5 => kernel_rfl
            case hr5 => kernel_rfl
            case hQ5 => exact fun _ _ _ h => h
            case hy5 =>
              refine Or.inl ⟨rfl, ?_⟩
              intro W hSw
              obtain ⟨y0, y1, y2, y3, y4, y5, y6, y7, y8⟩ := hSw
              have z1 := HKN.out.1
              have z2 := HKN.out.2
              go_simp
              try with_reducible rfl
            case hS5 => assumption
            try simp only [Act.put, List.setIfInBounds_toArray, List.set_cons_zero, List.set_cons_succ]
            refine wpAnyH_take (i := 6) (oi := ?oi6) (v := ?v6) ?hi6 ?hs6 ?hf6 ?hr6 ?hQ6 ?hy6 ?hS6 ?h6
            case hi6 => exact (by simp only [List.getElem?_toArray, List.getElem?_cons_succ, List.getElem?_cons_zero]; rfl)
            case hs6 => kernel_rfl
            case hf6 => kernel_rfl
            case hr6 => kernel_rfl
            case hQ6 => exact fun _ _ _ h => h
            case hy6 =>
              refine Or.inl ⟨rfl, ?_⟩
              intro W hSw
              obtain ⟨y0, y1, y2, y3, y4, y5, y6, y7, y8⟩ := hSw
              have z1 := HKN.out.1
              have z2 := HKN.out.2
              go_simp
              try with_reducible rfl
            case hS6 => assumption
            try simp only [Act.put, List.setIfInBounds_toArray, List.set_cons_zero, List.set_cons_succ]
            refine wpAnyH_take (i := 7) (oi := ?oi7) (v := ?v7) ?hi7 ?hs7 ?hf7 ?hr7 ?hQ7 ?hy7 ?hS7 ?h7
            case hi7 => exact (by simp only [List.getElem?_toArray, List.getElem?_cons_succ, List.getElem?_cons_zero]; rfl)
            case hs7 => kernel_rfl
            case hf7 => kernel_rfl
            case hr7 => kernel_rfl
            case hQ7 => exact fun _ _ _ h => h
            case hy7 =>
              refine Or.inl ⟨rfl, ?_⟩
              intro W hSw
              obtain ⟨y0, y1, y2, y3, y4, y5, y6, y7, y8⟩ := hSw
              have z1 := HKN.out.1
              have z2 := HKN.out.2
              go_simp
              try with_reducible rfl
            case hS7 => assumption
            try simp only [Act.put, List.setIfInBounds_toArray, List.set_cons_zero, List.set_cons_succ]
            refine wpAnyH_take (i := 8) (oi := ?oi8) (v := ?v8) ?hi8 ?hs8 ?hf8 ?hr8 ?hQ8 ?hy8 ?hS8 ?h8
            case hi8 => exact (by simp only [List.getElem?_toArray, List.getElem?_cons_succ, List.getElem?_cons_zero]; rfl)
            case hs8 => kernel_rfl
            case hf8 => kernel_rfl
            case hr8 => kernel_rfl
            case hQ8 => exact fun _ _ _ h => h
            case hy8 =>
              refine Or.inl ⟨rfl, ?_⟩
              intro W hSw
              obtain ⟨y0, y1, y2, y3, y4, y5, y6, y7, y8⟩ := hSw
              have z1 := HKN.out.1
              have z2 := HKN.out.2
              go_simp
              try with_reducible rfl
            case hS8 => assumption
            try simp only [Act.put, List.setIfInBounds_toArray, List.set_cons_zero, List.set_cons_succ]
            refine wpAnyH_take (i := 9) (oi := ?oi9) (v := ?v9) ?hi9 ?hs9 ?hf9 ?hr9 ?hQ9 ?hy9 ?hS9 ?h9
            case hi9 => exact (by simp only [List.getElem?_toArray, List.getElem?_cons_succ, List.getElem?_cons_zero]; rfl)
            case hs9 => kernel_rfl
            case hf9 => kernel_rfl
            case hr9 => kernel_rfl
            case hQ9 => exact fun _ _ _ h => h
            case hy9 =>
              refine Or.inl ⟨rfl, ?_⟩
              intro W hSw
              obtain ⟨y0, y1, y2, y3, y4, y5, y6, y7, y8⟩ := hSw
              have z1 := HKN.out.1
              have z2 := HKN.out.2
              go_simp
              try with_reducible rfl
            case hS9 => assumption
            try simp only [Act.put, List.setIfInBounds_toArray, List.set_cons_zero, List.set_cons_succ]
            refine wpAnyH_take (i := 10) (oi := ?oi10) (v := ?v10) ?hi10 ?hs10 ?hf10 ?hr10 ?hQ10 ?hy10 ?hS10 ?h10
            case hi10 => exact (by simp only [List.getElem?_toArray, List.getElem?_cons_succ, List.getElem?_cons_zero]; rfl)
            case hs10 => kernel_rfl
            case hf10 => kernel_rfl
            case hr10 => kernel_rfl
            case hQ10 => exact fun _ _ _ h => h
            case hy10 =>
              refine Or.inl ⟨rfl, ?_⟩
              intro W hSw
              obtain ⟨y0, y1, y2, y3, y4, y5, y6, y7, y8⟩ := hSw
              have z1 := HKN.out.1
              have z2 := HKN.out.2
              go_simp
              try with_reducible rfl
            case hS10 => assumption
            try simp only [Act.put, List.setIfInBounds_toArray, List.set_cons_zero, List.set_cons_succ]
            refine wpAnyH_take (i := 11) (oi := ?oi11) (v := ?v11) ?hi11 ?hs11 ?hf11 ?hr11 ?hQ11 ?hy11 ?hS11 ?h11
            case hi11 => exact (by simp only [List.getElem?_toArray, List.getElem?_cons_succ, List.getElem?_cons_zero]; rfl)
            case hs11 => kernel_rfl
            case hf11 => kernel_rfl
            case hr11 => kernel_rfl
            case hQ11 => exact fun _ _ _ h => h
            case hy11 =>
              refine Or.inl ⟨rfl, ?_⟩
              intro W hSw
              obtain ⟨y0, y1, y2, y3, y4, y5, y6, y7, y8⟩ := hSw
              have z1 := HKN.out.1
              have z2 := HKN.out.2
              go_simp
              try with_reducible rfl
            case hS11 => assumption
            try simp only [Act.put, List.setIfInBounds_toArray, List.set_cons_zero, List.set_cons_succ]
            refine wpAnyH_take (i := 14) (oi := ?oi14) (v := ?v14) ?hi14 ?hs14 ?hf14 ?hr14 ?hQ14 ?hy14 ?hS14 ?h14
            case hi14 => exact (by simp only [List.getElem?_toArray, List.getElem?_cons_succ, List.getElem?_cons_zero]; rfl)
            case hs14 => kernel_rfl
            case hf14 => kernel_rfl
            case hr14 => kernel_rfl
            case hQ14 => exact fun _ _ _ h => h
            case hy14 =>
              refine Or.inl ⟨rfl, ?_⟩
              intro W hSw
              obtain ⟨y0, y1, y2, y3, y4, y5, y6, y7, y8⟩ := hSw
              have z1 := HKN.out.1
              have z2 := HKN.out.2
              go_simp
              try with_reducible rfl
            case hS14 => assumption
            try simp only [Act.put, List.setIfInBounds_toArray, List.set_cons_zero, List.set_cons_succ]
            refine wpAnyH_take (i := 15) (oi := ?oi15) (v := ?v15) ?hi15 ?hs15 ?hf15 ?hr15 ?hQ15 ?hy15 ?hS15 ?h15
            case hi15 => exact (by simp only [List.getElem?_toArray, List.getElem?_cons_succ, List.getElem?_cons_zero]; rfl)
            case hs15 => kernel_rfl
            case hf15 => kernel_rfl
            case hr15 => kernel_rfl
            case hQ15 => exact fun _ _ _ h => h
            case hy15 =>
              refine Or.inl ⟨rfl, ?_⟩
              intro W hSw
              obtain ⟨y0, y1, y2, y3, y4, y5, y6, y7, y8⟩ := hSw
              have z1 := HKN.out.1
              have z2 := HKN.out.2
              go_simp
              try with_reducible rfl
            case hS15 => assumption
            try simp only [Act.put, List.setIfInBounds_toArray, List.set_cons_zero, List.set_cons_succ]
            refine wpAnyH_take (i := 16) (oi := ?oi16) (v := ?v16) ?hi16 ?hs16 ?hf16 ?hr16 ?hQ16 ?hy16 ?hS16 ?h16
            case hi16 => exact (by simp only [List.getElem?_toArray, List.getElem?_cons_succ, List.getElem?_cons_zero]; rfl)
            case hs16 => kernel_rfl
            case hf16 => kernel_rfl
            case hr16 => kernel_rfl
            case hQ16 => exact fun _ _ _ h => h
            case hy16 =>
              refine Or.inl ⟨rfl, ?_⟩
              intro W hSw
              obtain ⟨y0, y1, y2, y3, y4, y5, y6, y7, y8⟩ := hSw
              have z1 := HKN.out.1
              have z2 := HKN.out.2
              go_simp
              try with_reducible rfl
            case hS16 => assumption
            try simp only [Act.put, List.setIfInBounds_toArray, List.set_cons_zero, List.set_cons_succ]
            refine wpAnyH_take (i := 17) (oi := ?oi17) (v := ?v17) ?hi17 ?hs17 ?hf17 ?hr17 ?hQ17 ?hy17 ?hS17 ?h17
            case hi17 => exact (by simp only [List.getElem?_toArray, List.getElem?_cons_succ, List.getElem?_cons_zero]; rfl)
            case hs17 => kernel_rfl
            case hf17 => kernel_rfl
            case hr17 => kernel_rfl
            case hQ17 => exact fun _ _ _ h => h
            case hy17 =>
              refine Or.inl ⟨rfl, ?_⟩
              intro W hSw
              obtain ⟨y0, y1, y2, y3, y4, y5, y6, y7, y8⟩ := hSw
              have z1 := HKN.out.1
              have z2 := HKN.out.2
              go_simp
              try with_reducible rfl
            case hS17 => assumption
            try simp only [Act.put, List.setIfInBounds_toArray, List.set_cons_zero, List.set_cons_succ]
            refine wpAnyH_take (i := 18) (oi := ?oi18) (v := ?v18) ?hi18 ?hs18 ?hf18 ?hr18 ?hQ18 ?hy18 ?hS18 ?h18
            case hi18 => exact (by simp only [List.getElem?_toArray, List.getElem?_cons_succ, List.getElem?_cons_zero]; rfl)
            case hs18 => kernel_rfl
            case hf18 => kernel_rfl
            case hr18 => kernel_rfl
            case hQ18 => exact fun _ _ _ h => h
            case hy18 =>
              refine Or.inl ⟨rfl, ?_⟩
              intro W hSw
              obtain ⟨y0, y1, y2, y3, y4, y5, y6, y7, y8⟩ := hSw
              have z1 := HKN.out.1
              have z2 := HKN.out.2
              go_simp
              try with_reducible rfl
            case hS18 => assumption
            try simp only [Act.put, List.setIfInBounds_toArray, List.set_cons_zero, List.set_cons_succ]
            refine wpAnyH_take (i := 19) (oi := ?oi19) (v := ?v19) ?hi19 ?hs19 ?hf19 ?hr19 ?hQ19 ?hy19 ?hS19 ?h19
            case hi19 => exact (by simp only [List.getElem?_toArray, List.getElem?_cons_succ, List.getElem?_cons_zero]; rfl)
            case hs19 => kernel_rfl
            case hf19 => kernel_rfl
            case hr19 => kernel_rfl
            case hQ19 => exact fun _ _ _ h => h
            case hy19 =>
              refine Or.inl ⟨rfl, ?_⟩
              intro W hSw
              obtain ⟨y0, y1, y2, y3, y4, y5, y6, y7, y8⟩ := hSw
              have z1 := HKN.out.1
              have z2 := HKN.out.2
              go_simp
              try with_reducible rfl
            case hS19 => assumption
            try simp only [Act.put, List.setIfInBounds_toArray, List.set_cons_zero, List.set_cons_succ]
            refine wpAnyH_take (i := 20) (oi := ?oi20) (v := ?v20) ?hi20 ?hs20 ?hf20 ?hr20 ?hQ20 ?hy20 ?hS20 ?h20
            case hi20 => exact (by simp only [List.getElem?_toArray, List.getElem?_cons_succ, List.getElem?_cons_zero]; rfl)
            case hs20 => kernel_rfl
            case hf20 => kernel_rfl
            case hr20 => kernel_rfl
            case hQ20 => exact fun _ _ _ h => h
            case hy20 =>
              refine Or.inl ⟨rfl, ?_⟩
              intro W hSw
              obtain ⟨y0, y1, y2, y3, y4, y5, y6, y7, y8⟩ := hSw
              have z1 := HKN.out.1
              have z2 := HKN.out.2
              go_simp
              try with_reducible rfl
            case hS20 => assumption
            try simp only [Act.put, List.setIfInBounds_toArray, List.set_cons_zero, List.set_cons_succ]
            refine wpAnyH_take (i := 21) (oi := ?oi21) (v := ?v21) ?hi21 ?hs21 ?hf21 ?hr21 ?hQ21 ?hy21 ?hS21 ?h21
            case hi21 => exact (by simp only [List.getElem?_toArray, List.getElem?_cons_succ, List.getElem?_cons_zero]; rfl)
            case hs21 => kernel_rfl
            case hf21 => kernel_rfl
            case hr21 => kernel_rfl
            case hQ21 => exact fun _ _ _ h => h
            case hy21 =>
              refine Or.inl ⟨rfl, ?_⟩
              intro W hSw
              obtain ⟨y0, y1, y2, y3, y4, y5, y6, y7, y8⟩ := hSw
              have z1 := HKN.out.1
              have z2 := HKN.out.2
              go_simp
              try with_reducible rfl
            case hS21 => assumption
            try simp only [Act.put, List.setIfInBounds_toArray, List.set_cons_zero, List.set_cons_succ]
            refine wpAnyH_take (i := 22) (oi := ?oi22) (v := ?v22) ?hi22 ?hs22 ?hf22 ?hr22 ?hQ22 ?hy22 ?hS22 ?h22
            case hi22 => exact (by simp only [List.getElem?_toArray, List.getElem?_cons_succ, List.getElem?_cons_zero]; rfl)
            case hs22 => kernel_rfl
            case hf22 => kernel_rfl
            case hr22 => kernel_rfl
            case hQ22 => exact fun _ _ _ h => h
            case hy22 =>
              refine Or.inl ⟨rfl, ?_⟩
              intro W hSw
              obtain ⟨y0, y1, y2, y3, y4, y5, y6, y7, y8⟩ := hSw
              have z1 := HKN.out.1
              have z2 := HKN.out.2
              go_simp
              try with_reducible rfl
            case hS22 => assumption
            try simp only [Act.put, List.setIfInBounds_toArray, List.set_cons_zero, List.set_cons_succ]
            refine wpAnyH_take (i := 23) (oi := ?oi23) (v := ?v23) ?hi23 ?hs23 ?hf23 ?hr23 ?hQ23 ?hy23 ?hS23 ?h23
            case hi23 => exact (by simp only [List.getElem?_toArray, List.getElem?_cons_succ, List.getElem?_cons_zero]; rfl)
            case hs23 => kernel_rfl
            case hf23 => kernel_rfl
            case hr23 => kernel_rfl
            case hQ23 => exact fun _ _ _ h => h
            case hy23 =>
              refine Or.inl ⟨rfl, ?_⟩
              intro W hSw
              obtain ⟨y0, y1, y2, y3, y4, y5, y6, y7, y8⟩ := hSw
              have z1 := HKN.out.1
              have z2 := HKN.out.2
              go_simp
              try with_reducible rfl
            case hS23 => assumption
            try simp only [Act.put, List.setIfInBounds_toArray, List.set_cons_zero, List.set_cons_succ]
            refine wpAnyH_take (i := 24) (oi := ?oi24) (v := ?v24) ?hi24 ?hs24 ?hf24 ?hr24 ?hQ24 ?hy24 ?hS24 ?h24
            case hi24 => exact (by simp only [List.getElem?_toArray, List.getElem?_cons_succ, List.getElem?_cons_zero]; rfl)
            case hs24 => kernel_rfl
            case hf24 => kernel_rfl
            case hr24 => kernel_rfl
            case hQ24 => exact fun _ _ _ h => h
            case hy24 =>
              refine Or.inl ⟨rfl, ?_⟩
              intro W hSw
              obtain ⟨y0, y1, y2, y3, y4, y5, y6, y7, y8⟩ := hSw
              have z1 := HKN.out.1
              have z2 := HKN.out.2
              go_simp
              try with_reducible rfl
            case hS24 => assumption
            try simp only [Act.put, List.setIfInBounds_toArray, List.set_cons_zero, List.set_cons_succ]
            refine wpAnyH_take (i := 25) (oi := ?oi25) (v := ?v25) ?hi25 ?hs25 ?hf25 ?hr25 ?hQ25 ?hy25 ?hS25 ?h25
            case hi25 => exact (by simp only [List.getElem?_toArray, List.getElem?_cons_succ, List.getElem?_cons_zero]; rfl)
            case hs25 => kernel_rfl
            case hf25 => kernel_rfl
            case hr25 => kernel_rfl
            case hQ25 => exact fun _ _ _ h => h
            case hy25 =>
              refine Or.inl ⟨rfl, ?_⟩
              intro W hSw
              obtain ⟨y0, y1, y2, y3, y4, y5, y6, y7, y8⟩ := hSw
              have z1 := HKN.out.1
              have z2 := HKN.out.2
              go_simp
              try with_reducible rfl
            case hS25 => assumption
            try simp only [Act.put, List.setIfInBounds_toArray, List.set_cons_zero, List.set_cons_succ]
            refine wpAnyH_ready (rs := [12]) (by kernel_rfl) (by simp) ?_
            refine AllReadyH.cons (o := _) rfl (fun K hK => ?_) AllReadyH.nil
            go_simp
            refine (HW1.out W0).mono ?_
            rintro r W1 ⟨rfl, hbq⟩
            have HB1 := Lib.hid (HD.out.trans (hbq.mono HD.out.size))
            clear hbq
            refine hK.out _ _ (HCF.out _ (HB1.out)) (fun hHeld => ?_)
            clear hK K
            try simp only [Act.put, List.setIfInBounds_toArray, List.set_cons_zero, List.set_cons_succ]
            refine wpAnyH_ready (rs := [13]) (by kernel_rfl) (by simp) ?_
            refine AllReadyH.cons (o := _) rfl (fun K hK => ?_) AllReadyH.nil
            go_simp
            refine (HI1.out W1).mono ?_
            rintro r W2 ⟨rfl, hbq⟩
            have HB2 := Lib.hid (HB1.out.trans (hbq.mono HB1.out.size))
            clear hbq
            refine hK.out _ _ (HCF.out _ (HB2.out)) (fun hHeld => ?_)
            clear hK K
            try simp only [Act.put, List.setIfInBounds_toArray, List.set_cons_zero, List.set_cons_succ]
            refine wpAnyH_ready (rs := [26]) (by kernel_rfl) (by simp) ?_
            refine AllReadyH.cons (o := _) rfl (fun K hK => ?_) AllReadyH.nil
            go_simp
            refine (HW2.out W2).mono ?_
            rintro r W3 ⟨rfl, hbq⟩
            have HB3 := Lib.hid (HB2.out.trans (hbq.mono HB2.out.size))
            clear hbq
            refine hK.out _ _ (HCF.out _ (HB3.out)) (fun hHeld => ?_)
            clear hK K
            try simp only [Act.put, List.setIfInBounds_toArray, List.set_cons_zero, List.set_cons_succ]
            refine wpAnyH_ready (rs := [27]) (by kernel_rfl) (by simp) ?_
            refine AllReadyH.cons (o := _) rfl (fun K hK => ?_) AllReadyH.nil
            go_simp
            refine (HI2.out W3).mono ?_
            rintro r W4 ⟨rfl, hbq⟩
            have HB4 := Lib.hid (HB3.out.trans (hbq.mono HB3.out.size))
            clear hbq
            refine hK.out _ _ (HCF.out _ (HB4.out)) (fun hHeld => ?_)
            clear hK K
            try simp only [Act.put, List.setIfInBounds_toArray, List.set_cons_zero, List.set_cons_succ]
            refine wpAnyH_ready (rs := [28]) (by kernel_rfl) (by simp) ?_
            refine AllReadyH.cons (o := _) rfl (fun K hK => ?_) AllReadyH.nil
            go_simp
            refine (HNE.out W4).mono ?_
            rintro r W5 ⟨rfl, hbq⟩
            have HB5 := Lib.hid (HB4.out.trans (hbq.mono HB4.out.size))
            clear hbq
            refine hK.out _ _ (HCF.out _ (HB5.out)) (fun hHeld => ?_)
            clear hK K
            try simp only [Act.put, List.setIfInBounds_toArray, List.set_cons_zero, List.set_cons_succ]
            refine wpAnyH_take (i := 29) (oi := ?oi29) (v := ?v29) ?hi29 ?hs29 ?hf29 ?hr29 ?hQ29 ?hy29 ?hS29 ?h29
            case hi29 => exact (by simp only [List.getElem?_toArray, List.getElem?_cons_succ, List.getElem?_cons_zero]; rfl)
            case hs29 => kernel_rfl
            case hf29 => kernel_rfl
            case hr29 => kernel_rfl
            case hQ29 => exact fun _ _ _ h => h
            case hy29 =>
              refine Or.inl ⟨rfl, ?_⟩
              intro W hSw
              obtain ⟨y0, y1, y2, y3, y4, y5, y6, y7, y8⟩ := hSw
              have z1 := HKN.out.1
              have z2 := HKN.out.2
              go_simp
              try with_reducible rfl
            case hS29 => assumption
            try simp only [Act.put, List.setIfInBounds_toArray, List.set_cons_zero, List.set_cons_succ]
            refine wpAnyH_done (by kernel_rfl) ?_ _
            cases q
            · have HNF : Hid (¬ Fit (entsP m now l)) := by
                intro h
                have h1 : Fit ((entsP m now l).take (k + 1)) := List.Pairwise.sublist (List.take_sublist _ _) h
                rw [HTK.out, fit_snoc] at h1
                have h2 := HNR.out.1 (h1.2 _ HME.out)
                have h3 := HQ.out.symm
                rw [decide_eq_false_iff_not] at h3
                exact h3 h2
              go_wp2
              go_ret
              exact ⟨⟨false, rfl, by simpa using fun _ => HNF.out⟩, HB0.out.trans ((HI.out.2.trans (HB5.out.mono HI.out.2.size)).mono HB0.out.size)⟩
            · have HNY : Hid (Nr (entP m now i o) (entP m now k t)) := HNR.out.2 (of_decide_eq_true HQ.out.symm)
              go_wp2
              go_roundw
              case rel => exact ⟨i + 1, by omega, by go_num, fun x hx => by
                rw [HT2.out] at hx
                rcases List.mem_append.1 hx with h | h
                · exact HI.out.1 x h
                · simp at h
                  subst h
                  exact HNY.out, HI.out.2.trans (HB5.out.mono HI.out.2.size)⟩
              case measure => simp [intOf] <;> omega
          · have hik : i = k := by omega
            subst hik
            go_wp2_with fail
            go_roundw
            case rel => exact ⟨i + 1, by omega, by go_num, by rw [HTK.out, fit_snoc]; exact ⟨HV.out.1, HI.out.1⟩, HI.out.2⟩
            case measure => simp [intOf] <;> omega
      · have hkn : k = n := by omega
        subst hkn
        have HF : Hid (Fit (entsP m now l)) := by
          have h := HV.out.1
          rw [List.take_of_length_le (by rw [entsP_len, ← HN.out]; omega)] at h
          exact h
        go_wp2
        go_ret
        exact ⟨⟨true, rfl, ⟨fun _ => ⟨HMW.out, HF.out⟩, fun _ => rfl⟩⟩, HB0.out.trans (HV.out.2.mono HB0.out.size)⟩
  · have hef : mw.isEmpty = false := by simpa using he
    have HMW : Hid (¬ mw = []) := fun h => he (List.isEmpty_iff.2 h)
    go_enter Try.func15, Try.ntmps15
    go_upto_region 1 with (fail)
    rw [← H0.out]
    go_wp2_with fail
    refine (HWR.out w0).mono ?_
    rintro r w1 ⟨rfl, hb⟩
    have HB1 := Lib.hid (HB0.out.trans (hb.mono HB0.out.size))
    clear hb
    go_wp2
    go_ret
    exact ⟨⟨false, rfl, ⟨fun h => (by cases h), fun h => absurd h.1 HMW.out⟩⟩, HB1.out⟩
end Go.Proofs.Ytnloikdfbdpilaa
