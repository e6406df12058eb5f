/- Draft: DraftFits' walk. -/
import Derived.Test.YtnloikdfbdpilaaDJ
namespace Go.Proofs.Ytnloikdfbdpilaa
open Go.RowKit
set_option maxRecDepth 20000
set_option linter.unusedVariables false

theorem mo_any (m : Mo) (w : World) : Calls Try.prog 13 #[m.v] w fun r w' => r = .returned m.v ∧ Below w.heap.size w w' := mode_any m.k m.b m.s m.c m.e w
theorem bool_eq {t : Bool} {p : Prop} [Decidable p] (h : t = true ↔ p) : t = decide p := by
  cases t
  · exact (decide_eq_false fun hp => by have := h.2 hp; cases this).symm
  · exact (decide_eq_true (h.1 rfl)).symm

set_option linter.unusedSimpArgs false in
set_option maxHeartbeats 8000000 in
theorem fits_walk (m : Mo) (now : Int) (A : Option Addr) (c : Nat) (l : List Tk) (w : World) (hnow : In64 now) (hE : Tr w w.heap.size A l) (hl : l.length ≤ 9223372036854775807) (hs : ∀ t ∈ l, In64 t.r ∧ In64 t.s) :
    Calls Try.prog 3 #[m.v, .int .i64 now, .slice A l.length c] w fun r w' => r = .returned (.bool true) ∧ Below w.heap.size w w' := by
  obtain ⟨w0, hw0⟩ : ∃ w0, w0 = w.alloc (.cells m.cells 23) := ⟨_, rfl⟩
  have hb0 : Below w.heap.size w w0 := by rw [hw0]; exact (Below.refl _ _).alloc (Nat.le_refl _) _
  have hq0 : w0.heap[w.heap.size]? = some (.cells m.cells 23 (0, 0)) := by rw [hw0]; exact heap_alloc_new w _
  have HCE : Hid (∀ W, Below w0.heap.size w0 W → W.cell? ⟨w.heap.size, 0, none⟩ = some (.int .i64 m.k) ∧ W.cell? ⟨w.heap.size, 1, none⟩ = some (.int .i64 m.b) ∧ W.cell? ⟨w.heap.size, 2, none⟩ = some (.int .i64 m.s) ∧ W.cell? ⟨w.heap.size, 3, none⟩ = some (.int .i64 m.c) ∧ W.cell? ⟨w.heap.size, 4, none⟩ = some (.int .i64 m.e)) := fun W hW => by
    have e2 := (hW.block _ (lt_of_block hq0)).trans hq0
    exact ⟨cell_of_row W _ 0 _ _ _ e2, cell_of_row W _ 1 _ _ _ e2, cell_of_row W _ 2 _ _ _ e2, cell_of_row W _ 3 _ _ _ e2, cell_of_row W _ 4 _ _ _ e2⟩
  obtain ⟨n, hn⟩ : ∃ n, n = l.length := ⟨_, rfl⟩
  have HE0 := Lib.hid (hE.later hb0 (Nat.le_refl _))
  have H0 := Lib.hid hw0
  have HB0 := Lib.hid hb0
  have HN := Lib.hid hn
  have HS := Lib.hid hs
  have HNOW := Lib.hid hnow
  rw [← hn] at hl ⊢
  clear hw0 hb0 hq0 hn hE hs hnow
  by_cases h20 : 20 < n
  · go_enter Try.func3, Try.ntmps3
    go_upto_region 1 with (fail)
    rw [← H0.out]
    go_wp2
    go_ret
    exact ⟨rfl, HB0.out⟩
  · have HSM := Lib.hid (small_any A n c l w0 HN.out HE0.out.ts (by omega))
    go_enter Try.func3, Try.ntmps3
    go_upto_region 1 with (fail)
    rw [← H0.out]
    go_wp2_with fail
    refine HSM.out.mono ?_
    rintro r w' ⟨⟨t, rfl, ht⟩, rfl⟩
    cases t
    · clear ht
      go_wp2
      go_ret
      exact ⟨rfl, HB0.out⟩
    · have HSN : Hid (Sm l) := fun t h => ⟨ht.1 rfl t h, (HS.out t h).2⟩
      clear ht
      go_wp2_with fail
      go_loopw [7] (fun u wr => ∃ k : Nat, k ≤ n ∧ u = .int .i64 (k : Int) ∧ Hid (Below w'.heap.size w' wr)) (fun u _ => n - (intOf u).toNat)
      case atStart => exact ⟨0, by omega, rfl, Below.refl _ _⟩
      case round =>
        obtain ⟨k, hk, rfl, HV⟩ := hrel
        by_cases hlt : k < n
        · obtain ⟨t, hy⟩ : ∃ t, l[k]? = some t := ⟨l[k]'(by rw [← HN.out]; exact hlt), List.getElem?_eq_getElem _⟩
          obtain ⟨b1, o1, rfl, hb1, ha1⟩ := HE0.out (by have := HN.out; omega)
          obtain ⟨x, y, P, cp, ⟨d0', d1', d2', d3', d4'⟩, -⟩ := ha1 k t hy
          have HST : Hid (In64 t.s) := (HS.out t (List.mem_of_getElem? hy)).2
          have HCF : Hid (∀ W, Below wr.heap.size wr W → W.cell? ⟨b1, o1 + k * 5 + 4, none⟩ = some (.int .i64 t.s)) := fun W hW => ((HV.out.trans (hW.mono HV.out.size)).cell (p := ⟨b1, _, none⟩) hb1).trans d4'
          have HBS : Hid (Below wr.heap.size wr wr) := Below.refl _ _
          have HW1 : Hid (∀ W, Calls Try.prog 10 #[.int .i64 now, .int .i64 t.s] W fun r w' => r = .returned (.int .i64 (waitP now t.s)) ∧ Below W.heap.size W w') := fun W => (wait_any now t.s W HNOW.out HST.out).mono fun r w' h => ⟨h.1, by rw [h.2]; exact Below.refl _ _⟩
          have HW2 : Hid (∀ W, Calls Try.prog 11 #[.int .i64 now, .int .i64 t.s] W fun r w' => r = .returned (.int .i64 (waitP now t.s)) ∧ Below W.heap.size W w') := fun W => (rwait_any now t.s W HNOW.out HST.out).mono fun r w' h => ⟨h.1, by rw [h.2]; exact Below.refl _ _⟩
          obtain ⟨wt, hwt⟩ : ∃ wt, wt = waitP now t.s := ⟨_, rfl⟩
          rw [← hwt] at HW1 HW2
          have HKN : Hid (k < n) := hlt
          clear hy ha1 hb1 d0' d1' d2' d3' d4' hwt
          go_upto_region 6 with (fail)
          have HDp : Hid (Below wr.heap.size wr wr.drew) := HBS.out.drew
          refine wp_region_held_drew (S := fun W : World => W.cell? ⟨b1, o1 + k * 5 + 4, none⟩ = some (.int .i64 t.s)) (by kernel_rfl) (HCF.out _ (HDp.out)) (fun hHeld => ?_)
          obtain ⟨Wp0, hW0⟩ : ∃ W0, W0 = wr.drew := ⟨_, rfl⟩
          rw [← hW0] at hHeld HDp ⊢
          clear hW0
          refine wpAnyH_take (i := 0) (oi := ?oi0p) (v := ?v0p) ?hi0p ?hs0p ?hf0p ?hr0p ?hQ0p ?hy0p ?hS0p ?h0p
          case hi0p => exact (by simp only [List.getElem?_toArray, List.getElem?_cons_zero]; rfl)
          case hs0p => kernel_rfl
          case hf0p => kernel_rfl
          case hr0p => kernel_rfl
          case hQ0p => exact fun _ _ _ h => h
          case hy0p =>
            refine Or.inl ⟨rfl, ?_⟩
            intro W hSw
            have z1 := HKN.out
            go_simp
            try with_reducible rfl
          case hS0p => assumption
          try simp only [Act.put, List.setIfInBounds_toArray, List.set_cons_zero, List.set_cons_succ]
          refine wpAnyH_take (i := 1) (oi := ?oi1p) (v := ?v1p) ?hi1p ?hs1p ?hf1p ?hr1p ?hQ1p ?hy1p ?hS1p ?h1p
          case hi1p => exact (by simp only [List.getElem?_toArray, List.getElem?_cons_succ, List.getElem?_cons_zero]; rfl)
          case hs1p => kernel_rfl
          case hf1p => kernel_rfl
          case hr1p => kernel_rfl
          case hQ1p => exact fun _ _ _ h => h
          case hy1p =>
            refine Or.inl ⟨rfl, ?_⟩
            intro W hSw
            have z1 := HKN.out
            go_simp
            try with_reducible rfl
          case hS1p => assumption
          try simp only [Act.put, List.setIfInBounds_toArray, List.set_cons_zero, List.set_cons_succ]
          refine wpAnyH_take (i := 2) (oi := ?oi2p) (v := ?v2p) ?hi2p ?hs2p ?hf2p ?hr2p ?hQ2p ?hy2p ?hS2p ?h2p
          case hi2p => exact (by simp only [List.getElem?_toArray, List.getElem?_cons_succ, List.getElem?_cons_zero]; rfl)
          case hs2p => kernel_rfl
          case hf2p => kernel_rfl
          case hr2p => kernel_rfl
          case hQ2p => exact fun _ _ _ h => h
          case hy2p =>
            refine Or.inl ⟨rfl, ?_⟩
            intro W hSw
            have z1 := HKN.out
            go_simp
            try with_reducible rfl
          case hS2p => assumption
          try simp only [Act.put, List.setIfInBounds_toArray, List.set_cons_zero, List.set_cons_succ]
          refine wpAnyH_take (i := 3) (oi := ?oi3p) (v := ?v3p) ?hi3p ?hs3p ?hf3p ?hr3p ?hQ3p ?hy3p ?hS3p ?h3p
          case hi3p => exact (by simp only [List.getElem?_toArray, List.getElem?_cons_succ, List.getElem?_cons_zero]; rfl)
          case hs3p => kernel_rfl
          case hf3p => kernel_rfl
          case hr3p => kernel_rfl
          case hQ3p => exact fun _ _ _ h => h
          case hy3p =>
            refine Or.inl ⟨rfl, ?_⟩
            intro W hSw
            have z1 := HKN.out
            go_simp
            try with_reducible rfl
          case hS3p => assumption
          try simp only [Act.put, List.setIfInBounds_toArray, List.set_cons_zero, List.set_cons_succ]
          refine wpAnyH_take (i := 4) (oi := ?oi4p) (v := ?v4p) ?hi4p ?hs4p ?hf4p ?hr4p ?hQ4p ?hy4p ?hS4p ?h4p
          case hi4p => exact (by simp only [List.getElem?_toArray, List.getElem?_cons_succ, List.getElem?_cons_zero]; rfl)
          case hs4p => kernel_rfl
          case hf4p => kernel_rfl
          case hr4p => kernel_rfl
          case hQ4p => exact fun _ _ _ h => h
          case hy4p =>
            refine Or.inl ⟨rfl, ?_⟩
            intro W hSw
            have z1 := HKN.out
            go_simp
            try with_reducible rfl
          case hS4p => assumption
          try simp only [Act.put, List.setIfInBounds_toArray, List.set_cons_zero, List.set_cons_succ]
          refine wpAnyH_take (i := 5) (oi := ?oi5p) (v := ?v5p) ?hi5p ?hs5p ?hf5p ?hr5p ?hQ5p ?hy5p ?hS5p ?h5p
          case hi5p => exact (by simp only [List.getElem?_toArray, List.getElem?_cons_succ, List.getElem?_cons_zero]; rfl)
          case hs5p => kernel_rfl
          case hf5p => kernel_rfl
          case hr5p => kernel_rfl
          case hQ5p => exact fun _ _ _ h => h
          case hy5p =>
            refine Or.inl ⟨rfl, ?_⟩
            intro W hSw
            have z1 := HKN.out
            go_simp
            try with_reducible rfl
          case hS5p => assumption
          try simp only [Act.put, List.setIfInBounds_toArray, List.set_cons_zero, List.set_cons_succ]
          refine wpAnyH_take (i := 7) (oi := ?oi7p) (v := ?v7p) ?hi7p ?hs7p ?hf7p ?hr7p ?hQ7p ?hy7p ?hS7p ?h7p
          case hi7p => exact (by simp only [List.getElem?_toArray, List.getElem?_cons_succ, List.getElem?_cons_zero]; rfl)
          case hs7p => kernel_rfl
          case hf7p => kernel_rfl
          case hr7p => kernel_rfl
          case hQ7p => exact fun _ _ _ h => h
          case hy7p =>
            refine Or.inl ⟨rfl, ?_⟩
            intro W hSw
            have z1 := HKN.out
            go_simp
            try with_reducible rfl
          case hS7p => assumption
          try simp only [Act.put, List.setIfInBounds_toArray, List.set_cons_zero, List.set_cons_succ]
          refine wpAnyH_take (i := 8) (oi := ?oi8p) (v := ?v8p) ?hi8p ?hs8p ?hf8p ?hr8p ?hQ8p ?hy8p ?hS8p ?h8p
          case hi8p => exact (by simp only [List.getElem?_toArray, List.getElem?_cons_succ, List.getElem?_cons_zero]; rfl)
          case hs8p => kernel_rfl
          case hf8p => kernel_rfl
          case hr8p => kernel_rfl
          case hQ8p => exact fun _ _ _ h => h
          case hy8p =>
            refine Or.inl ⟨rfl, ?_⟩
            intro W hSw
            have z1 := HKN.out
            go_simp
            try with_reducible rfl
          case hS8p => assumption
          try simp only [Act.put, List.setIfInBounds_toArray, List.set_cons_zero, List.set_cons_succ]
          refine wpAnyH_take (i := 9) (oi := ?oi9p) (v := ?v9p) ?hi9p ?hs9p ?hf9p ?hr9p ?hQ9p ?hy9p ?hS9p ?h9p
          case hi9p => exact (by simp only [List.getElem?_toArray, List.getElem?_cons_succ, List.getElem?_cons_zero]; rfl)
          case hs9p => kernel_rfl
          case hf9p => kernel_rfl
          case hr9p => kernel_rfl
          case hQ9p => exact fun _ _ _ h => h
          case hy9p =>
            refine Or.inl ⟨rfl, ?_⟩
            intro W hSw
            have z1 := HKN.out
            go_simp
            try with_reducible rfl
          case hS9p => assumption
          try simp only [Act.put, List.setIfInBounds_toArray, List.set_cons_zero, List.set_cons_succ]
          refine wpAnyH_take (i := 10) (oi := ?oi10p) (v := ?v10p) ?hi10p ?hs10p ?hf10p ?hr10p ?hQ10p ?hy10p ?hS10p ?h10p
          case hi10p => exact (by simp only [List.getElem?_toArray, List.getElem?_cons_succ, List.getElem?_cons_zero]; rfl)
          case hs10p => kernel_rfl
          case hf10p => kernel_rfl
          case hr10p => kernel_rfl
          case hQ10p => exact fun _ _ _ h => h
          case hy10p =>
            refine Or.inl ⟨rfl, ?_⟩
            intro W hSw
            have z1 := HKN.out
            go_simp
            try with_reducible rfl
          case hS10p => assumption
          try simp only [Act.put, List.setIfInBounds_toArray, List.set_cons_zero, List.set_cons_succ]
          refine wpAnyH_take (i := 11) (oi := ?oi11p) (v := ?v11p) ?hi11p ?hs11p ?hf11p ?hr11p ?hQ11p ?hy11p ?hS11p ?h11p
          case hi11p => exact (by simp only [List.getElem?_toArray, List.getElem?_cons_succ, List.getElem?_cons_zero]; rfl)
          case hs11p => kernel_rfl
          case hf11p => kernel_rfl
          case hr11p => kernel_rfl
          case hQ11p => exact fun _ _ _ h => h
          case hy11p =>
            refine Or.inl ⟨rfl, ?_⟩
            intro W hSw
            have z1 := HKN.out
            go_simp
            try with_reducible rfl
          case hS11p => assumption
          try simp only [Act.put, List.setIfInBounds_toArray, List.set_cons_zero, List.set_cons_succ]
          refine wpAnyH_take (i := 12) (oi := ?oi12p) (v := ?v12p) ?hi12p ?hs12p ?hf12p ?hr12p ?hQ12p ?hy12p ?hS12p ?h12p
          case hi12p => exact (by simp only [List.getElem?_toArray, List.getElem?_cons_succ, List.getElem?_cons_zero]; rfl)
          case hs12p => kernel_rfl
          case hf12p => kernel_rfl
          case hr12p => kernel_rfl
          case hQ12p => exact fun _ _ _ h => h
          case hy12p =>
            refine Or.inl ⟨rfl, ?_⟩
            intro W hSw
            have z1 := HKN.out
            go_simp
            try with_reducible rfl
          case hS12p => assumption
          try simp only [Act.put, List.setIfInBounds_toArray, List.set_cons_zero, List.set_cons_succ]
          refine wpAnyH_ready (rs := [6]) (by kernel_rfl) (by simp) ?_
          refine AllReadyH.cons (o := _) rfl (fun K hK => ?_) AllReadyH.nil
          go_simp
          refine (HW1.out Wp0).mono ?_
          rintro r Wp1 ⟨rfl, hbq⟩
          have HBp1 := Lib.hid (HDp.out.trans (hbq.mono HDp.out.size))
          clear hbq
          refine hK.out _ _ (HCF.out _ (HBp1.out)) (fun hHeld => ?_)
          clear hK K
          try simp only [Act.put, List.setIfInBounds_toArray, List.set_cons_zero, List.set_cons_succ]
          refine wpAnyH_ready (rs := [13]) (by kernel_rfl) (by simp) ?_
          refine AllReadyH.cons (o := _) rfl (fun K hK => ?_) AllReadyH.nil
          go_simp
          refine (HW2.out Wp1).mono ?_
          rintro r Wp2 ⟨rfl, hbq⟩
          have HBp2 := Lib.hid (HBp1.out.trans (hbq.mono HBp1.out.size))
          clear hbq
          refine hK.out _ _ (HCF.out _ (HBp2.out)) (fun hHeld => ?_)
          clear hK K
          try simp only [Act.put, List.setIfInBounds_toArray, List.set_cons_zero, List.set_cons_succ]
          refine wpAnyH_take (i := 14) (oi := ?oi14p) (v := (.bool false)) ?hi14p ?hs14p ?hf14p ?hr14p ?hQ14p ?hy14p ?hS14p ?h14p
          case hi14p => exact (by simp only [List.getElem?_toArray, List.getElem?_cons_succ, List.getElem?_cons_zero]; rfl)
          case hs14p => kernel_rfl
          case hf14p => kernel_rfl
          case hr14p => kernel_rfl
          case hQ14p => exact fun _ _ _ h => h
          case hy14p =>
            refine Or.inl ⟨rfl, ?_⟩
            intro W hSw
            have z1 := HKN.out
            go_simp
            try with_reducible rfl
          case hS14p => assumption
          try simp only [Act.put, List.setIfInBounds_toArray, List.set_cons_zero, List.set_cons_succ]
          refine wpAnyH_done (by kernel_rfl) ?_ _
          go_wp2
          go_roundw
          case rel => exact ⟨k + 1, by omega, by go_num, HV.out.trans (HBp2.out.mono HV.out.size)⟩
          case measure => simp [intOf] <;> omega
        · have hkn : k = n := by omega
          subst hkn
          have HBS : Hid (Below wr.heap.size wr wr) := Below.refl _ _
          have HCF : Hid (∀ W, Below wr.heap.size wr W → W.cell? ⟨w.heap.size, 0, none⟩ = some (.int .i64 m.k) ∧ W.cell? ⟨w.heap.size, 1, none⟩ = some (.int .i64 m.b) ∧ W.cell? ⟨w.heap.size, 2, none⟩ = some (.int .i64 m.s) ∧ W.cell? ⟨w.heap.size, 3, none⟩ = some (.int .i64 m.c) ∧ W.cell? ⟨w.heap.size, 4, none⟩ = some (.int .i64 m.e)) := fun W hW => HCE.out W (HV.out.trans (hW.mono HV.out.size))
          have HMO : Hid (∀ W, Calls Try.prog 13 #[m.v] W fun r w' => r = .returned m.v ∧ Below W.heap.size W w') := fun W => mo_any m W
          have HOW : Hid (∀ W, Below wr.heap.size wr W → Calls Try.prog 14 #[.slice A k c] W fun r w' => (∃ A' c', r = .returned (.slice A' k c') ∧ Ts w' w'.heap.size A' l) ∧ Below W.heap.size W w') := fun W hW =>
            own_any A k c l W HN.out (HE0.out.later (HV.out.trans (hW.mono HV.out.size)) (Nat.le_refl _)) (by omega) (fun t h => (HSN.out t h).1)
          obtain ⟨q, hq⟩ : ∃ q, q = decide (m.wr = [] ∧ Fit (entsP m now l)) := ⟨_, rfl⟩
          have HFI : Hid (∀ W A' c', Ts W W.heap.size A' l → Calls Try.prog 12 #[m.v, .int .i64 now, .slice A' k c'] W fun r w' => r = .returned (.bool q) ∧ Below W.heap.size W w') := fun W A' c' h => (fits_any m now A' k c' l W HN.out h (by omega) HNOW.out HSN.out).mono fun r w' ⟨⟨t, e, ht⟩, hb⟩ => ⟨by rw [e, hq, bool_eq ht], hb⟩
          have HRF : Hid (∀ W, Below wr.heap.size wr W → Calls Try.prog 15 #[m.v, .int .i64 now, .slice A k c] W fun r w' => r = .returned (.bool q) ∧ Below W.heap.size W w') := fun W hW => (rfits_any m now A k c l W HN.out (HE0.out.later (HV.out.trans (hW.mono HV.out.size)) (Nat.le_refl _)).ts (by omega) HNOW.out (fun t h => (HSN.out t h).2)).mono fun r w' ⟨⟨t, e, ht⟩, hb⟩ => ⟨by rw [e, hq, bool_eq ht], hb⟩
          have HAW : Hid (∀ W, Calls Try.prog 16 #[] W fun r w' => r = .returned (.bool true) ∧ Below W.heap.size W w') := fun W => dawake W
          clear hq
          go_upto_region 8 with (fail)
          have HDq : Hid (Below wr.heap.size wr wr.drew) := HBS.out.drew
          refine wp_region_held_drew (S := fun W : World => W.cell? ⟨w.heap.size, 0, none⟩ = some (.int .i64 m.k) ∧ W.cell? ⟨w.heap.size, 1, none⟩ = some (.int .i64 m.b) ∧ W.cell? ⟨w.heap.size, 2, none⟩ = some (.int .i64 m.s) ∧ W.cell? ⟨w.heap.size, 3, none⟩ = some (.int .i64 m.c) ∧ W.cell? ⟨w.heap.size, 4, none⟩ = some (.int .i64 m.e)) (by kernel_rfl) (HCF.out _ (HDq.out)) (fun hHeld => ?_)
          obtain ⟨Wq0, hW0⟩ : ∃ W0, W0 = wr.drew := ⟨_, rfl⟩
          rw [← hW0] at hHeld HDq ⊢
          clear hW0
          refine wpAnyH_take (i := 0) (oi := ?oi0q) (v := ?v0q) ?hi0q ?hs0q ?hf0q ?hr0q ?hQ0q ?hy0q ?hS0q ?h0q
          case hi0q => exact (by simp only [List.getElem?_toArray, List.getElem?_cons_zero]; rfl)
          case hs0q => kernel_rfl
          case hf0q => kernel_rfl
          case hr0q => kernel_rfl
          case hQ0q => exact fun _ _ _ h => h
          case hy0q =>
            refine Or.inl ⟨rfl, ?_⟩
            intro W hSw
            obtain ⟨y0, y1, y2, y3, y4⟩ := hSw
            go_simp
            try with_reducible rfl
          case hS0q => assumption
          try simp only [Act.put, List.setIfInBounds_toArray, List.set_cons_zero, List.set_cons_succ]
          refine wpAnyH_take (i := 2) (oi := ?oi2q) (v := ?v2q) ?hi2q ?hs2q ?hf2q ?hr2q ?hQ2q ?hy2q ?hS2q ?h2q
          case hi2q => exact (by simp only [List.getElem?_toArray, List.getElem?_cons_succ, List.getElem?_cons_zero]; rfl)
          case hs2q => kernel_rfl
          case hf2q => kernel_rfl
          case hr2q => kernel_rfl
          case hQ2q => exact fun _ _ _ h => h
          case hy2q =>
            refine Or.inl ⟨rfl, ?_⟩
            intro W hSw
            obtain ⟨y0, y1, y2, y3, y4⟩ := hSw
            go_simp
            try with_reducible rfl
          case hS2q => assumption
          try simp only [Act.put, List.setIfInBounds_toArray, List.set_cons_zero, List.set_cons_succ]
          refine wpAnyH_take (i := 3) (oi := ?oi3q) (v := ?v3q) ?hi3q ?hs3q ?hf3q ?hr3q ?hQ3q ?hy3q ?hS3q ?h3q
          case hi3q => exact (by simp only [List.getElem?_toArray, List.getElem?_cons_succ, List.getElem?_cons_zero]; rfl)
          case hs3q => kernel_rfl
          case hf3q => kernel_rfl
          case hr3q => kernel_rfl
          case hQ3q => exact fun _ _ _ h => h
          case hy3q =>
            refine Or.inl ⟨rfl, ?_⟩
            intro W hSw
            obtain ⟨y0, y1, y2, y3, y4⟩ := hSw
            go_simp
            try with_reducible rfl
          case hS3q => assumption
          try simp only [Act.put, List.setIfInBounds_toArray, List.set_cons_zero, List.set_cons_succ]
          refine wpAnyH_take (i := 6) (oi := ?oi6q) (v := ?v6q) ?hi6q ?hs6q ?hf6q ?hr6q ?hQ6q ?hy6q ?hS6q ?h6q
          case hi6q => exact (by simp only [List.getElem?_toArray, List.getElem?_cons_succ, List.getElem?_cons_zero]; rfl)
          case hs6q => kernel_rfl
          case hf6q => kernel_rfl
          case hr6q => kernel_rfl
          case hQ6q => exact fun _ _ _ h => h
          case hy6q =>
            refine Or.inl ⟨rfl, ?_⟩
            intro W hSw
            obtain ⟨y0, y1, y2, y3, y4⟩ := hSw
            go_simp
            try with_reducible rfl
          case hS6q => assumption
          try simp only [Act.put, List.setIfInBounds_toArray, List.set_cons_zero, List.set_cons_succ]
          refine wpAnyH_take (i := 7) (oi := ?oi7q) (v := ?v7q) ?hi7q ?hs7q ?hf7q ?hr7q ?hQ7q ?hy7q ?hS7q ?h7q
          case hi7q => exact (by simp only [List.getElem?_toArray, List.getElem?_cons_succ, List.getElem?_cons_zero]; rfl)
          case hs7q => kernel_rfl
          case hf7q => kernel_rfl
          case hr7q => kernel_rfl
          case hQ7q => exact fun _ _ _ h => h
          case hy7q =>
            refine Or.inl ⟨rfl, ?_⟩
            intro W hSw
            obtain ⟨y0, y1, y2, y3, y4⟩ := hSw
            go_simp
            try with_reducible rfl
          case hS7q => assumption
          try simp only [Act.put, List.setIfInBounds_toArray, List.set_cons_zero, List.set_cons_succ]
          refine wpAnyH_take (i := 8) (oi := ?oi8q) (v := ?v8q) ?hi8q ?hs8q ?hf8q ?hr8q ?hQ8q ?hy8q ?hS8q ?h8q
          case hi8q => exact (by simp only [List.getElem?_toArray, List.getElem?_cons_succ, List.getElem?_cons_zero]; rfl)
          case hs8q => kernel_rfl
          case hf8q => kernel_rfl
          case hr8q => kernel_rfl
          case hQ8q => exact fun _ _ _ h => h
          case hy8q =>
            refine Or.inl ⟨rfl, ?_⟩
            intro W hSw
            obtain ⟨y0, y1, y2, y3, y4⟩ := hSw
            go_simp
            try with_reducible rfl
          case hS8q => assumption
          try simp only [Act.put, List.setIfInBounds_toArray, List.set_cons_zero, List.set_cons_succ]
          refine wpAnyH_ready (rs := [1]) (by kernel_rfl) (by simp) ?_
          refine AllReadyH.cons (o := _) rfl (fun K hK => ?_) AllReadyH.nil
          go_simp
          refine (HMO.out Wq0).mono ?_
          rintro r Wq1 ⟨rfl, hbq⟩
          have HBq1 := Lib.hid (HDq.out.trans (hbq.mono HDq.out.size))
          clear hbq
          refine hK.out _ _ (HCF.out _ (HBq1.out)) (fun hHeld => ?_)
          clear hK K
          try simp only [Act.put, List.setIfInBounds_toArray, List.set_cons_zero, List.set_cons_succ]
          refine wpAnyH_ready (rs := [4]) (by kernel_rfl) (by simp) ?_
          refine AllReadyH.cons (o := _) rfl (fun K hK => ?_) AllReadyH.nil
          go_simp
          refine (HOW.out Wq1 HBq1.out).mono ?_
          rintro r Wq2 ⟨⟨A9, c9, rfl, hts⟩, hbq⟩
          have HBq2 := Lib.hid (HBq1.out.trans (hbq.mono HBq1.out.size))
          clear hbq
          have HTS := Lib.hid hts
          clear hts
          refine hK.out _ _ (HCF.out _ (HBq2.out)) (fun hHeld => ?_)
          clear hK K
          try simp only [Act.put, List.setIfInBounds_toArray, List.set_cons_zero, List.set_cons_succ]
          refine wpAnyH_ready (rs := [5]) (by kernel_rfl) (by simp) ?_
          refine AllReadyH.cons (o := _) rfl (fun K hK => ?_) AllReadyH.nil
          go_simp
          refine (HFI.out Wq2 A9 c9 HTS.out).mono ?_
          rintro r Wq3 ⟨rfl, hbq⟩
          have HBq3 := Lib.hid (HBq2.out.trans (hbq.mono HBq2.out.size))
          clear hbq
          refine hK.out _ _ (HCF.out _ (HBq3.out)) (fun hHeld => ?_)
          clear hK K
          try simp only [Act.put, List.setIfInBounds_toArray, List.set_cons_zero, List.set_cons_succ]
          refine wpAnyH_ready (rs := [9]) (by kernel_rfl) (by simp) ?_
          refine AllReadyH.cons (o := _) rfl (fun K hK => ?_) AllReadyH.nil
          go_simp
          refine (HRF.out Wq3 HBq3.out).mono ?_
          rintro r Wq4 ⟨rfl, hbq⟩
          have HBq4 := Lib.hid (HBq3.out.trans (hbq.mono HBq3.out.size))
          clear hbq
          refine hK.out _ _ (HCF.out _ (HBq4.out)) (fun hHeld => ?_)
          clear hK K
          try simp only [Act.put, List.setIfInBounds_toArray, List.set_cons_zero, List.set_cons_succ]
          refine wpAnyH_take (i := 10) (oi := ?oi10q) (v := (.bool true)) ?hi10q ?hs10q ?hf10q ?hr10q ?hQ10q ?hy10q ?hS10q ?h10q
          case hi10q => exact (by simp only [List.getElem?_toArray, List.getElem?_cons_succ, List.getElem?_cons_zero]; rfl)
          case hs10q => kernel_rfl
          case hf10q => kernel_rfl
          case hr10q => kernel_rfl
          case hQ10q => exact fun _ _ _ h => h
          case hy10q =>
            refine Or.inl ⟨rfl, ?_⟩
            intro W hSw
            obtain ⟨y0, y1, y2, y3, y4⟩ := hSw
            go_simp
            try with_reducible rfl
          case hS10q => assumption
          try simp only [Act.put, List.setIfInBounds_toArray, List.set_cons_zero, List.set_cons_succ]
          refine wpAnyH_take (i := 11) (oi := ?oi11q) (v := (.bool true)) ?hi11q ?hs11q ?hf11q ?hr11q ?hQ11q ?hy11q ?hS11q ?h11q
          case hi11q => exact (by simp only [List.getElem?_toArray, List.getElem?_cons_succ, List.getElem?_cons_zero]; rfl)
          case hs11q => kernel_rfl
          case hf11q => kernel_rfl
          case hr11q => kernel_rfl
          case hQ11q => exact fun _ _ _ h => h
          case hy11q =>
            refine Or.inl ⟨rfl, ?_⟩
            intro W hSw
            obtain ⟨y0, y1, y2, y3, y4⟩ := hSw
            go_simp
            try with_reducible rfl
          case hS11q => assumption
          try simp only [Act.put, List.setIfInBounds_toArray, List.set_cons_zero, List.set_cons_succ]
          refine wpAnyH_ready (rs := [12]) (by kernel_rfl) (by simp) ?_
          refine AllReadyH.cons (o := _) rfl (fun K hK => ?_) AllReadyH.nil
          go_simp
          refine (HAW.out Wq4).mono ?_
          rintro r Wq5 ⟨rfl, hbq⟩
          have HBq5 := Lib.hid (HBq4.out.trans (hbq.mono HBq4.out.size))
          clear hbq
          refine hK.out _ _ (HCF.out _ (HBq5.out)) (fun hHeld => ?_)
          clear hK K
          try simp only [Act.put, List.setIfInBounds_toArray, List.set_cons_zero, List.set_cons_succ]
          refine wpAnyH_take (i := 13) (oi := ?oi13q) (v := (.bool true)) ?hi13q ?hs13q ?hf13q ?hr13q ?hQ13q ?hy13q ?hS13q ?h13q
          case hi13q => exact (by simp only [List.getElem?_toArray, List.getElem?_cons_succ, List.getElem?_cons_zero]; rfl)
          case hs13q => kernel_rfl
          case hf13q => kernel_rfl
          case hr13q => kernel_rfl
          case hQ13q => exact fun _ _ _ h => h
          case hy13q =>
            refine Or.inl ⟨rfl, ?_⟩
            intro W hSw
            obtain ⟨y0, y1, y2, y3, y4⟩ := hSw
            go_simp
            try with_reducible rfl
          case hS13q => assumption
          try simp only [Act.put, List.setIfInBounds_toArray, List.set_cons_zero, List.set_cons_succ]
          refine wpAnyH_take (i := 14) (oi := ?oi14q) (v := ?v14q) ?hi14q ?hs14q ?hf14q ?hr14q ?hQ14q ?hy14q ?hS14q ?h14q
          case hi14q => exact (by simp only [List.getElem?_toArray, List.getElem?_cons_succ, List.getElem?_cons_zero]; rfl)
          case hs14q => kernel_rfl
          case hf14q => kernel_rfl
          case hr14q => kernel_rfl
          case hQ14q => exact fun _ _ _ h => h
          case hy14q =>
            refine Or.inl ⟨rfl, ?_⟩
            intro W hSw
            obtain ⟨y0, y1, y2, y3, y4⟩ := hSw
            go_simp
            try with_reducible rfl
          case hS14q => assumption
          try simp only [Act.put, List.setIfInBounds_toArray, List.set_cons_zero, List.set_cons_succ]
          refine wpAnyH_done (by kernel_rfl) ?_ _
          try go_wp2
          go_ret
          exact ⟨rfl, HB0.out.trans ((HV.out.trans (HBq5.out.mono HV.out.size)).mono HB0.out.size)⟩
end Go.Proofs.Ytnloikdfbdpilaa
