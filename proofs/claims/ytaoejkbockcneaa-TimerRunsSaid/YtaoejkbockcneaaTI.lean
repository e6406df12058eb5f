/- Timer: TimerRuns' walk. -/
import Derived.Test.YtaoejkbockcneaaTH
namespace Go.Proofs.Ytaoejkbockcneaa
open Go.RowKit Go.ChangeShapes
set_option maxRecDepth 20000

set_option linter.unusedSimpArgs false in
set_option maxHeartbeats 40000000 in
theorem truns_walk (u : Option Addr × Nat) (acts : List Ac) (w : World) (hs : As w w.heap.size u.1 acts) (hl : acts.length ≤ 9223372036854775807) (hwf : ∀ e ∈ acts, wfN e.2.1 e.2.2.1) :
    Calls Try.prog 3 #[.slice u.1 acts.length u.2] w fun r w' => r = .returned (.bool true) ∧ Below w.heap.size w w' := by
  obtain ⟨E, ec⟩ := u
  obtain ⟨N, hN⟩ : ∃ N, N = acts.length := ⟨_, rfl⟩
  simp only at hs ⊢
  rw [← hN] at hl ⊢
  have HA := Lib.hid hs
  have HN := Lib.hid hN
  have HWL := Lib.hid hwf
  clear hs hN hwf
  by_cases h1 : 60 < N
  · have t : decide ((N : Int) > 60) = true := by rw [decide_eq_true_iff]; omega
    go_enter Try.func3, Try.ntmps3
    go_wp2
    go_ret
    exact ⟨rfl, Below.refl _ _⟩
  have t : decide ((N : Int) > 60) = false := by rw [decide_eq_false_iff_not]; omega
  have HNEW := Lib.hid (new_any w.heap.size w (Nat.le_refl _))
  obtain ⟨Q, hQ⟩ : ∃ Q, Q = w.heap.size + 1 := ⟨_, rfl⟩
  rw [← hQ] at HNEW
  clear hQ
  go_enter Try.func3, Try.ntmps3
  go_wp2_with fail
  refine HNEW.out.mono ?_
  rintro r w1 ⟨rfl, hI1, hb1⟩
  have HS0 : Hid (Su w w1 Q 0 [] [] none 0 0 none) := ⟨hI1, World.ownsRow_nil w1 _ 38 3, rfl, Ch.of_below (Nat.le_refl _) hb1, ⟨Nat.le_refl _, by simp⟩, fun G e he => by cases he⟩
  clear hI1 hb1 HNEW t
  go_wp2_with fail
  go_loopw [4, 5] (fun o u wr => ∃ (k tn : Nat) (L : List It) (A : Option Addr) (n c : Nat), k ≤ N ∧ tn ≤ k ∧ o = .slice A n c ∧ u = .int .i64 (k : Int) ∧ Hid (Su w wr Q tn L L A n c none)) (fun _ u _ => N - (intOf u).toNat)
  case atStart => exact ⟨0, 0, [], none, 0, 0, by omega, by omega, rfl, rfl, HS0⟩
  case round =>
    obtain ⟨k, tn, L, A, n, c, hk, htk, rfl, rfl, HS⟩ := hrel
    by_cases hlt : k < N
    · obtain ⟨⟨d, ek, ex, ea⟩, he⟩ : ∃ e, acts[k]? = some e := ⟨acts[k]'(by rw [← HN.out]; exact hlt), List.getElem?_eq_getElem _⟩
      have HWF : Hid (wfN ek ex) := HWL.out _ (List.mem_of_getElem? he)
      obtain ⟨b1, o1, rfl, hb1, ha1⟩ := HA.out (by have := HN.out; omega)
      have dd := ha1 k _ he
      have d0 := (HS.out.ch.below.cell (p := ⟨b1, _, none⟩) hb1).trans dd.1
      have d1 := (HS.out.ch.below.cell (p := ⟨b1, _, none⟩) hb1).trans dd.2.1
      have d2 := (HS.out.ch.below.cell (p := ⟨b1, _, none⟩) hb1).trans dd.2.2.1
      have d3 := (HS.out.ch.below.cell (p := ⟨b1, _, none⟩) hb1).trans dd.2.2.2
      simp only at d0 d1 d2 d3
      clear he dd ha1 hb1
      obtain ⟨w2, hw2⟩ : ∃ w2, w2 = wr.alloc (.cells #[.int .u8 d, .int .i64 ek, .int .u32 (ex : Int), .int .i64 ea] 28) := ⟨_, rfl⟩
      have HS2 := Lib.hid (HS.out.withact (d, ek, ex, ea))
      simp only at HS2
      rw [← hw2] at HS2
      obtain ⟨G, hG⟩ : ∃ G, G = wr.heap.size := ⟨_, rfl⟩
      rw [← hG] at HS2
      have H2 := Lib.hid hw2
      have HG0 := Lib.hid hG
      clear hw2 hG
      rcases (by omega : d = 0 ∨ d = 1 ∨ d = 2 ∨ (¬ d = 0 ∧ ¬ d = 1 ∧ ¬ d = 2)) with rfl | rfl | rfl | ⟨hd0, hd1, hd2⟩
      · go_upto_region 11 with (fail)
        rw [← H2.out, ← HG0.out]
        clear d0 d1 d2 d3
        have a0 := cell_of_row w2 G 0 _ _ _ (HS2.out.ac _ _ rfl)
        have a1 := cell_of_row w2 G 1 _ _ _ (HS2.out.ac _ _ rfl)
        have a2 := cell_of_row w2 G 2 _ _ _ (HS2.out.ac _ _ rfl)
        have a3 := cell_of_row w2 G 3 _ _ _ (HS2.out.ac _ _ rfl)
        simp at a0 a1 a2 a3
        go_wp2_with fail
        refine (set_any ek ex ea w2 HS2.out.it (by have := HS2.out.bd; omega) (by omega) HWF.out).mono ?_
        rintro r w3 ⟨rfl, g, hI3, hC3⟩
        have hof := off_len ek ex L
        have HS3 := Lib.hid (HS2.out.prog hI3 hC3 ⟨by rw [List.length_append, List.length_singleton]; have := HS2.out.bd; omega, by have := HS2.out.bd; omega⟩)
        clear hI3 hC3 hof
        clear a0 a1 a2 a3
        have a0 := cell_of_row w3 G 0 _ _ _ (HS3.out.ac _ _ rfl)
        have a1 := cell_of_row w3 G 1 _ _ _ (HS3.out.ac _ _ rfl)
        have a2 := cell_of_row w3 G 2 _ _ _ (HS3.out.ac _ _ rfl)
        have a3 := cell_of_row w3 G 3 _ _ _ (HS3.out.ac _ _ rfl)
        simp at a0 a1 a2 a3
        have HRS := Lib.hid (rset_any A n c ek ex ea g tn L w3 HS3.out.ln (Rt.of_own HS3.out.ow) (by have := HS3.out.bd; have := HS3.out.ln; omega))
        go_wp2_with fail
        refine HRS.out.mono ?_
        rintro r w4 ⟨B, m, c', rfl, hm, hown, hb4⟩
        have HS4 := Lib.hid (HS3.out.refd hb4 (own3_base HS3.out.ch.size hown) (by rw [List.length_append, List.length_singleton]; exact hm) (by rw [List.length_append, List.length_singleton]; have := HS2.out.bd; have := off_len ek ex L; omega))
        clear hm hown hb4
        clear a0 a1 a2 a3
        have a0 := cell_of_row w4 G 0 _ _ _ (HS4.out.ac _ _ rfl)
        have a1 := cell_of_row w4 G 1 _ _ _ (HS4.out.ac _ _ rfl)
        have a2 := cell_of_row w4 G 2 _ _ _ (HS4.out.ac _ _ rfl)
        have a3 := cell_of_row w4 G 3 _ _ _ (HS4.out.ac _ _ rfl)
        simp at a0 a1 a2 a3
        go_wp2_with fail
        refine (findat_any ek ex w4 HS4.out.it HWF.out).mono ?_
        rintro r w9 ⟨⟨v9, b9, rfl, hf9⟩, hw9⟩
        subst hw9
        have HRF := Lib.hid (rfind_any B m c' ek ex (offN ek ex L ++ [(g, ek, ex, ea, tn)]) w9 HS4.out.ln (Rt.of_own HS4.out.ow) (by have := HS4.out.bd; have := HS4.out.ln; omega))
        go_wp2_with fail
        refine HRF.out.mono ?_
        rintro r wa ⟨⟨va, ba, rfl, hfa⟩, hwa⟩
        subst hwa
        obtain ⟨hva, hba⟩ := find_one HS4.out.it.dis hf9 hfa
        subst hva hba
        clear hf9 hfa
        go_wp2_with fail
        refine (next_any wa HS4.out.it).mono ?_
        rintro r wb ⟨⟨fk, fx, fa, fb, hF, rfl⟩, hbb⟩
        have HSb := Lib.hid (HS4.out.after hbb)
        have HFR := Lib.hid hF
        obtain ⟨T9, hT9⟩ : ∃ T, T = wb.heap.size := ⟨_, rfl⟩
        obtain ⟨wc, hwc⟩ : ∃ v, v = wb.alloc (.cells #[.int .i64 fk, .int .u32 (fx : Int), .int .i64 fa] 35) := ⟨_, rfl⟩
        have hbcs : Below wb.heap.size wb wc := by rw [hwc]; exact (Below.refl _ _).alloc (Nat.le_refl _) _
        have HRT9 : Hid (wc.heap[T9]? = some (.cells #[.int .i64 fk, .int .u32 (fx : Int), .int .i64 fa] 35 (0, 0))) := by rw [hwc, hT9]; exact heap_alloc_new wb _
        have HSc := Lib.hid (HSb.out.after hbcs)
        have HAcs := Lib.hid hwc
        clear hwc
        clear hbb hF a0 a1 a2 a3
        go_upto_region 30 with (fail)
        rw [← HAcs.out, ← hT9]
        clear hT9 hbcs
        go_wp2_with fail
        refine (rfirst_any B m c' (offN ek ex L ++ [(g, ek, ex, ea, tn)]) fk fx fa fb wc HSc.out.ln (Rt.of_own HSc.out.ow) (by have := HSc.out.bd; have := HSc.out.ln; omega) HSc.out.it.ris HFR.out).mono ?_
        rintro r wd ⟨rfl, hbd⟩
        have HSd := Lib.hid (HSc.out.after hbd)
        have hk9 := (hbd.block _ (lt_of_block HRT9.out)).trans HRT9.out
        obtain ⟨T1, hT1⟩ : ∃ T, T = wd.heap.size := ⟨_, rfl⟩
        obtain ⟨wf, hwf⟩ : ∃ v, v = wd.alloc (.cells #[.int .i64 fk, .int .u32 (fx : Int), .int .i64 fa] 38) := ⟨_, rfl⟩
        have hbfs : Below wd.heap.size wd wf := by rw [hwf]; exact (Below.refl _ _).alloc (Nat.le_refl _) _
        have HRT1 : Hid (wf.heap[T1]? = some (.cells #[.int .i64 fk, .int .u32 (fx : Int), .int .i64 fa] 38 (0, 0))) := by rw [hwf, hT1]; exact heap_alloc_new wd _
        have HSf := Lib.hid (HSd.out.after hbfs)
        have HAfs := Lib.hid hwf
        clear hwf
        have HKT9 : Hid (wf.heap[T9]? = some (.cells #[.int .i64 fk, .int .u32 (fx : Int), .int .i64 fa] 35 (0, 0))) := (hbfs.block _ (lt_of_block hk9)).trans hk9
        have HLNf : Hid (∀ V, Below wf.heap.size wf V → Calls Try.prog 24 #[.pointer (some ⟨Q, 0, none⟩)] V fun r w' => r = .returned (.int .i64 (m : Int)) ∧ Below V.heap.size V w') := fun V hV => (len_any V (HSf.out.it.after hV)).mono fun r w' ⟨h1, h2⟩ => ⟨by rw [h1, HSf.out.ln], by rw [h2]; exact Below.refl _ _⟩
        clear hbd hk9
        go_upto_region 31 with (fail)
        rw [← HAfs.out, ← hT1]
        clear hT1 hbfs
        have HCEs : Hid (∀ V, Below wf.heap.size wf V → (fun W : World => W.cell? ⟨T9, 0, none⟩ = some (.int .i64 fk) ∧ W.cell? ⟨T9, 1, none⟩ = some (.int .u32 (fx : Int)) ∧ W.cell? ⟨T9, 2, none⟩ = some (.int .i64 fa) ∧ W.cell? ⟨T1, 0, none⟩ = some (.int .i64 fk) ∧ W.cell? ⟨T1, 1, none⟩ = some (.int .u32 (fx : Int)) ∧ W.cell? ⟨T1, 2, none⟩ = some (.int .i64 fa)) V) := fun V hV => by
          have q5 := (hV.block _ (lt_of_block HKT9.out)).trans HKT9.out
          have q8 := (hV.block _ (lt_of_block HRT1.out)).trans HRT1.out
          exact ⟨cell_of_row V _ 0 _ _ _ q5, cell_of_row V _ 1 _ _ _ q5, cell_of_row V _ 2 _ _ _ q5, cell_of_row V _ 0 _ _ _ q8, cell_of_row V _ 1 _ _ _ q8, cell_of_row V _ 2 _ _ _ q8⟩
        have HDs : Hid (Below wf.heap.size wf wf.drew) := (Below.refl _ _).drew
        refine wp_region_held_drew (S := fun W : World => W.cell? ⟨T9, 0, none⟩ = some (.int .i64 fk) ∧ W.cell? ⟨T9, 1, none⟩ = some (.int .u32 (fx : Int)) ∧ W.cell? ⟨T9, 2, none⟩ = some (.int .i64 fa) ∧ W.cell? ⟨T1, 0, none⟩ = some (.int .i64 fk) ∧ W.cell? ⟨T1, 1, none⟩ = some (.int .u32 (fx : Int)) ∧ W.cell? ⟨T1, 2, none⟩ = some (.int .i64 fa)) (by kernel_rfl) (HCEs.out _ HDs.out) (fun hHeld => ?_)
        obtain ⟨Ws0, hW0⟩ : ∃ W0, W0 = wf.drew := ⟨_, rfl⟩
        rw [← hW0] at hHeld HDs ⊢
        clear hW0
        refine wpAnyH_take (i := 0) (oi := ?oi0s) (v := ?v0s) ?hi0s ?hs0s ?hf0s ?hr0s ?hQ0s ?hy0s ?hS0s ?h0s
        case hi0s => exact (by simp only [List.getElem?_toArray, List.getElem?_cons_zero]; rfl)
        case hs0s => kernel_rfl
        case hf0s => kernel_rfl
        case hr0s => kernel_rfl
        case hQ0s => exact fun _ _ _ h => h
        case hy0s =>
          refine Or.inl ⟨rfl, ?_⟩
          intro W hSw
          obtain ⟨y0, y1, y2, z0, z1, z2⟩ := hSw
          go_simp
          try with_reducible rfl
        case hS0s => assumption
        try simp only [Act.put, List.setIfInBounds_toArray, List.set_cons_zero, List.set_cons_succ]
        refine wpAnyH_take (i := 1) (oi := ?oi1s) (v := ?v1s) ?hi1s ?hs1s ?hf1s ?hr1s ?hQ1s ?hy1s ?hS1s ?h1s
        case hi1s => exact (by simp only [List.getElem?_toArray, List.getElem?_cons_succ, List.getElem?_cons_zero]; rfl)
        case hs1s => kernel_rfl
        case hf1s => kernel_rfl
        case hr1s => kernel_rfl
        case hQ1s => exact fun _ _ _ h => h
        case hy1s =>
          refine Or.inl ⟨rfl, ?_⟩
          intro W hSw
          obtain ⟨y0, y1, y2, z0, z1, z2⟩ := hSw
          go_simp
          try with_reducible rfl
        case hS1s => assumption
        try simp only [Act.put, List.setIfInBounds_toArray, List.set_cons_zero, List.set_cons_succ]
        refine wpAnyH_take (i := 2) (oi := ?oi2s) (v := (.bool false)) ?hi2s ?hs2s ?hf2s ?hr2s ?hQ2s ?hy2s ?hS2s ?h2s
        case hi2s => exact (by simp only [List.getElem?_toArray, List.getElem?_cons_succ, List.getElem?_cons_zero]; rfl)
        case hs2s => kernel_rfl
        case hf2s => kernel_rfl
        case hr2s => kernel_rfl
        case hQ2s => exact fun _ _ _ h => h
        case hy2s =>
          refine Or.inl ⟨rfl, ?_⟩
          intro W hSw
          obtain ⟨y0, y1, y2, z0, z1, z2⟩ := hSw
          go_simp
          all_goals first | with_reducible rfl | (simp; done)
        case hS2s => assumption
        try simp only [Act.put, List.setIfInBounds_toArray, List.set_cons_zero, List.set_cons_succ]
        refine wpAnyH_take (i := 3) (oi := ?oi3s) (v := ?v3s) ?hi3s ?hs3s ?hf3s ?hr3s ?hQ3s ?hy3s ?hS3s ?h3s
        case hi3s => exact (by simp only [List.getElem?_toArray, List.getElem?_cons_succ, List.getElem?_cons_zero]; rfl)
        case hs3s => kernel_rfl
        case hf3s => kernel_rfl
        case hr3s => kernel_rfl
        case hQ3s => exact fun _ _ _ h => h
        case hy3s =>
          refine Or.inl ⟨rfl, ?_⟩
          intro W hSw
          obtain ⟨y0, y1, y2, z0, z1, z2⟩ := hSw
          go_simp
          try with_reducible rfl
        case hS3s => assumption
        try simp only [Act.put, List.setIfInBounds_toArray, List.set_cons_zero, List.set_cons_succ]
        refine wpAnyH_take (i := 4) (oi := ?oi4s) (v := ?v4s) ?hi4s ?hs4s ?hf4s ?hr4s ?hQ4s ?hy4s ?hS4s ?h4s
        case hi4s => exact (by simp only [List.getElem?_toArray, List.getElem?_cons_succ, List.getElem?_cons_zero]; rfl)
        case hs4s => kernel_rfl
        case hf4s => kernel_rfl
        case hr4s => kernel_rfl
        case hQ4s => exact fun _ _ _ h => h
        case hy4s =>
          refine Or.inl ⟨rfl, ?_⟩
          intro W hSw
          obtain ⟨y0, y1, y2, z0, z1, z2⟩ := hSw
          go_simp
          try with_reducible rfl
        case hS4s => assumption
        try simp only [Act.put, List.setIfInBounds_toArray, List.set_cons_zero, List.set_cons_succ]
        refine wpAnyH_take (i := 5) (oi := ?oi5s) (v := ?v5s) ?hi5s ?hs5s ?hf5s ?hr5s ?hQ5s ?hy5s ?hS5s ?h5s
        case hi5s => exact (by simp only [List.getElem?_toArray, List.getElem?_cons_succ, List.getElem?_cons_zero]; rfl)
        case hs5s => kernel_rfl
        case hf5s => kernel_rfl
        case hr5s => kernel_rfl
        case hQ5s => exact fun _ _ _ h => h
        case hy5s =>
          refine Or.inl ⟨rfl, ?_⟩
          intro W hSw
          obtain ⟨y0, y1, y2, z0, z1, z2⟩ := hSw
          go_simp
          try with_reducible rfl
        case hS5s => assumption
        try simp only [Act.put, List.setIfInBounds_toArray, List.set_cons_zero, List.set_cons_succ]
        refine wpAnyH_take (i := 6) (oi := ?oi6s) (v := (.bool false)) ?hi6s ?hs6s ?hf6s ?hr6s ?hQ6s ?hy6s ?hS6s ?h6s
        case hi6s => exact (by simp only [List.getElem?_toArray, List.getElem?_cons_succ, List.getElem?_cons_zero]; rfl)
        case hs6s => kernel_rfl
        case hf6s => kernel_rfl
        case hr6s => kernel_rfl
        case hQ6s => exact fun _ _ _ h => h
        case hy6s =>
          refine Or.inl ⟨rfl, ?_⟩
          intro W hSw
          obtain ⟨y0, y1, y2, z0, z1, z2⟩ := hSw
          go_simp
          all_goals first | with_reducible rfl | (simp; done)
        case hS6s => assumption
        try simp only [Act.put, List.setIfInBounds_toArray, List.set_cons_zero, List.set_cons_succ]
        refine wpAnyH_take (i := 7) (oi := ?oi7s) (v := ?v7s) ?hi7s ?hs7s ?hf7s ?hr7s ?hQ7s ?hy7s ?hS7s ?h7s
        case hi7s => exact (by simp only [List.getElem?_toArray, List.getElem?_cons_succ, List.getElem?_cons_zero]; rfl)
        case hs7s => kernel_rfl
        case hf7s => kernel_rfl
        case hr7s => kernel_rfl
        case hQ7s => exact fun _ _ _ h => h
        case hy7s =>
          refine Or.inl ⟨rfl, ?_⟩
          intro W hSw
          obtain ⟨y0, y1, y2, z0, z1, z2⟩ := hSw
          go_simp
          try with_reducible rfl
        case hS7s => assumption
        try simp only [Act.put, List.setIfInBounds_toArray, List.set_cons_zero, List.set_cons_succ]
        refine wpAnyH_take (i := 8) (oi := ?oi8s) (v := ?v8s) ?hi8s ?hs8s ?hf8s ?hr8s ?hQ8s ?hy8s ?hS8s ?h8s
        case hi8s => exact (by simp only [List.getElem?_toArray, List.getElem?_cons_succ, List.getElem?_cons_zero]; rfl)
        case hs8s => kernel_rfl
        case hf8s => kernel_rfl
        case hr8s => kernel_rfl
        case hQ8s => exact fun _ _ _ h => h
        case hy8s =>
          refine Or.inl ⟨rfl, ?_⟩
          intro W hSw
          obtain ⟨y0, y1, y2, z0, z1, z2⟩ := hSw
          go_simp
          try with_reducible rfl
        case hS8s => assumption
        try simp only [Act.put, List.setIfInBounds_toArray, List.set_cons_zero, List.set_cons_succ]
        refine wpAnyH_take (i := 9) (oi := ?oi9s) (v := ?v9s) ?hi9s ?hs9s ?hf9s ?hr9s ?hQ9s ?hy9s ?hS9s ?h9s
        case hi9s => exact (by simp only [List.getElem?_toArray, List.getElem?_cons_succ, List.getElem?_cons_zero]; rfl)
        case hs9s => kernel_rfl
        case hf9s => kernel_rfl
        case hr9s => kernel_rfl
        case hQ9s => exact fun _ _ _ h => h
        case hy9s =>
          refine Or.inl ⟨rfl, ?_⟩
          intro W hSw
          obtain ⟨y0, y1, y2, z0, z1, z2⟩ := hSw
          go_simp
          try with_reducible rfl
        case hS9s => assumption
        try simp only [Act.put, List.setIfInBounds_toArray, List.set_cons_zero, List.set_cons_succ]
        refine wpAnyH_take (i := 10) (oi := ?oi10s) (v := ?v10s) ?hi10s ?hs10s ?hf10s ?hr10s ?hQ10s ?hy10s ?hS10s ?h10s
        case hi10s => exact (by simp only [List.getElem?_toArray, List.getElem?_cons_succ, List.getElem?_cons_zero]; rfl)
        case hs10s => kernel_rfl
        case hf10s => kernel_rfl
        case hr10s => kernel_rfl
        case hQ10s => exact fun _ _ _ h => h
        case hy10s =>
          refine Or.inl ⟨rfl, ?_⟩
          intro W hSw
          obtain ⟨y0, y1, y2, z0, z1, z2⟩ := hSw
          go_simp
          try with_reducible rfl
        case hS10s => assumption
        try simp only [Act.put, List.setIfInBounds_toArray, List.set_cons_zero, List.set_cons_succ]
        refine wpAnyH_ready (rs := [11]) (by kernel_rfl) (by simp) ?_
        refine AllReadyH.cons (o := _) rfl (fun K hK => ?_) AllReadyH.nil
        go_simp
        refine (own_any fk fx fa Ws0).mono ?_
        rintro r Ws1 ⟨rfl, hbq⟩
        have HBs1 := Lib.hid (HDs.out.trans (hbq.mono HDs.out.size))
        clear hbq
        refine hK.out _ _ (HCEs.out _ HBs1.out) (fun hHeld => ?_)
        clear hK K
        try simp only [Act.put, List.setIfInBounds_toArray, List.set_cons_zero, List.set_cons_succ]
        refine wpAnyH_take (i := 12) (oi := ?oi12s) (v := (.bool false)) ?hi12s ?hs12s ?hf12s ?hr12s ?hQ12s ?hy12s ?hS12s ?h12s
        case hi12s => exact (by simp only [List.getElem?_toArray, List.getElem?_cons_succ, List.getElem?_cons_zero]; rfl)
        case hs12s => kernel_rfl
        case hf12s => kernel_rfl
        case hr12s => kernel_rfl
        case hQ12s => exact fun _ _ _ h => h
        case hy12s =>
          refine Or.inl ⟨rfl, ?_⟩
          intro W hSw
          obtain ⟨y0, y1, y2, z0, z1, z2⟩ := hSw
          go_simp
          all_goals first | with_reducible rfl | (simp; done)
        case hS12s => assumption
        try simp only [Act.put, List.setIfInBounds_toArray, List.set_cons_zero, List.set_cons_succ]
        refine wpAnyH_take (i := 13) (oi := ?oi13s) (v := ?v13s) ?hi13s ?hs13s ?hf13s ?hr13s ?hQ13s ?hy13s ?hS13s ?h13s
        case hi13s => exact (by simp only [List.getElem?_toArray, List.getElem?_cons_succ, List.getElem?_cons_zero]; rfl)
        case hs13s => kernel_rfl
        case hf13s => kernel_rfl
        case hr13s => kernel_rfl
        case hQ13s => exact fun _ _ _ h => h
        case hy13s =>
          refine Or.inl ⟨rfl, ?_⟩
          intro W hSw
          obtain ⟨y0, y1, y2, z0, z1, z2⟩ := hSw
          go_simp
          try with_reducible rfl
        case hS13s => assumption
        try simp only [Act.put, List.setIfInBounds_toArray, List.set_cons_zero, List.set_cons_succ]
        refine wpAnyH_take (i := 14) (oi := ?oi14s) (v := ?v14s) ?hi14s ?hs14s ?hf14s ?hr14s ?hQ14s ?hy14s ?hS14s ?h14s
        case hi14s => exact (by simp only [List.getElem?_toArray, List.getElem?_cons_succ, List.getElem?_cons_zero]; rfl)
        case hs14s => kernel_rfl
        case hf14s => kernel_rfl
        case hr14s => kernel_rfl
        case hQ14s => exact fun _ _ _ h => h
        case hy14s =>
          refine Or.inl ⟨rfl, ?_⟩
          intro W hSw
          obtain ⟨y0, y1, y2, z0, z1, z2⟩ := hSw
          go_simp
          try with_reducible rfl
        case hS14s => assumption
        try simp only [Act.put, List.setIfInBounds_toArray, List.set_cons_zero, List.set_cons_succ]
        refine wpAnyH_take (i := 15) (oi := ?oi15s) (v := ?v15s) ?hi15s ?hs15s ?hf15s ?hr15s ?hQ15s ?hy15s ?hS15s ?h15s
        case hi15s => exact (by simp only [List.getElem?_toArray, List.getElem?_cons_succ, List.getElem?_cons_zero]; rfl)
        case hs15s => kernel_rfl
        case hf15s => kernel_rfl
        case hr15s => kernel_rfl
        case hQ15s => exact fun _ _ _ h => h
        case hy15s =>
          refine Or.inl ⟨rfl, ?_⟩
          intro W hSw
          obtain ⟨y0, y1, y2, z0, z1, z2⟩ := hSw
          go_simp
          try with_reducible rfl
        case hS15s => assumption
        try simp only [Act.put, List.setIfInBounds_toArray, List.set_cons_zero, List.set_cons_succ]
        refine wpAnyH_take (i := 16) (oi := ?oi16s) (v := ?v16s) ?hi16s ?hs16s ?hf16s ?hr16s ?hQ16s ?hy16s ?hS16s ?h16s
        case hi16s => exact (by simp only [List.getElem?_toArray, List.getElem?_cons_succ, List.getElem?_cons_zero]; rfl)
        case hs16s => kernel_rfl
        case hf16s => kernel_rfl
        case hr16s => kernel_rfl
        case hQ16s => exact fun _ _ _ h => h
        case hy16s =>
          refine Or.inl ⟨rfl, ?_⟩
          intro W hSw
          obtain ⟨y0, y1, y2, z0, z1, z2⟩ := hSw
          go_simp
          try with_reducible rfl
        case hS16s => assumption
        try simp only [Act.put, List.setIfInBounds_toArray, List.set_cons_zero, List.set_cons_succ]
        refine wpAnyH_take (i := 17) (oi := ?oi17s) (v := (.bool false)) ?hi17s ?hs17s ?hf17s ?hr17s ?hQ17s ?hy17s ?hS17s ?h17s
        case hi17s => exact (by simp only [List.getElem?_toArray, List.getElem?_cons_succ, List.getElem?_cons_zero]; rfl)
        case hs17s => kernel_rfl
        case hf17s => kernel_rfl
        case hr17s => kernel_rfl
        case hQ17s => exact fun _ _ _ h => h
        case hy17s =>
          refine Or.inl ⟨rfl, ?_⟩
          intro W hSw
          obtain ⟨y0, y1, y2, z0, z1, z2⟩ := hSw
          go_simp
          all_goals first | with_reducible rfl | (simp; done)
        case hS17s => assumption
        try simp only [Act.put, List.setIfInBounds_toArray, List.set_cons_zero, List.set_cons_succ]
        refine wpAnyH_take (i := 18) (oi := ?oi18s) (v := ?v18s) ?hi18s ?hs18s ?hf18s ?hr18s ?hQ18s ?hy18s ?hS18s ?h18s
        case hi18s => exact (by simp only [List.getElem?_toArray, List.getElem?_cons_succ, List.getElem?_cons_zero]; rfl)
        case hs18s => kernel_rfl
        case hf18s => kernel_rfl
        case hr18s => kernel_rfl
        case hQ18s => exact fun _ _ _ h => h
        case hy18s =>
          refine Or.inl ⟨rfl, ?_⟩
          intro W hSw
          obtain ⟨y0, y1, y2, z0, z1, z2⟩ := hSw
          go_simp
          try with_reducible rfl
        case hS18s => assumption
        try simp only [Act.put, List.setIfInBounds_toArray, List.set_cons_zero, List.set_cons_succ]
        refine wpAnyH_take (i := 19) (oi := ?oi19s) (v := ?v19s) ?hi19s ?hs19s ?hf19s ?hr19s ?hQ19s ?hy19s ?hS19s ?h19s
        case hi19s => exact (by simp only [List.getElem?_toArray, List.getElem?_cons_succ, List.getElem?_cons_zero]; rfl)
        case hs19s => kernel_rfl
        case hf19s => kernel_rfl
        case hr19s => kernel_rfl
        case hQ19s => exact fun _ _ _ h => h
        case hy19s =>
          refine Or.inl ⟨rfl, ?_⟩
          intro W hSw
          obtain ⟨y0, y1, y2, z0, z1, z2⟩ := hSw
          go_simp
          try with_reducible rfl
        case hS19s => assumption
        try simp only [Act.put, List.setIfInBounds_toArray, List.set_cons_zero, List.set_cons_succ]
        refine wpAnyH_take (i := 20) (oi := ?oi20s) (v := ?v20s) ?hi20s ?hs20s ?hf20s ?hr20s ?hQ20s ?hy20s ?hS20s ?h20s
        case hi20s => exact (by simp only [List.getElem?_toArray, List.getElem?_cons_succ, List.getElem?_cons_zero]; rfl)
        case hs20s => kernel_rfl
        case hf20s => kernel_rfl
        case hr20s => kernel_rfl
        case hQ20s => exact fun _ _ _ h => h
        case hy20s =>
          refine Or.inl ⟨rfl, ?_⟩
          intro W hSw
          obtain ⟨y0, y1, y2, z0, z1, z2⟩ := hSw
          go_simp
          try with_reducible rfl
        case hS20s => assumption
        try simp only [Act.put, List.setIfInBounds_toArray, List.set_cons_zero, List.set_cons_succ]
        refine wpAnyH_take (i := 22) (oi := ?oi22s) (v := ?v22s) ?hi22s ?hs22s ?hf22s ?hr22s ?hQ22s ?hy22s ?hS22s ?h22s
        case hi22s => exact (by simp only [List.getElem?_toArray, List.getElem?_cons_succ, List.getElem?_cons_zero]; rfl)
        case hs22s => kernel_rfl
        case hf22s => kernel_rfl
        case hr22s => kernel_rfl
        case hQ22s => exact fun _ _ _ h => h
        case hy22s =>
          refine Or.inl ⟨rfl, ?_⟩
          intro W hSw
          obtain ⟨y0, y1, y2, z0, z1, z2⟩ := hSw
          go_simp
          try with_reducible rfl
        case hS22s => assumption
        try simp only [Act.put, List.setIfInBounds_toArray, List.set_cons_zero, List.set_cons_succ]
        refine wpAnyH_take (i := 23) (oi := ?oi23s) (v := ?v23s) ?hi23s ?hs23s ?hf23s ?hr23s ?hQ23s ?hy23s ?hS23s ?h23s
        case hi23s => exact (by simp only [List.getElem?_toArray, List.getElem?_cons_succ, List.getElem?_cons_zero]; rfl)
        case hs23s => kernel_rfl
        case hf23s => kernel_rfl
        case hr23s => kernel_rfl
        case hQ23s => exact fun _ _ _ h => h
        case hy23s =>
          refine Or.inl ⟨rfl, ?_⟩
          intro W hSw
          obtain ⟨y0, y1, y2, z0, z1, z2⟩ := hSw
          go_simp
          try with_reducible rfl
        case hS23s => assumption
        try simp only [Act.put, List.setIfInBounds_toArray, List.set_cons_zero, List.set_cons_succ]
        refine wpAnyH_ready (rs := [21]) (by kernel_rfl) (by simp) ?_
        refine AllReadyH.cons (o := _) rfl (fun K hK => ?_) AllReadyH.nil
        go_simp
        refine (HLNf.out Ws1 HBs1.out).mono ?_
        rintro r Ws2 ⟨rfl, hbq⟩
        have HBs2 := Lib.hid (HBs1.out.trans (hbq.mono HBs1.out.size))
        clear hbq
        refine hK.out _ _ (HCEs.out _ HBs2.out) (fun hHeld => ?_)
        clear hK K
        try simp only [Act.put, List.setIfInBounds_toArray, List.set_cons_zero, List.set_cons_succ]
        refine wpAnyH_take (i := 24) (oi := ?oi24s) (v := (.bool false)) ?hi24s ?hs24s ?hf24s ?hr24s ?hQ24s ?hy24s ?hS24s ?h24s
        case hi24s => exact (by simp only [List.getElem?_toArray, List.getElem?_cons_succ, List.getElem?_cons_zero]; rfl)
        case hs24s => kernel_rfl
        case hf24s => kernel_rfl
        case hr24s => kernel_rfl
        case hQ24s => exact fun _ _ _ h => h
        case hy24s =>
          refine Or.inl ⟨rfl, ?_⟩
          intro W hSw
          obtain ⟨y0, y1, y2, z0, z1, z2⟩ := hSw
          go_simp
          all_goals first | with_reducible rfl | (simp; done)
        case hS24s => assumption
        try simp only [Act.put, List.setIfInBounds_toArray, List.set_cons_zero, List.set_cons_succ]
        refine wpAnyH_take (i := 25) (oi := ?oi25s) (v := ?v25s) ?hi25s ?hs25s ?hf25s ?hr25s ?hQ25s ?hy25s ?hS25s ?h25s
        case hi25s => exact (by simp only [List.getElem?_toArray, List.getElem?_cons_succ, List.getElem?_cons_zero]; rfl)
        case hs25s => kernel_rfl
        case hf25s => kernel_rfl
        case hr25s => kernel_rfl
        case hQ25s => exact fun _ _ _ h => h
        case hy25s =>
          refine Or.inl ⟨rfl, ?_⟩
          intro W hSw
          obtain ⟨y0, y1, y2, z0, z1, z2⟩ := hSw
          go_simp
          try with_reducible rfl
        case hS25s => assumption
        try simp only [Act.put, List.setIfInBounds_toArray, List.set_cons_zero, List.set_cons_succ]
        refine wpAnyH_done (by kernel_rfl) ?_ _
        have HSz := Lib.hid ((HSf.out.after HBs2.out).noact)
        try go_wp2
        go_roundw
        case rel => exact ⟨k + 1, tn + 1, (offN ek ex L ++ [(g, ek, ex, ea, tn)]), B, m, c', by omega, by omega, rfl, by go_num, HSz⟩
        case measure => simp [intOf] <;> omega
      · go_upto_region 11 with (fail)
        rw [← H2.out, ← HG0.out]
        clear d0 d1 d2 d3
        have a0 := cell_of_row w2 G 0 _ _ _ (HS2.out.ac _ _ rfl)
        have a1 := cell_of_row w2 G 1 _ _ _ (HS2.out.ac _ _ rfl)
        have a2 := cell_of_row w2 G 2 _ _ _ (HS2.out.ac _ _ rfl)
        have a3 := cell_of_row w2 G 3 _ _ _ (HS2.out.ac _ _ rfl)
        simp at a0 a1 a2 a3
        go_wp2_with fail
        refine (clear_any ek ex w2 HS2.out.it (by have := HS2.out.bd; omega) HWF.out).mono ?_
        rintro r w3 ⟨⟨b3, rfl, hb3⟩, hI3, hC3⟩
        have hof := off_len ek ex L
        have HS3 := Lib.hid (HS2.out.prog hI3 hC3 ⟨by have := HS2.out.bd; omega, by have := HS2.out.bd; omega⟩)
        have HB3 := Lib.hid hb3
        clear hI3 hC3 hof hb3
        clear a0 a1 a2 a3
        have a0 := cell_of_row w3 G 0 _ _ _ (HS3.out.ac _ _ rfl)
        have a1 := cell_of_row w3 G 1 _ _ _ (HS3.out.ac _ _ rfl)
        have a2 := cell_of_row w3 G 2 _ _ _ (HS3.out.ac _ _ rfl)
        have a3 := cell_of_row w3 G 3 _ _ _ (HS3.out.ac _ _ rfl)
        simp at a0 a1 a2 a3
        have HRS := Lib.hid (rclear_any A n c ek ex L w3 HS3.out.ln (Rt.of_own HS3.out.ow) (by have := HS3.out.bd; have := HS3.out.ln; omega))
        go_wp2_with fail
        refine HRS.out.mono ?_
        rintro r w4 ⟨B, m, c', b4, rfl, hm, hb4', hown, hb4⟩
        have hbb : b4 = b3 := Bool.eq_iff_iff.2 (hb4'.trans HB3.out.symm)
        subst hbb
        have HS4 := Lib.hid (HS3.out.refd hb4 (own3_base HS3.out.ch.size hown) hm (by have := HS2.out.bd; have := off_len ek ex L; omega))
        clear hm hown hb4 hb4'
        clear a0 a1 a2 a3
        have a0 := cell_of_row w4 G 0 _ _ _ (HS4.out.ac _ _ rfl)
        have a1 := cell_of_row w4 G 1 _ _ _ (HS4.out.ac _ _ rfl)
        have a2 := cell_of_row w4 G 2 _ _ _ (HS4.out.ac _ _ rfl)
        have a3 := cell_of_row w4 G 3 _ _ _ (HS4.out.ac _ _ rfl)
        simp at a0 a1 a2 a3
        go_wp2_with fail
        refine (findat_any ek ex w4 HS4.out.it HWF.out).mono ?_
        rintro r w9 ⟨⟨v9, b9, rfl, hf9⟩, hw9⟩
        subst hw9
        have HRF := Lib.hid (rfind_any B m c' ek ex (offN ek ex L) w9 HS4.out.ln (Rt.of_own HS4.out.ow) (by have := HS4.out.bd; have := HS4.out.ln; omega))
        go_wp2_with fail
        refine HRF.out.mono ?_
        rintro r wa ⟨⟨va, ba, rfl, hfa⟩, hwa⟩
        subst hwa
        obtain ⟨hva, hba⟩ := find_one HS4.out.it.dis hf9 hfa
        subst hva hba
        clear hf9 hfa
        go_wp2_with fail
        refine (next_any wa HS4.out.it).mono ?_
        rintro r wb ⟨⟨fk, fx, fa, fb, hF, rfl⟩, hbb⟩
        have HSb := Lib.hid (HS4.out.after hbb)
        have HFR := Lib.hid hF
        obtain ⟨T9, hT9⟩ : ∃ T, T = wb.heap.size := ⟨_, rfl⟩
        obtain ⟨wc, hwc⟩ : ∃ v, v = wb.alloc (.cells #[.int .i64 fk, .int .u32 (fx : Int), .int .i64 fa] 35) := ⟨_, rfl⟩
        have hbcc : Below wb.heap.size wb wc := by rw [hwc]; exact (Below.refl _ _).alloc (Nat.le_refl _) _
        have HRT9 : Hid (wc.heap[T9]? = some (.cells #[.int .i64 fk, .int .u32 (fx : Int), .int .i64 fa] 35 (0, 0))) := by rw [hwc, hT9]; exact heap_alloc_new wb _
        have HSc := Lib.hid (HSb.out.after hbcc)
        have HAcc := Lib.hid hwc
        clear hwc
        clear hbb hF a0 a1 a2 a3
        go_upto_region 30 with (fail)
        rw [← HAcc.out, ← hT9]
        clear hT9 hbcc
        go_wp2_with fail
        refine (rfirst_any B m c' (offN ek ex L) fk fx fa fb wc HSc.out.ln (Rt.of_own HSc.out.ow) (by have := HSc.out.bd; have := HSc.out.ln; omega) HSc.out.it.ris HFR.out).mono ?_
        rintro r wd ⟨rfl, hbd⟩
        have HSd := Lib.hid (HSc.out.after hbd)
        have hk9 := (hbd.block _ (lt_of_block HRT9.out)).trans HRT9.out
        obtain ⟨T1, hT1⟩ : ∃ T, T = wd.heap.size := ⟨_, rfl⟩
        obtain ⟨wf, hwf⟩ : ∃ v, v = wd.alloc (.cells #[.int .i64 fk, .int .u32 (fx : Int), .int .i64 fa] 38) := ⟨_, rfl⟩
        have hbfc : Below wd.heap.size wd wf := by rw [hwf]; exact (Below.refl _ _).alloc (Nat.le_refl _) _
        have HRT1 : Hid (wf.heap[T1]? = some (.cells #[.int .i64 fk, .int .u32 (fx : Int), .int .i64 fa] 38 (0, 0))) := by rw [hwf, hT1]; exact heap_alloc_new wd _
        have HSf := Lib.hid (HSd.out.after hbfc)
        have HAfc := Lib.hid hwf
        clear hwf
        have HKT9 : Hid (wf.heap[T9]? = some (.cells #[.int .i64 fk, .int .u32 (fx : Int), .int .i64 fa] 35 (0, 0))) := (hbfc.block _ (lt_of_block hk9)).trans hk9
        have HLNf : Hid (∀ V, Below wf.heap.size wf V → Calls Try.prog 24 #[.pointer (some ⟨Q, 0, none⟩)] V fun r w' => r = .returned (.int .i64 (m : Int)) ∧ Below V.heap.size V w') := fun V hV => (len_any V (HSf.out.it.after hV)).mono fun r w' ⟨h1, h2⟩ => ⟨by rw [h1, HSf.out.ln], by rw [h2]; exact Below.refl _ _⟩
        clear hbd hk9
        go_upto_region 31 with (fail)
        rw [← HAfc.out, ← hT1]
        clear hT1 hbfc
        have HCEc : Hid (∀ V, Below wf.heap.size wf V → (fun W : World => W.cell? ⟨T9, 0, none⟩ = some (.int .i64 fk) ∧ W.cell? ⟨T9, 1, none⟩ = some (.int .u32 (fx : Int)) ∧ W.cell? ⟨T9, 2, none⟩ = some (.int .i64 fa) ∧ W.cell? ⟨T1, 0, none⟩ = some (.int .i64 fk) ∧ W.cell? ⟨T1, 1, none⟩ = some (.int .u32 (fx : Int)) ∧ W.cell? ⟨T1, 2, none⟩ = some (.int .i64 fa)) V) := fun V hV => by
          have q5 := (hV.block _ (lt_of_block HKT9.out)).trans HKT9.out
          have q8 := (hV.block _ (lt_of_block HRT1.out)).trans HRT1.out
          exact ⟨cell_of_row V _ 0 _ _ _ q5, cell_of_row V _ 1 _ _ _ q5, cell_of_row V _ 2 _ _ _ q5, cell_of_row V _ 0 _ _ _ q8, cell_of_row V _ 1 _ _ _ q8, cell_of_row V _ 2 _ _ _ q8⟩
        have HDc : Hid (Below wf.heap.size wf wf.drew) := (Below.refl _ _).drew
        refine wp_region_held_drew (S := fun W : World => W.cell? ⟨T9, 0, none⟩ = some (.int .i64 fk) ∧ W.cell? ⟨T9, 1, none⟩ = some (.int .u32 (fx : Int)) ∧ W.cell? ⟨T9, 2, none⟩ = some (.int .i64 fa) ∧ W.cell? ⟨T1, 0, none⟩ = some (.int .i64 fk) ∧ W.cell? ⟨T1, 1, none⟩ = some (.int .u32 (fx : Int)) ∧ W.cell? ⟨T1, 2, none⟩ = some (.int .i64 fa)) (by kernel_rfl) (HCEc.out _ HDc.out) (fun hHeld => ?_)
        obtain ⟨Wc0, hW0⟩ : ∃ W0, W0 = wf.drew := ⟨_, rfl⟩
        rw [← hW0] at hHeld HDc ⊢
        clear hW0
        refine wpAnyH_take (i := 0) (oi := ?oi0c) (v := ?v0c) ?hi0c ?hs0c ?hf0c ?hr0c ?hQ0c ?hy0c ?hS0c ?h0c
        case hi0c => exact (by simp only [List.getElem?_toArray, List.getElem?_cons_zero]; rfl)
        case hs0c => kernel_rfl
        case hf0c => kernel_rfl
        case hr0c => kernel_rfl
        case hQ0c => exact fun _ _ _ h => h
        case hy0c =>
          refine Or.inl ⟨rfl, ?_⟩
          intro W hSw
          obtain ⟨y0, y1, y2, z0, z1, z2⟩ := hSw
          go_simp
          try with_reducible rfl
        case hS0c => assumption
        try simp only [Act.put, List.setIfInBounds_toArray, List.set_cons_zero, List.set_cons_succ]
        refine wpAnyH_take (i := 1) (oi := ?oi1c) (v := ?v1c) ?hi1c ?hs1c ?hf1c ?hr1c ?hQ1c ?hy1c ?hS1c ?h1c
        case hi1c => exact (by simp only [List.getElem?_toArray, List.getElem?_cons_succ, List.getElem?_cons_zero]; rfl)
        case hs1c => kernel_rfl
        case hf1c => kernel_rfl
        case hr1c => kernel_rfl
        case hQ1c => exact fun _ _ _ h => h
        case hy1c =>
          refine Or.inl ⟨rfl, ?_⟩
          intro W hSw
          obtain ⟨y0, y1, y2, z0, z1, z2⟩ := hSw
          go_simp
          try with_reducible rfl
        case hS1c => assumption
        try simp only [Act.put, List.setIfInBounds_toArray, List.set_cons_zero, List.set_cons_succ]
        refine wpAnyH_take (i := 2) (oi := ?oi2c) (v := (.bool false)) ?hi2c ?hs2c ?hf2c ?hr2c ?hQ2c ?hy2c ?hS2c ?h2c
        case hi2c => exact (by simp only [List.getElem?_toArray, List.getElem?_cons_succ, List.getElem?_cons_zero]; rfl)
        case hs2c => kernel_rfl
        case hf2c => kernel_rfl
        case hr2c => kernel_rfl
        case hQ2c => exact fun _ _ _ h => h
        case hy2c =>
          refine Or.inl ⟨rfl, ?_⟩
          intro W hSw
          obtain ⟨y0, y1, y2, z0, z1, z2⟩ := hSw
          go_simp
          all_goals first | with_reducible rfl | (simp; done)
        case hS2c => assumption
        try simp only [Act.put, List.setIfInBounds_toArray, List.set_cons_zero, List.set_cons_succ]
        refine wpAnyH_take (i := 3) (oi := ?oi3c) (v := ?v3c) ?hi3c ?hs3c ?hf3c ?hr3c ?hQ3c ?hy3c ?hS3c ?h3c
        case hi3c => exact (by simp only [List.getElem?_toArray, List.getElem?_cons_succ, List.getElem?_cons_zero]; rfl)
        case hs3c => kernel_rfl
        case hf3c => kernel_rfl
        case hr3c => kernel_rfl
        case hQ3c => exact fun _ _ _ h => h
        case hy3c =>
          refine Or.inl ⟨rfl, ?_⟩
          intro W hSw
          obtain ⟨y0, y1, y2, z0, z1, z2⟩ := hSw
          go_simp
          try with_reducible rfl
        case hS3c => assumption
        try simp only [Act.put, List.setIfInBounds_toArray, List.set_cons_zero, List.set_cons_succ]
        refine wpAnyH_take (i := 4) (oi := ?oi4c) (v := ?v4c) ?hi4c ?hs4c ?hf4c ?hr4c ?hQ4c ?hy4c ?hS4c ?h4c
        case hi4c => exact (by simp only [List.getElem?_toArray, List.getElem?_cons_succ, List.getElem?_cons_zero]; rfl)
        case hs4c => kernel_rfl
        case hf4c => kernel_rfl
        case hr4c => kernel_rfl
        case hQ4c => exact fun _ _ _ h => h
        case hy4c =>
          refine Or.inl ⟨rfl, ?_⟩
          intro W hSw
          obtain ⟨y0, y1, y2, z0, z1, z2⟩ := hSw
          go_simp
          try with_reducible rfl
        case hS4c => assumption
        try simp only [Act.put, List.setIfInBounds_toArray, List.set_cons_zero, List.set_cons_succ]
        refine wpAnyH_take (i := 5) (oi := ?oi5c) (v := ?v5c) ?hi5c ?hs5c ?hf5c ?hr5c ?hQ5c ?hy5c ?hS5c ?h5c
        case hi5c => exact (by simp only [List.getElem?_toArray, List.getElem?_cons_succ, List.getElem?_cons_zero]; rfl)
        case hs5c => kernel_rfl
        case hf5c => kernel_rfl
        case hr5c => kernel_rfl
        case hQ5c => exact fun _ _ _ h => h
        case hy5c =>
          refine Or.inl ⟨rfl, ?_⟩
          intro W hSw
          obtain ⟨y0, y1, y2, z0, z1, z2⟩ := hSw
          go_simp
          try with_reducible rfl
        case hS5c => assumption
        try simp only [Act.put, List.setIfInBounds_toArray, List.set_cons_zero, List.set_cons_succ]
        refine wpAnyH_take (i := 6) (oi := ?oi6c) (v := (.bool false)) ?hi6c ?hs6c ?hf6c ?hr6c ?hQ6c ?hy6c ?hS6c ?h6c
        case hi6c => exact (by simp only [List.getElem?_toArray, List.getElem?_cons_succ, List.getElem?_cons_zero]; rfl)
        case hs6c => kernel_rfl
        case hf6c => kernel_rfl
        case hr6c => kernel_rfl
        case hQ6c => exact fun _ _ _ h => h
        case hy6c =>
          refine Or.inl ⟨rfl, ?_⟩
          intro W hSw
          obtain ⟨y0, y1, y2, z0, z1, z2⟩ := hSw
          go_simp
          all_goals first | with_reducible rfl | (simp; done)
        case hS6c => assumption
        try simp only [Act.put, List.setIfInBounds_toArray, List.set_cons_zero, List.set_cons_succ]
        refine wpAnyH_take (i := 7) (oi := ?oi7c) (v := ?v7c) ?hi7c ?hs7c ?hf7c ?hr7c ?hQ7c ?hy7c ?hS7c ?h7c
        case hi7c => exact (by simp only [List.getElem?_toArray, List.getElem?_cons_succ, List.getElem?_cons_zero]; rfl)
        case hs7c => kernel_rfl
        case hf7c => kernel_rfl
        case hr7c => kernel_rfl
        case hQ7c => exact fun _ _ _ h => h
        case hy7c =>
          refine Or.inl ⟨rfl, ?_⟩
          intro W hSw
          obtain ⟨y0, y1, y2, z0, z1, z2⟩ := hSw
          go_simp
          try with_reducible rfl
        case hS7c => assumption
        try simp only [Act.put, List.setIfInBounds_toArray, List.set_cons_zero, List.set_cons_succ]
        refine wpAnyH_take (i := 8) (oi := ?oi8c) (v := ?v8c) ?hi8c ?hs8c ?hf8c ?hr8c ?hQ8c ?hy8c ?hS8c ?h8c
        case hi8c => exact (by simp only [List.getElem?_toArray, List.getElem?_cons_succ, List.getElem?_cons_zero]; rfl)
        case hs8c => kernel_rfl
        case hf8c => kernel_rfl
        case hr8c => kernel_rfl
        case hQ8c => exact fun _ _ _ h => h
        case hy8c =>
          refine Or.inl ⟨rfl, ?_⟩
          intro W hSw
          obtain ⟨y0, y1, y2, z0, z1, z2⟩ := hSw
          go_simp
          try with_reducible rfl
        case hS8c => assumption
        try simp only [Act.put, List.setIfInBounds_toArray, List.set_cons_zero, List.set_cons_succ]
        refine wpAnyH_take (i := 9) (oi := ?oi9c) (v := ?v9c) ?hi9c ?hs9c ?hf9c ?hr9c ?hQ9c ?hy9c ?hS9c ?h9c
        case hi9c => exact (by simp only [List.getElem?_toArray, List.getElem?_cons_succ, List.getElem?_cons_zero]; rfl)
        case hs9c => kernel_rfl
        case hf9c => kernel_rfl
        case hr9c => kernel_rfl
        case hQ9c => exact fun _ _ _ h => h
        case hy9c =>
          refine Or.inl ⟨rfl, ?_⟩
          intro W hSw
          obtain ⟨y0, y1, y2, z0, z1, z2⟩ := hSw
          go_simp
          try with_reducible rfl
        case hS9c => assumption
        try simp only [Act.put, List.setIfInBounds_toArray, List.set_cons_zero, List.set_cons_succ]
        refine wpAnyH_take (i := 10) (oi := ?oi10c) (v := ?v10c) ?hi10c ?hs10c ?hf10c ?hr10c ?hQ10c ?hy10c ?hS10c ?h10c
        case hi10c => exact (by simp only [List.getElem?_toArray, List.getElem?_cons_succ, List.getElem?_cons_zero]; rfl)
        case hs10c => kernel_rfl
        case hf10c => kernel_rfl
        case hr10c => kernel_rfl
        case hQ10c => exact fun _ _ _ h => h
        case hy10c =>
          refine Or.inl ⟨rfl, ?_⟩
          intro W hSw
          obtain ⟨y0, y1, y2, z0, z1, z2⟩ := hSw
          go_simp
          try with_reducible rfl
        case hS10c => assumption
        try simp only [Act.put, List.setIfInBounds_toArray, List.set_cons_zero, List.set_cons_succ]
        refine wpAnyH_ready (rs := [11]) (by kernel_rfl) (by simp) ?_
        refine AllReadyH.cons (o := _) rfl (fun K hK => ?_) AllReadyH.nil
        go_simp
        refine (own_any fk fx fa Wc0).mono ?_
        rintro r Wc1 ⟨rfl, hbq⟩
        have HBc1 := Lib.hid (HDc.out.trans (hbq.mono HDc.out.size))
        clear hbq
        refine hK.out _ _ (HCEc.out _ HBc1.out) (fun hHeld => ?_)
        clear hK K
        try simp only [Act.put, List.setIfInBounds_toArray, List.set_cons_zero, List.set_cons_succ]
        refine wpAnyH_take (i := 12) (oi := ?oi12c) (v := (.bool false)) ?hi12c ?hs12c ?hf12c ?hr12c ?hQ12c ?hy12c ?hS12c ?h12c
        case hi12c => exact (by simp only [List.getElem?_toArray, List.getElem?_cons_succ, List.getElem?_cons_zero]; rfl)
        case hs12c => kernel_rfl
        case hf12c => kernel_rfl
        case hr12c => kernel_rfl
        case hQ12c => exact fun _ _ _ h => h
        case hy12c =>
          refine Or.inl ⟨rfl, ?_⟩
          intro W hSw
          obtain ⟨y0, y1, y2, z0, z1, z2⟩ := hSw
          go_simp
          all_goals first | with_reducible rfl | (simp; done)
        case hS12c => assumption
        try simp only [Act.put, List.setIfInBounds_toArray, List.set_cons_zero, List.set_cons_succ]
        refine wpAnyH_take (i := 13) (oi := ?oi13c) (v := ?v13c) ?hi13c ?hs13c ?hf13c ?hr13c ?hQ13c ?hy13c ?hS13c ?h13c
        case hi13c => exact (by simp only [List.getElem?_toArray, List.getElem?_cons_succ, List.getElem?_cons_zero]; rfl)
        case hs13c => kernel_rfl
        case hf13c => kernel_rfl
        case hr13c => kernel_rfl
        case hQ13c => exact fun _ _ _ h => h
        case hy13c =>
          refine Or.inl ⟨rfl, ?_⟩
          intro W hSw
          obtain ⟨y0, y1, y2, z0, z1, z2⟩ := hSw
          go_simp
          try with_reducible rfl
        case hS13c => assumption
        try simp only [Act.put, List.setIfInBounds_toArray, List.set_cons_zero, List.set_cons_succ]
        refine wpAnyH_take (i := 14) (oi := ?oi14c) (v := ?v14c) ?hi14c ?hs14c ?hf14c ?hr14c ?hQ14c ?hy14c ?hS14c ?h14c
        case hi14c => exact (by simp only [List.getElem?_toArray, List.getElem?_cons_succ, List.getElem?_cons_zero]; rfl)
        case hs14c => kernel_rfl
        case hf14c => kernel_rfl
        case hr14c => kernel_rfl
        case hQ14c => exact fun _ _ _ h => h
        case hy14c =>
          refine Or.inl ⟨rfl, ?_⟩
          intro W hSw
          obtain ⟨y0, y1, y2, z0, z1, z2⟩ := hSw
          go_simp
          try with_reducible rfl
        case hS14c => assumption
        try simp only [Act.put, List.setIfInBounds_toArray, List.set_cons_zero, List.set_cons_succ]
        refine wpAnyH_take (i := 15) (oi := ?oi15c) (v := ?v15c) ?hi15c ?hs15c ?hf15c ?hr15c ?hQ15c ?hy15c ?hS15c ?h15c
        case hi15c => exact (by simp only [List.getElem?_toArray, List.getElem?_cons_succ, List.getElem?_cons_zero]; rfl)
        case hs15c => kernel_rfl
        case hf15c => kernel_rfl
        case hr15c => kernel_rfl
        case hQ15c => exact fun _ _ _ h => h
        case hy15c =>
          refine Or.inl ⟨rfl, ?_⟩
          intro W hSw
          obtain ⟨y0, y1, y2, z0, z1, z2⟩ := hSw
          go_simp
          try with_reducible rfl
        case hS15c => assumption
        try simp only [Act.put, List.setIfInBounds_toArray, List.set_cons_zero, List.set_cons_succ]
        refine wpAnyH_take (i := 16) (oi := ?oi16c) (v := ?v16c) ?hi16c ?hs16c ?hf16c ?hr16c ?hQ16c ?hy16c ?hS16c ?h16c
        case hi16c => exact (by simp only [List.getElem?_toArray, List.getElem?_cons_succ, List.getElem?_cons_zero]; rfl)
        case hs16c => kernel_rfl
        case hf16c => kernel_rfl
        case hr16c => kernel_rfl
        case hQ16c => exact fun _ _ _ h => h
        case hy16c =>
          refine Or.inl ⟨rfl, ?_⟩
          intro W hSw
          obtain ⟨y0, y1, y2, z0, z1, z2⟩ := hSw
          go_simp
          try with_reducible rfl
        case hS16c => assumption
        try simp only [Act.put, List.setIfInBounds_toArray, List.set_cons_zero, List.set_cons_succ]
        refine wpAnyH_take (i := 17) (oi := ?oi17c) (v := (.bool false)) ?hi17c ?hs17c ?hf17c ?hr17c ?hQ17c ?hy17c ?hS17c ?h17c
        case hi17c => exact (by simp only [List.getElem?_toArray, List.getElem?_cons_succ, List.getElem?_cons_zero]; rfl)
        case hs17c => kernel_rfl
        case hf17c => kernel_rfl
        case hr17c => kernel_rfl
        case hQ17c => exact fun _ _ _ h => h
        case hy17c =>
          refine Or.inl ⟨rfl, ?_⟩
          intro W hSw
          obtain ⟨y0, y1, y2, z0, z1, z2⟩ := hSw
          go_simp
          all_goals first | with_reducible rfl | (simp; done)
        case hS17c => assumption
        try simp only [Act.put, List.setIfInBounds_toArray, List.set_cons_zero, List.set_cons_succ]
        refine wpAnyH_take (i := 18) (oi := ?oi18c) (v := ?v18c) ?hi18c ?hs18c ?hf18c ?hr18c ?hQ18c ?hy18c ?hS18c ?h18c
        case hi18c => exact (by simp only [List.getElem?_toArray, List.getElem?_cons_succ, List.getElem?_cons_zero]; rfl)
        case hs18c => kernel_rfl
        case hf18c => kernel_rfl
        case hr18c => kernel_rfl
        case hQ18c => exact fun _ _ _ h => h
        case hy18c =>
          refine Or.inl ⟨rfl, ?_⟩
          intro W hSw
          obtain ⟨y0, y1, y2, z0, z1, z2⟩ := hSw
          go_simp
          try with_reducible rfl
        case hS18c => assumption
        try simp only [Act.put, List.setIfInBounds_toArray, List.set_cons_zero, List.set_cons_succ]
        refine wpAnyH_take (i := 19) (oi := ?oi19c) (v := ?v19c) ?hi19c ?hs19c ?hf19c ?hr19c ?hQ19c ?hy19c ?hS19c ?h19c
        case hi19c => exact (by simp only [List.getElem?_toArray, List.getElem?_cons_succ, List.getElem?_cons_zero]; rfl)
        case hs19c => kernel_rfl
        case hf19c => kernel_rfl
        case hr19c => kernel_rfl
        case hQ19c => exact fun _ _ _ h => h
        case hy19c =>
          refine Or.inl ⟨rfl, ?_⟩
          intro W hSw
          obtain ⟨y0, y1, y2, z0, z1, z2⟩ := hSw
          go_simp
          try with_reducible rfl
        case hS19c => assumption
        try simp only [Act.put, List.setIfInBounds_toArray, List.set_cons_zero, List.set_cons_succ]
        refine wpAnyH_take (i := 20) (oi := ?oi20c) (v := ?v20c) ?hi20c ?hs20c ?hf20c ?hr20c ?hQ20c ?hy20c ?hS20c ?h20c
        case hi20c => exact (by simp only [List.getElem?_toArray, List.getElem?_cons_succ, List.getElem?_cons_zero]; rfl)
        case hs20c => kernel_rfl
        case hf20c => kernel_rfl
        case hr20c => kernel_rfl
        case hQ20c => exact fun _ _ _ h => h
        case hy20c =>
          refine Or.inl ⟨rfl, ?_⟩
          intro W hSw
          obtain ⟨y0, y1, y2, z0, z1, z2⟩ := hSw
          go_simp
          try with_reducible rfl
        case hS20c => assumption
        try simp only [Act.put, List.setIfInBounds_toArray, List.set_cons_zero, List.set_cons_succ]
        refine wpAnyH_take (i := 22) (oi := ?oi22c) (v := ?v22c) ?hi22c ?hs22c ?hf22c ?hr22c ?hQ22c ?hy22c ?hS22c ?h22c
        case hi22c => exact (by simp only [List.getElem?_toArray, List.getElem?_cons_succ, List.getElem?_cons_zero]; rfl)
        case hs22c => kernel_rfl
        case hf22c => kernel_rfl
        case hr22c => kernel_rfl
        case hQ22c => exact fun _ _ _ h => h
        case hy22c =>
          refine Or.inl ⟨rfl, ?_⟩
          intro W hSw
          obtain ⟨y0, y1, y2, z0, z1, z2⟩ := hSw
          go_simp
          try with_reducible rfl
        case hS22c => assumption
        try simp only [Act.put, List.setIfInBounds_toArray, List.set_cons_zero, List.set_cons_succ]
        refine wpAnyH_take (i := 23) (oi := ?oi23c) (v := ?v23c) ?hi23c ?hs23c ?hf23c ?hr23c ?hQ23c ?hy23c ?hS23c ?h23c
        case hi23c => exact (by simp only [List.getElem?_toArray, List.getElem?_cons_succ, List.getElem?_cons_zero]; rfl)
        case hs23c => kernel_rfl
        case hf23c => kernel_rfl
        case hr23c => kernel_rfl
        case hQ23c => exact fun _ _ _ h => h
        case hy23c =>
          refine Or.inl ⟨rfl, ?_⟩
          intro W hSw
          obtain ⟨y0, y1, y2, z0, z1, z2⟩ := hSw
          go_simp
          try with_reducible rfl
        case hS23c => assumption
        try simp only [Act.put, List.setIfInBounds_toArray, List.set_cons_zero, List.set_cons_succ]
        refine wpAnyH_ready (rs := [21]) (by kernel_rfl) (by simp) ?_
        refine AllReadyH.cons (o := _) rfl (fun K hK => ?_) AllReadyH.nil
        go_simp
        refine (HLNf.out Wc1 HBc1.out).mono ?_
        rintro r Wc2 ⟨rfl, hbq⟩
        have HBc2 := Lib.hid (HBc1.out.trans (hbq.mono HBc1.out.size))
        clear hbq
        refine hK.out _ _ (HCEc.out _ HBc2.out) (fun hHeld => ?_)
        clear hK K
        try simp only [Act.put, List.setIfInBounds_toArray, List.set_cons_zero, List.set_cons_succ]
        refine wpAnyH_take (i := 24) (oi := ?oi24c) (v := (.bool false)) ?hi24c ?hs24c ?hf24c ?hr24c ?hQ24c ?hy24c ?hS24c ?h24c
        case hi24c => exact (by simp only [List.getElem?_toArray, List.getElem?_cons_succ, List.getElem?_cons_zero]; rfl)
        case hs24c => kernel_rfl
        case hf24c => kernel_rfl
        case hr24c => kernel_rfl
        case hQ24c => exact fun _ _ _ h => h
        case hy24c =>
          refine Or.inl ⟨rfl, ?_⟩
          intro W hSw
          obtain ⟨y0, y1, y2, z0, z1, z2⟩ := hSw
          go_simp
          all_goals first | with_reducible rfl | (simp; done)
        case hS24c => assumption
        try simp only [Act.put, List.setIfInBounds_toArray, List.set_cons_zero, List.set_cons_succ]
        refine wpAnyH_take (i := 25) (oi := ?oi25c) (v := ?v25c) ?hi25c ?hs25c ?hf25c ?hr25c ?hQ25c ?hy25c ?hS25c ?h25c
        case hi25c => exact (by simp only [List.getElem?_toArray, List.getElem?_cons_succ, List.getElem?_cons_zero]; rfl)
        case hs25c => kernel_rfl
        case hf25c => kernel_rfl
        case hr25c => kernel_rfl
        case hQ25c => exact fun _ _ _ h => h
        case hy25c =>
          refine Or.inl ⟨rfl, ?_⟩
          intro W hSw
          obtain ⟨y0, y1, y2, z0, z1, z2⟩ := hSw
          go_simp
          try with_reducible rfl
        case hS25c => assumption
        try simp only [Act.put, List.setIfInBounds_toArray, List.set_cons_zero, List.set_cons_succ]
        refine wpAnyH_done (by kernel_rfl) ?_ _
        have HSz := Lib.hid ((HSf.out.after HBc2.out).noact)
        try go_wp2
        go_roundw
        case rel => exact ⟨k + 1, tn, (offN ek ex L), B, m, c', by omega, by omega, rfl, by go_num, HSz⟩
        case measure => simp [intOf] <;> omega
      · go_upto_region 11 with (fail)
        rw [← H2.out, ← HG0.out]
        clear d0 d1 d2 d3
        have a0 := cell_of_row w2 G 0 _ _ _ (HS2.out.ac _ _ rfl)
        have a1 := cell_of_row w2 G 1 _ _ _ (HS2.out.ac _ _ rfl)
        have a2 := cell_of_row w2 G 2 _ _ _ (HS2.out.ac _ _ rfl)
        have a3 := cell_of_row w2 G 3 _ _ _ (HS2.out.ac _ _ rfl)
        simp at a0 a1 a2 a3
        go_wp2_with fail
        refine (pdue_any ea w2 HS2.out.it (by have := HS2.out.bd; omega)).mono ?_
        rintro r w3 ⟨dk, dx, da, db, L3, rfl, hD, hI3, hC3⟩
        have HDR := Lib.hid hD
        have HRIS : Hid (Ris L) := HS2.out.it.ris
        have hof := hD.len
        have HS3 := Lib.hid (HS2.out.prog hI3 hC3 ⟨by have := HS2.out.bd; omega, by have := HS2.out.bd; omega⟩)
        obtain ⟨T5, hT5⟩ : ∃ T, T = w3.heap.size := ⟨_, rfl⟩
        obtain ⟨w4, hw4⟩ : ∃ v, v = w3.alloc (.cells #[.int .i64 dk, .int .u32 (dx : Int), .int .i64 da] 35) := ⟨_, rfl⟩
        have hbt : Below w3.heap.size w3 w4 := by rw [hw4]; exact (Below.refl _ _).alloc (Nat.le_refl _) _
        have HRT5 : Hid (w4.heap[T5]? = some (.cells #[.int .i64 dk, .int .u32 (dx : Int), .int .i64 da] 35 (0, 0))) := by rw [hw4, hT5]; exact heap_alloc_new w3 _
        have HS4 := Lib.hid (HS3.out.after hbt)
        have HAt := Lib.hid hw4
        clear hw4
        clear hI3 hC3 hD
        clear a0 a1 a2 a3
        go_upto_region 23 with (fail)
        rw [← HAt.out, ← hT5]
        clear hT5 hbt
        have a0 := cell_of_row w4 G 0 _ _ _ (HS4.out.ac _ _ rfl)
        have a1 := cell_of_row w4 G 1 _ _ _ (HS4.out.ac _ _ rfl)
        have a2 := cell_of_row w4 G 2 _ _ _ (HS4.out.ac _ _ rfl)
        have a3 := cell_of_row w4 G 3 _ _ _ (HS4.out.ac _ _ rfl)
        simp at a0 a1 a2 a3
        go_wp2_with fail
        refine (rdue_any w.heap.size A n c L L3 ea dk da dx db w4 HS4.out.ln HS4.out.ow HS4.out.ch.size (by have := HS4.out.bd; have := HS4.out.ln; omega) HRIS.out HDR.out).mono ?_
        rintro r w5 ⟨B, m, c', rfl, hm, hown, hb5⟩
        have HS5 := Lib.hid (HS4.out.refd hb5 hown hm (by have := HS2.out.bd; omega))
        have hk5 := (hb5.block _ (lt_of_block HRT5.out)).trans HRT5.out
        obtain ⟨T8, hT8⟩ : ∃ T, T = w5.heap.size := ⟨_, rfl⟩
        obtain ⟨w6, hw6⟩ : ∃ v, v = w5.alloc (.cells #[.int .i64 dk, .int .u32 (dx : Int), .int .i64 da] 38) := ⟨_, rfl⟩
        have hbu : Below w5.heap.size w5 w6 := by rw [hw6]; exact (Below.refl _ _).alloc (Nat.le_refl _) _
        have HRT8 : Hid (w6.heap[T8]? = some (.cells #[.int .i64 dk, .int .u32 (dx : Int), .int .i64 da] 38 (0, 0))) := by rw [hw6, hT8]; exact heap_alloc_new w5 _
        have HS6 := Lib.hid (HS5.out.after hbu)
        have HAu := Lib.hid hw6
        clear hw6
        have HKT5 : Hid (w6.heap[T5]? = some (.cells #[.int .i64 dk, .int .u32 (dx : Int), .int .i64 da] 35 (0, 0))) := (hbu.block _ (lt_of_block hk5)).trans hk5
        clear hm hown hb5 hk5
        clear a0 a1 a2 a3
        go_upto_region 24 with (fail)
        rw [← HAu.out, ← hT8]
        clear hT8 hbu
        have HCEg : Hid (∀ V, Below w6.heap.size w6 V → (fun W : World => W.cell? ⟨T5, 0, none⟩ = some (.int .i64 dk) ∧ W.cell? ⟨T5, 1, none⟩ = some (.int .u32 (dx : Int)) ∧ W.cell? ⟨T5, 2, none⟩ = some (.int .i64 da) ∧ W.cell? ⟨T8, 0, none⟩ = some (.int .i64 dk) ∧ W.cell? ⟨T8, 1, none⟩ = some (.int .u32 (dx : Int)) ∧ W.cell? ⟨T8, 2, none⟩ = some (.int .i64 da)) V) := fun V hV => by
          have q5 := (hV.block _ (lt_of_block HKT5.out)).trans HKT5.out
          have q8 := (hV.block _ (lt_of_block HRT8.out)).trans HRT8.out
          exact ⟨cell_of_row V _ 0 _ _ _ q5, cell_of_row V _ 1 _ _ _ q5, cell_of_row V _ 2 _ _ _ q5, cell_of_row V _ 0 _ _ _ q8, cell_of_row V _ 1 _ _ _ q8, cell_of_row V _ 2 _ _ _ q8⟩
        have HDg : Hid (Below w6.heap.size w6 w6.drew) := (Below.refl _ _).drew
        refine wp_region_held_drew (S := fun W : World => W.cell? ⟨T5, 0, none⟩ = some (.int .i64 dk) ∧ W.cell? ⟨T5, 1, none⟩ = some (.int .u32 (dx : Int)) ∧ W.cell? ⟨T5, 2, none⟩ = some (.int .i64 da) ∧ W.cell? ⟨T8, 0, none⟩ = some (.int .i64 dk) ∧ W.cell? ⟨T8, 1, none⟩ = some (.int .u32 (dx : Int)) ∧ W.cell? ⟨T8, 2, none⟩ = some (.int .i64 da)) (by kernel_rfl) (HCEg.out _ HDg.out) (fun hHeld => ?_)
        obtain ⟨Wg0, hW0⟩ : ∃ W0, W0 = w6.drew := ⟨_, rfl⟩
        rw [← hW0] at hHeld HDg ⊢
        clear hW0
        refine wpAnyH_take (i := 0) (oi := ?oi0g) (v := ?v0g) ?hi0g ?hs0g ?hf0g ?hr0g ?hQ0g ?hy0g ?hS0g ?h0g
        case hi0g => exact (by simp only [List.getElem?_toArray, List.getElem?_cons_zero]; rfl)
        case hs0g => kernel_rfl
        case hf0g => kernel_rfl
        case hr0g => kernel_rfl
        case hQ0g => exact fun _ _ _ h => h
        case hy0g =>
          refine Or.inl ⟨rfl, ?_⟩
          intro W hSw
          obtain ⟨y0, y1, y2, z0, z1, z2⟩ := hSw
          go_simp
          try with_reducible rfl
        case hS0g => assumption
        try simp only [Act.put, List.setIfInBounds_toArray, List.set_cons_zero, List.set_cons_succ]
        refine wpAnyH_take (i := 1) (oi := ?oi1g) (v := ?v1g) ?hi1g ?hs1g ?hf1g ?hr1g ?hQ1g ?hy1g ?hS1g ?h1g
        case hi1g => exact (by simp only [List.getElem?_toArray, List.getElem?_cons_succ, List.getElem?_cons_zero]; rfl)
        case hs1g => kernel_rfl
        case hf1g => kernel_rfl
        case hr1g => kernel_rfl
        case hQ1g => exact fun _ _ _ h => h
        case hy1g =>
          refine Or.inl ⟨rfl, ?_⟩
          intro W hSw
          obtain ⟨y0, y1, y2, z0, z1, z2⟩ := hSw
          go_simp
          try with_reducible rfl
        case hS1g => assumption
        try simp only [Act.put, List.setIfInBounds_toArray, List.set_cons_zero, List.set_cons_succ]
        refine wpAnyH_take (i := 2) (oi := ?oi2g) (v := (.bool false)) ?hi2g ?hs2g ?hf2g ?hr2g ?hQ2g ?hy2g ?hS2g ?h2g
        case hi2g => exact (by simp only [List.getElem?_toArray, List.getElem?_cons_succ, List.getElem?_cons_zero]; rfl)
        case hs2g => kernel_rfl
        case hf2g => kernel_rfl
        case hr2g => kernel_rfl
        case hQ2g => exact fun _ _ _ h => h
        case hy2g =>
          refine Or.inl ⟨rfl, ?_⟩
          intro W hSw
          obtain ⟨y0, y1, y2, z0, z1, z2⟩ := hSw
          go_simp
          all_goals first | with_reducible rfl | (simp; done)
        case hS2g => assumption
        try simp only [Act.put, List.setIfInBounds_toArray, List.set_cons_zero, List.set_cons_succ]
        refine wpAnyH_take (i := 3) (oi := ?oi3g) (v := ?v3g) ?hi3g ?hs3g ?hf3g ?hr3g ?hQ3g ?hy3g ?hS3g ?h3g
        case hi3g => exact (by simp only [List.getElem?_toArray, List.getElem?_cons_succ, List.getElem?_cons_zero]; rfl)
        case hs3g => kernel_rfl
        case hf3g => kernel_rfl
        case hr3g => kernel_rfl
        case hQ3g => exact fun _ _ _ h => h
        case hy3g =>
          refine Or.inl ⟨rfl, ?_⟩
          intro W hSw
          obtain ⟨y0, y1, y2, z0, z1, z2⟩ := hSw
          go_simp
          try with_reducible rfl
        case hS3g => assumption
        try simp only [Act.put, List.setIfInBounds_toArray, List.set_cons_zero, List.set_cons_succ]
        refine wpAnyH_take (i := 4) (oi := ?oi4g) (v := ?v4g) ?hi4g ?hs4g ?hf4g ?hr4g ?hQ4g ?hy4g ?hS4g ?h4g
        case hi4g => exact (by simp only [List.getElem?_toArray, List.getElem?_cons_succ, List.getElem?_cons_zero]; rfl)
        case hs4g => kernel_rfl
        case hf4g => kernel_rfl
        case hr4g => kernel_rfl
        case hQ4g => exact fun _ _ _ h => h
        case hy4g =>
          refine Or.inl ⟨rfl, ?_⟩
          intro W hSw
          obtain ⟨y0, y1, y2, z0, z1, z2⟩ := hSw
          go_simp
          try with_reducible rfl
        case hS4g => assumption
        try simp only [Act.put, List.setIfInBounds_toArray, List.set_cons_zero, List.set_cons_succ]
        refine wpAnyH_take (i := 5) (oi := ?oi5g) (v := ?v5g) ?hi5g ?hs5g ?hf5g ?hr5g ?hQ5g ?hy5g ?hS5g ?h5g
        case hi5g => exact (by simp only [List.getElem?_toArray, List.getElem?_cons_succ, List.getElem?_cons_zero]; rfl)
        case hs5g => kernel_rfl
        case hf5g => kernel_rfl
        case hr5g => kernel_rfl
        case hQ5g => exact fun _ _ _ h => h
        case hy5g =>
          refine Or.inl ⟨rfl, ?_⟩
          intro W hSw
          obtain ⟨y0, y1, y2, z0, z1, z2⟩ := hSw
          go_simp
          try with_reducible rfl
        case hS5g => assumption
        try simp only [Act.put, List.setIfInBounds_toArray, List.set_cons_zero, List.set_cons_succ]
        refine wpAnyH_ready (rs := [6]) (by kernel_rfl) (by simp) ?_
        refine AllReadyH.cons (o := _) rfl (fun K hK => ?_) AllReadyH.nil
        go_simp
        refine (own_any dk dx da Wg0).mono ?_
        rintro r Wg1 ⟨rfl, hbq⟩
        have HBg1 := Lib.hid (HDg.out.trans (hbq.mono HDg.out.size))
        clear hbq
        refine hK.out _ _ (HCEg.out _ HBg1.out) (fun hHeld => ?_)
        clear hK K
        try simp only [Act.put, List.setIfInBounds_toArray, List.set_cons_zero, List.set_cons_succ]
        refine wpAnyH_take (i := 7) (oi := ?oi7g) (v := (.bool false)) ?hi7g ?hs7g ?hf7g ?hr7g ?hQ7g ?hy7g ?hS7g ?h7g
        case hi7g => exact (by simp only [List.getElem?_toArray, List.getElem?_cons_succ, List.getElem?_cons_zero]; rfl)
        case hs7g => kernel_rfl
        case hf7g => kernel_rfl
        case hr7g => kernel_rfl
        case hQ7g => exact fun _ _ _ h => h
        case hy7g =>
          refine Or.inl ⟨rfl, ?_⟩
          intro W hSw
          obtain ⟨y0, y1, y2, z0, z1, z2⟩ := hSw
          go_simp
          all_goals first | with_reducible rfl | (simp; done)
        case hS7g => assumption
        try simp only [Act.put, List.setIfInBounds_toArray, List.set_cons_zero, List.set_cons_succ]
        refine wpAnyH_take (i := 8) (oi := ?oi8g) (v := ?v8g) ?hi8g ?hs8g ?hf8g ?hr8g ?hQ8g ?hy8g ?hS8g ?h8g
        case hi8g => exact (by simp only [List.getElem?_toArray, List.getElem?_cons_succ, List.getElem?_cons_zero]; rfl)
        case hs8g => kernel_rfl
        case hf8g => kernel_rfl
        case hr8g => kernel_rfl
        case hQ8g => exact fun _ _ _ h => h
        case hy8g =>
          refine Or.inl ⟨rfl, ?_⟩
          intro W hSw
          obtain ⟨y0, y1, y2, z0, z1, z2⟩ := hSw
          go_simp
          try with_reducible rfl
        case hS8g => assumption
        try simp only [Act.put, List.setIfInBounds_toArray, List.set_cons_zero, List.set_cons_succ]
        refine wpAnyH_done (by kernel_rfl) ?_ _
        have HS7 := Lib.hid (HS6.out.after HBg1.out)
        go_upto_region 27 with (fail)
        have a0 := cell_of_row Wg1 G 0 _ _ _ (HS7.out.ac _ _ rfl)
        have a1 := cell_of_row Wg1 G 1 _ _ _ (HS7.out.ac _ _ rfl)
        have a2 := cell_of_row Wg1 G 2 _ _ _ (HS7.out.ac _ _ rfl)
        have a3 := cell_of_row Wg1 G 3 _ _ _ (HS7.out.ac _ _ rfl)
        simp at a0 a1 a2 a3
        go_wp2_with fail
        refine (findat_any ek ex Wg1 HS7.out.it HWF.out).mono ?_
        rintro r w9 ⟨⟨v9, b9, rfl, hf9⟩, hw9⟩
        subst hw9
        have HRF := Lib.hid (rfind_any B m c' ek ex L3 w9 HS7.out.ln (Rt.of_own HS7.out.ow) (by have := HS7.out.bd; have := HS7.out.ln; omega))
        go_wp2_with fail
        refine HRF.out.mono ?_
        rintro r wa ⟨⟨va, ba, rfl, hfa⟩, hwa⟩
        subst hwa
        obtain ⟨hva, hba⟩ := find_one HS7.out.it.dis hf9 hfa
        subst hva hba
        clear hf9 hfa
        go_wp2_with fail
        refine (next_any wa HS7.out.it).mono ?_
        rintro r wb ⟨⟨fk, fx, fa, fb, hF, rfl⟩, hbb⟩
        have HSb := Lib.hid (HS7.out.after hbb)
        have HFR := Lib.hid hF
        obtain ⟨T9, hT9⟩ : ∃ T, T = wb.heap.size := ⟨_, rfl⟩
        obtain ⟨wc, hwc⟩ : ∃ v, v = wb.alloc (.cells #[.int .i64 fk, .int .u32 (fx : Int), .int .i64 fa] 35) := ⟨_, rfl⟩
        have hbcd : Below wb.heap.size wb wc := by rw [hwc]; exact (Below.refl _ _).alloc (Nat.le_refl _) _
        have HRT9 : Hid (wc.heap[T9]? = some (.cells #[.int .i64 fk, .int .u32 (fx : Int), .int .i64 fa] 35 (0, 0))) := by rw [hwc, hT9]; exact heap_alloc_new wb _
        have HSc := Lib.hid (HSb.out.after hbcd)
        have HAcd := Lib.hid hwc
        clear hwc
        clear hbb hF a0 a1 a2 a3
        go_upto_region 30 with (fail)
        rw [← HAcd.out, ← hT9]
        clear hT9 hbcd
        go_wp2_with fail
        refine (rfirst_any B m c' L3 fk fx fa fb wc HSc.out.ln (Rt.of_own HSc.out.ow) (by have := HSc.out.bd; have := HSc.out.ln; omega) HSc.out.it.ris HFR.out).mono ?_
        rintro r wd ⟨rfl, hbd⟩
        have HSd := Lib.hid (HSc.out.after hbd)
        have hk9 := (hbd.block _ (lt_of_block HRT9.out)).trans HRT9.out
        obtain ⟨T1, hT1⟩ : ∃ T, T = wd.heap.size := ⟨_, rfl⟩
        obtain ⟨wf, hwf⟩ : ∃ v, v = wd.alloc (.cells #[.int .i64 fk, .int .u32 (fx : Int), .int .i64 fa] 38) := ⟨_, rfl⟩
        have hbfd : Below wd.heap.size wd wf := by rw [hwf]; exact (Below.refl _ _).alloc (Nat.le_refl _) _
        have HRT1 : Hid (wf.heap[T1]? = some (.cells #[.int .i64 fk, .int .u32 (fx : Int), .int .i64 fa] 38 (0, 0))) := by rw [hwf, hT1]; exact heap_alloc_new wd _
        have HSf := Lib.hid (HSd.out.after hbfd)
        have HAfd := Lib.hid hwf
        clear hwf
        have HKT9 : Hid (wf.heap[T9]? = some (.cells #[.int .i64 fk, .int .u32 (fx : Int), .int .i64 fa] 35 (0, 0))) := (hbfd.block _ (lt_of_block hk9)).trans hk9
        have HLNf : Hid (∀ V, Below wf.heap.size wf V → Calls Try.prog 24 #[.pointer (some ⟨Q, 0, none⟩)] V fun r w' => r = .returned (.int .i64 (m : Int)) ∧ Below V.heap.size V w') := fun V hV => (len_any V (HSf.out.it.after hV)).mono fun r w' ⟨h1, h2⟩ => ⟨by rw [h1, HSf.out.ln], by rw [h2]; exact Below.refl _ _⟩
        clear hbd hk9
        go_upto_region 31 with (fail)
        rw [← HAfd.out, ← hT1]
        clear hT1 hbfd
        have HCEd : Hid (∀ V, Below wf.heap.size wf V → (fun W : World => W.cell? ⟨T9, 0, none⟩ = some (.int .i64 fk) ∧ W.cell? ⟨T9, 1, none⟩ = some (.int .u32 (fx : Int)) ∧ W.cell? ⟨T9, 2, none⟩ = some (.int .i64 fa) ∧ W.cell? ⟨T1, 0, none⟩ = some (.int .i64 fk) ∧ W.cell? ⟨T1, 1, none⟩ = some (.int .u32 (fx : Int)) ∧ W.cell? ⟨T1, 2, none⟩ = some (.int .i64 fa)) V) := fun V hV => by
          have q5 := (hV.block _ (lt_of_block HKT9.out)).trans HKT9.out
          have q8 := (hV.block _ (lt_of_block HRT1.out)).trans HRT1.out
          exact ⟨cell_of_row V _ 0 _ _ _ q5, cell_of_row V _ 1 _ _ _ q5, cell_of_row V _ 2 _ _ _ q5, cell_of_row V _ 0 _ _ _ q8, cell_of_row V _ 1 _ _ _ q8, cell_of_row V _ 2 _ _ _ q8⟩
        have HDd : Hid (Below wf.heap.size wf wf.drew) := (Below.refl _ _).drew
        refine wp_region_held_drew (S := fun W : World => W.cell? ⟨T9, 0, none⟩ = some (.int .i64 fk) ∧ W.cell? ⟨T9, 1, none⟩ = some (.int .u32 (fx : Int)) ∧ W.cell? ⟨T9, 2, none⟩ = some (.int .i64 fa) ∧ W.cell? ⟨T1, 0, none⟩ = some (.int .i64 fk) ∧ W.cell? ⟨T1, 1, none⟩ = some (.int .u32 (fx : Int)) ∧ W.cell? ⟨T1, 2, none⟩ = some (.int .i64 fa)) (by kernel_rfl) (HCEd.out _ HDd.out) (fun hHeld => ?_)
        obtain ⟨Wd0, hW0⟩ : ∃ W0, W0 = wf.drew := ⟨_, rfl⟩
        rw [← hW0] at hHeld HDd ⊢
        clear hW0
        refine wpAnyH_take (i := 0) (oi := ?oi0d) (v := ?v0d) ?hi0d ?hs0d ?hf0d ?hr0d ?hQ0d ?hy0d ?hS0d ?h0d
        case hi0d => exact (by simp only [List.getElem?_toArray, List.getElem?_cons_zero]; rfl)
        case hs0d => kernel_rfl
        case hf0d => kernel_rfl
        case hr0d => kernel_rfl
        case hQ0d => exact fun _ _ _ h => h
        case hy0d =>
          refine Or.inl ⟨rfl, ?_⟩
          intro W hSw
          obtain ⟨y0, y1, y2, z0, z1, z2⟩ := hSw
          go_simp
          try with_reducible rfl
        case hS0d => assumption
        try simp only [Act.put, List.setIfInBounds_toArray, List.set_cons_zero, List.set_cons_succ]
        refine wpAnyH_take (i := 1) (oi := ?oi1d) (v := ?v1d) ?hi1d ?hs1d ?hf1d ?hr1d ?hQ1d ?hy1d ?hS1d ?h1d
        case hi1d => exact (by simp only [List.getElem?_toArray, List.getElem?_cons_succ, List.getElem?_cons_zero]; rfl)
        case hs1d => kernel_rfl
        case hf1d => kernel_rfl
        case hr1d => kernel_rfl
        case hQ1d => exact fun _ _ _ h => h
        case hy1d =>
          refine Or.inl ⟨rfl, ?_⟩
          intro W hSw
          obtain ⟨y0, y1, y2, z0, z1, z2⟩ := hSw
          go_simp
          try with_reducible rfl
        case hS1d => assumption
        try simp only [Act.put, List.setIfInBounds_toArray, List.set_cons_zero, List.set_cons_succ]
        refine wpAnyH_take (i := 2) (oi := ?oi2d) (v := (.bool false)) ?hi2d ?hs2d ?hf2d ?hr2d ?hQ2d ?hy2d ?hS2d ?h2d
        case hi2d => exact (by simp only [List.getElem?_toArray, List.getElem?_cons_succ, List.getElem?_cons_zero]; rfl)
        case hs2d => kernel_rfl
        case hf2d => kernel_rfl
        case hr2d => kernel_rfl
        case hQ2d => exact fun _ _ _ h => h
        case hy2d =>
          refine Or.inl ⟨rfl, ?_⟩
          intro W hSw
          obtain ⟨y0, y1, y2, z0, z1, z2⟩ := hSw
          go_simp
          all_goals first | with_reducible rfl | (simp; done)
        case hS2d => assumption
        try simp only [Act.put, List.setIfInBounds_toArray, List.set_cons_zero, List.set_cons_succ]
        refine wpAnyH_take (i := 3) (oi := ?oi3d) (v := ?v3d) ?hi3d ?hs3d ?hf3d ?hr3d ?hQ3d ?hy3d ?hS3d ?h3d
        case hi3d => exact (by simp only [List.getElem?_toArray, List.getElem?_cons_succ, List.getElem?_cons_zero]; rfl)
        case hs3d => kernel_rfl
        case hf3d => kernel_rfl
        case hr3d => kernel_rfl
        case hQ3d => exact fun _ _ _ h => h
        case hy3d =>
          refine Or.inl ⟨rfl, ?_⟩
          intro W hSw
          obtain ⟨y0, y1, y2, z0, z1, z2⟩ := hSw
          go_simp
          try with_reducible rfl
        case hS3d => assumption
        try simp only [Act.put, List.setIfInBounds_toArray, List.set_cons_zero, List.set_cons_succ]
        refine wpAnyH_take (i := 4) (oi := ?oi4d) (v := ?v4d) ?hi4d ?hs4d ?hf4d ?hr4d ?hQ4d ?hy4d ?hS4d ?h4d
        case hi4d => exact (by simp only [List.getElem?_toArray, List.getElem?_cons_succ, List.getElem?_cons_zero]; rfl)
        case hs4d => kernel_rfl
        case hf4d => kernel_rfl
        case hr4d => kernel_rfl
        case hQ4d => exact fun _ _ _ h => h
        case hy4d =>
          refine Or.inl ⟨rfl, ?_⟩
          intro W hSw
          obtain ⟨y0, y1, y2, z0, z1, z2⟩ := hSw
          go_simp
          try with_reducible rfl
        case hS4d => assumption
        try simp only [Act.put, List.setIfInBounds_toArray, List.set_cons_zero, List.set_cons_succ]
        refine wpAnyH_take (i := 5) (oi := ?oi5d) (v := ?v5d) ?hi5d ?hs5d ?hf5d ?hr5d ?hQ5d ?hy5d ?hS5d ?h5d
        case hi5d => exact (by simp only [List.getElem?_toArray, List.getElem?_cons_succ, List.getElem?_cons_zero]; rfl)
        case hs5d => kernel_rfl
        case hf5d => kernel_rfl
        case hr5d => kernel_rfl
        case hQ5d => exact fun _ _ _ h => h
        case hy5d =>
          refine Or.inl ⟨rfl, ?_⟩
          intro W hSw
          obtain ⟨y0, y1, y2, z0, z1, z2⟩ := hSw
          go_simp
          try with_reducible rfl
        case hS5d => assumption
        try simp only [Act.put, List.setIfInBounds_toArray, List.set_cons_zero, List.set_cons_succ]
        refine wpAnyH_take (i := 6) (oi := ?oi6d) (v := (.bool false)) ?hi6d ?hs6d ?hf6d ?hr6d ?hQ6d ?hy6d ?hS6d ?h6d
        case hi6d => exact (by simp only [List.getElem?_toArray, List.getElem?_cons_succ, List.getElem?_cons_zero]; rfl)
        case hs6d => kernel_rfl
        case hf6d => kernel_rfl
        case hr6d => kernel_rfl
        case hQ6d => exact fun _ _ _ h => h
        case hy6d =>
          refine Or.inl ⟨rfl, ?_⟩
          intro W hSw
          obtain ⟨y0, y1, y2, z0, z1, z2⟩ := hSw
          go_simp
          all_goals first | with_reducible rfl | (simp; done)
        case hS6d => assumption
        try simp only [Act.put, List.setIfInBounds_toArray, List.set_cons_zero, List.set_cons_succ]
        refine wpAnyH_take (i := 7) (oi := ?oi7d) (v := ?v7d) ?hi7d ?hs7d ?hf7d ?hr7d ?hQ7d ?hy7d ?hS7d ?h7d
        case hi7d => exact (by simp only [List.getElem?_toArray, List.getElem?_cons_succ, List.getElem?_cons_zero]; rfl)
        case hs7d => kernel_rfl
        case hf7d => kernel_rfl
        case hr7d => kernel_rfl
        case hQ7d => exact fun _ _ _ h => h
        case hy7d =>
          refine Or.inl ⟨rfl, ?_⟩
          intro W hSw
          obtain ⟨y0, y1, y2, z0, z1, z2⟩ := hSw
          go_simp
          try with_reducible rfl
        case hS7d => assumption
        try simp only [Act.put, List.setIfInBounds_toArray, List.set_cons_zero, List.set_cons_succ]
        refine wpAnyH_take (i := 8) (oi := ?oi8d) (v := ?v8d) ?hi8d ?hs8d ?hf8d ?hr8d ?hQ8d ?hy8d ?hS8d ?h8d
        case hi8d => exact (by simp only [List.getElem?_toArray, List.getElem?_cons_succ, List.getElem?_cons_zero]; rfl)
        case hs8d => kernel_rfl
        case hf8d => kernel_rfl
        case hr8d => kernel_rfl
        case hQ8d => exact fun _ _ _ h => h
        case hy8d =>
          refine Or.inl ⟨rfl, ?_⟩
          intro W hSw
          obtain ⟨y0, y1, y2, z0, z1, z2⟩ := hSw
          go_simp
          try with_reducible rfl
        case hS8d => assumption
        try simp only [Act.put, List.setIfInBounds_toArray, List.set_cons_zero, List.set_cons_succ]
        refine wpAnyH_take (i := 9) (oi := ?oi9d) (v := ?v9d) ?hi9d ?hs9d ?hf9d ?hr9d ?hQ9d ?hy9d ?hS9d ?h9d
        case hi9d => exact (by simp only [List.getElem?_toArray, List.getElem?_cons_succ, List.getElem?_cons_zero]; rfl)
        case hs9d => kernel_rfl
        case hf9d => kernel_rfl
        case hr9d => kernel_rfl
        case hQ9d => exact fun _ _ _ h => h
        case hy9d =>
          refine Or.inl ⟨rfl, ?_⟩
          intro W hSw
          obtain ⟨y0, y1, y2, z0, z1, z2⟩ := hSw
          go_simp
          try with_reducible rfl
        case hS9d => assumption
        try simp only [Act.put, List.setIfInBounds_toArray, List.set_cons_zero, List.set_cons_succ]
        refine wpAnyH_take (i := 10) (oi := ?oi10d) (v := ?v10d) ?hi10d ?hs10d ?hf10d ?hr10d ?hQ10d ?hy10d ?hS10d ?h10d
        case hi10d => exact (by simp only [List.getElem?_toArray, List.getElem?_cons_succ, List.getElem?_cons_zero]; rfl)
        case hs10d => kernel_rfl
        case hf10d => kernel_rfl
        case hr10d => kernel_rfl
        case hQ10d => exact fun _ _ _ h => h
        case hy10d =>
          refine Or.inl ⟨rfl, ?_⟩
          intro W hSw
          obtain ⟨y0, y1, y2, z0, z1, z2⟩ := hSw
          go_simp
          try with_reducible rfl
        case hS10d => assumption
        try simp only [Act.put, List.setIfInBounds_toArray, List.set_cons_zero, List.set_cons_succ]
        refine wpAnyH_ready (rs := [11]) (by kernel_rfl) (by simp) ?_
        refine AllReadyH.cons (o := _) rfl (fun K hK => ?_) AllReadyH.nil
        go_simp
        refine (own_any fk fx fa Wd0).mono ?_
        rintro r Wd1 ⟨rfl, hbq⟩
        have HBd1 := Lib.hid (HDd.out.trans (hbq.mono HDd.out.size))
        clear hbq
        refine hK.out _ _ (HCEd.out _ HBd1.out) (fun hHeld => ?_)
        clear hK K
        try simp only [Act.put, List.setIfInBounds_toArray, List.set_cons_zero, List.set_cons_succ]
        refine wpAnyH_take (i := 12) (oi := ?oi12d) (v := (.bool false)) ?hi12d ?hs12d ?hf12d ?hr12d ?hQ12d ?hy12d ?hS12d ?h12d
        case hi12d => exact (by simp only [List.getElem?_toArray, List.getElem?_cons_succ, List.getElem?_cons_zero]; rfl)
        case hs12d => kernel_rfl
        case hf12d => kernel_rfl
        case hr12d => kernel_rfl
        case hQ12d => exact fun _ _ _ h => h
        case hy12d =>
          refine Or.inl ⟨rfl, ?_⟩
          intro W hSw
          obtain ⟨y0, y1, y2, z0, z1, z2⟩ := hSw
          go_simp
          all_goals first | with_reducible rfl | (simp; done)
        case hS12d => assumption
        try simp only [Act.put, List.setIfInBounds_toArray, List.set_cons_zero, List.set_cons_succ]
        refine wpAnyH_take (i := 13) (oi := ?oi13d) (v := ?v13d) ?hi13d ?hs13d ?hf13d ?hr13d ?hQ13d ?hy13d ?hS13d ?h13d
        case hi13d => exact (by simp only [List.getElem?_toArray, List.getElem?_cons_succ, List.getElem?_cons_zero]; rfl)
        case hs13d => kernel_rfl
        case hf13d => kernel_rfl
        case hr13d => kernel_rfl
        case hQ13d => exact fun _ _ _ h => h
        case hy13d =>
          refine Or.inl ⟨rfl, ?_⟩
          intro W hSw
          obtain ⟨y0, y1, y2, z0, z1, z2⟩ := hSw
          go_simp
          try with_reducible rfl
        case hS13d => assumption
        try simp only [Act.put, List.setIfInBounds_toArray, List.set_cons_zero, List.set_cons_succ]
        refine wpAnyH_take (i := 14) (oi := ?oi14d) (v := ?v14d) ?hi14d ?hs14d ?hf14d ?hr14d ?hQ14d ?hy14d ?hS14d ?h14d
        case hi14d => exact (by simp only [List.getElem?_toArray, List.getElem?_cons_succ, List.getElem?_cons_zero]; rfl)
        case hs14d => kernel_rfl
        case hf14d => kernel_rfl
        case hr14d => kernel_rfl
        case hQ14d => exact fun _ _ _ h => h
        case hy14d =>
          refine Or.inl ⟨rfl, ?_⟩
          intro W hSw
          obtain ⟨y0, y1, y2, z0, z1, z2⟩ := hSw
          go_simp
          try with_reducible rfl
        case hS14d => assumption
        try simp only [Act.put, List.setIfInBounds_toArray, List.set_cons_zero, List.set_cons_succ]
        refine wpAnyH_take (i := 15) (oi := ?oi15d) (v := ?v15d) ?hi15d ?hs15d ?hf15d ?hr15d ?hQ15d ?hy15d ?hS15d ?h15d
        case hi15d => exact (by simp only [List.getElem?_toArray, List.getElem?_cons_succ, List.getElem?_cons_zero]; rfl)
        case hs15d => kernel_rfl
        case hf15d => kernel_rfl
        case hr15d => kernel_rfl
        case hQ15d => exact fun _ _ _ h => h
        case hy15d =>
          refine Or.inl ⟨rfl, ?_⟩
          intro W hSw
          obtain ⟨y0, y1, y2, z0, z1, z2⟩ := hSw
          go_simp
          try with_reducible rfl
        case hS15d => assumption
        try simp only [Act.put, List.setIfInBounds_toArray, List.set_cons_zero, List.set_cons_succ]
        refine wpAnyH_take (i := 16) (oi := ?oi16d) (v := ?v16d) ?hi16d ?hs16d ?hf16d ?hr16d ?hQ16d ?hy16d ?hS16d ?h16d
        case hi16d => exact (by simp only [List.getElem?_toArray, List.getElem?_cons_succ, List.getElem?_cons_zero]; rfl)
        case hs16d => kernel_rfl
        case hf16d => kernel_rfl
        case hr16d => kernel_rfl
        case hQ16d => exact fun _ _ _ h => h
        case hy16d =>
          refine Or.inl ⟨rfl, ?_⟩
          intro W hSw
          obtain ⟨y0, y1, y2, z0, z1, z2⟩ := hSw
          go_simp
          try with_reducible rfl
        case hS16d => assumption
        try simp only [Act.put, List.setIfInBounds_toArray, List.set_cons_zero, List.set_cons_succ]
        refine wpAnyH_take (i := 17) (oi := ?oi17d) (v := (.bool false)) ?hi17d ?hs17d ?hf17d ?hr17d ?hQ17d ?hy17d ?hS17d ?h17d
        case hi17d => exact (by simp only [List.getElem?_toArray, List.getElem?_cons_succ, List.getElem?_cons_zero]; rfl)
        case hs17d => kernel_rfl
        case hf17d => kernel_rfl
        case hr17d => kernel_rfl
        case hQ17d => exact fun _ _ _ h => h
        case hy17d =>
          refine Or.inl ⟨rfl, ?_⟩
          intro W hSw
          obtain ⟨y0, y1, y2, z0, z1, z2⟩ := hSw
          go_simp
          all_goals first | with_reducible rfl | (simp; done)
        case hS17d => assumption
        try simp only [Act.put, List.setIfInBounds_toArray, List.set_cons_zero, List.set_cons_succ]
        refine wpAnyH_take (i := 18) (oi := ?oi18d) (v := ?v18d) ?hi18d ?hs18d ?hf18d ?hr18d ?hQ18d ?hy18d ?hS18d ?h18d
        case hi18d => exact (by simp only [List.getElem?_toArray, List.getElem?_cons_succ, List.getElem?_cons_zero]; rfl)
        case hs18d => kernel_rfl
        case hf18d => kernel_rfl
        case hr18d => kernel_rfl
        case hQ18d => exact fun _ _ _ h => h
        case hy18d =>
          refine Or.inl ⟨rfl, ?_⟩
          intro W hSw
          obtain ⟨y0, y1, y2, z0, z1, z2⟩ := hSw
          go_simp
          try with_reducible rfl
        case hS18d => assumption
        try simp only [Act.put, List.setIfInBounds_toArray, List.set_cons_zero, List.set_cons_succ]
        refine wpAnyH_take (i := 19) (oi := ?oi19d) (v := ?v19d) ?hi19d ?hs19d ?hf19d ?hr19d ?hQ19d ?hy19d ?hS19d ?h19d
        case hi19d => exact (by simp only [List.getElem?_toArray, List.getElem?_cons_succ, List.getElem?_cons_zero]; rfl)
        case hs19d => kernel_rfl
        case hf19d => kernel_rfl
        case hr19d => kernel_rfl
        case hQ19d => exact fun _ _ _ h => h
        case hy19d =>
          refine Or.inl ⟨rfl, ?_⟩
          intro W hSw
          obtain ⟨y0, y1, y2, z0, z1, z2⟩ := hSw
          go_simp
          try with_reducible rfl
        case hS19d => assumption
        try simp only [Act.put, List.setIfInBounds_toArray, List.set_cons_zero, List.set_cons_succ]
        refine wpAnyH_take (i := 20) (oi := ?oi20d) (v := ?v20d) ?hi20d ?hs20d ?hf20d ?hr20d ?hQ20d ?hy20d ?hS20d ?h20d
        case hi20d => exact (by simp only [List.getElem?_toArray, List.getElem?_cons_succ, List.getElem?_cons_zero]; rfl)
        case hs20d => kernel_rfl
        case hf20d => kernel_rfl
        case hr20d => kernel_rfl
        case hQ20d => exact fun _ _ _ h => h
        case hy20d =>
          refine Or.inl ⟨rfl, ?_⟩
          intro W hSw
          obtain ⟨y0, y1, y2, z0, z1, z2⟩ := hSw
          go_simp
          try with_reducible rfl
        case hS20d => assumption
        try simp only [Act.put, List.setIfInBounds_toArray, List.set_cons_zero, List.set_cons_succ]
        refine wpAnyH_take (i := 22) (oi := ?oi22d) (v := ?v22d) ?hi22d ?hs22d ?hf22d ?hr22d ?hQ22d ?hy22d ?hS22d ?h22d
        case hi22d => exact (by simp only [List.getElem?_toArray, List.getElem?_cons_succ, List.getElem?_cons_zero]; rfl)
        case hs22d => kernel_rfl
        case hf22d => kernel_rfl
        case hr22d => kernel_rfl
        case hQ22d => exact fun _ _ _ h => h
        case hy22d =>
          refine Or.inl ⟨rfl, ?_⟩
          intro W hSw
          obtain ⟨y0, y1, y2, z0, z1, z2⟩ := hSw
          go_simp
          try with_reducible rfl
        case hS22d => assumption
        try simp only [Act.put, List.setIfInBounds_toArray, List.set_cons_zero, List.set_cons_succ]
        refine wpAnyH_take (i := 23) (oi := ?oi23d) (v := ?v23d) ?hi23d ?hs23d ?hf23d ?hr23d ?hQ23d ?hy23d ?hS23d ?h23d
        case hi23d => exact (by simp only [List.getElem?_toArray, List.getElem?_cons_succ, List.getElem?_cons_zero]; rfl)
        case hs23d => kernel_rfl
        case hf23d => kernel_rfl
        case hr23d => kernel_rfl
        case hQ23d => exact fun _ _ _ h => h
        case hy23d =>
          refine Or.inl ⟨rfl, ?_⟩
          intro W hSw
          obtain ⟨y0, y1, y2, z0, z1, z2⟩ := hSw
          go_simp
          try with_reducible rfl
        case hS23d => assumption
        try simp only [Act.put, List.setIfInBounds_toArray, List.set_cons_zero, List.set_cons_succ]
        refine wpAnyH_ready (rs := [21]) (by kernel_rfl) (by simp) ?_
        refine AllReadyH.cons (o := _) rfl (fun K hK => ?_) AllReadyH.nil
        go_simp
        refine (HLNf.out Wd1 HBd1.out).mono ?_
        rintro r Wd2 ⟨rfl, hbq⟩
        have HBd2 := Lib.hid (HBd1.out.trans (hbq.mono HBd1.out.size))
        clear hbq
        refine hK.out _ _ (HCEd.out _ HBd2.out) (fun hHeld => ?_)
        clear hK K
        try simp only [Act.put, List.setIfInBounds_toArray, List.set_cons_zero, List.set_cons_succ]
        refine wpAnyH_take (i := 24) (oi := ?oi24d) (v := (.bool false)) ?hi24d ?hs24d ?hf24d ?hr24d ?hQ24d ?hy24d ?hS24d ?h24d
        case hi24d => exact (by simp only [List.getElem?_toArray, List.getElem?_cons_succ, List.getElem?_cons_zero]; rfl)
        case hs24d => kernel_rfl
        case hf24d => kernel_rfl
        case hr24d => kernel_rfl
        case hQ24d => exact fun _ _ _ h => h
        case hy24d =>
          refine Or.inl ⟨rfl, ?_⟩
          intro W hSw
          obtain ⟨y0, y1, y2, z0, z1, z2⟩ := hSw
          go_simp
          all_goals first | with_reducible rfl | (simp; done)
        case hS24d => assumption
        try simp only [Act.put, List.setIfInBounds_toArray, List.set_cons_zero, List.set_cons_succ]
        refine wpAnyH_take (i := 25) (oi := ?oi25d) (v := ?v25d) ?hi25d ?hs25d ?hf25d ?hr25d ?hQ25d ?hy25d ?hS25d ?h25d
        case hi25d => exact (by simp only [List.getElem?_toArray, List.getElem?_cons_succ, List.getElem?_cons_zero]; rfl)
        case hs25d => kernel_rfl
        case hf25d => kernel_rfl
        case hr25d => kernel_rfl
        case hQ25d => exact fun _ _ _ h => h
        case hy25d =>
          refine Or.inl ⟨rfl, ?_⟩
          intro W hSw
          obtain ⟨y0, y1, y2, z0, z1, z2⟩ := hSw
          go_simp
          try with_reducible rfl
        case hS25d => assumption
        try simp only [Act.put, List.setIfInBounds_toArray, List.set_cons_zero, List.set_cons_succ]
        refine wpAnyH_done (by kernel_rfl) ?_ _
        have HSz := Lib.hid ((HSf.out.after HBd2.out).noact)
        try go_wp2
        go_roundw
        case rel => exact ⟨k + 1, tn, L3, B, m, c', by omega, by omega, rfl, by go_num, HSz⟩
        case measure => simp [intOf] <;> omega
      · go_upto_region 11 with (fail)
        rw [← H2.out, ← HG0.out]
        clear d0 d1 d2 d3
        have a0 := cell_of_row w2 G 0 _ _ _ (HS2.out.ac _ _ rfl)
        have a1 := cell_of_row w2 G 1 _ _ _ (HS2.out.ac _ _ rfl)
        have a2 := cell_of_row w2 G 2 _ _ _ (HS2.out.ac _ _ rfl)
        have a3 := cell_of_row w2 G 3 _ _ _ (HS2.out.ac _ _ rfl)
        simp at a0 a1 a2 a3
        go_upto_region 27 with (fail)
        clear a0 a1 a2 a3
        have a0 := cell_of_row w2 G 0 _ _ _ (HS2.out.ac _ _ rfl)
        have a1 := cell_of_row w2 G 1 _ _ _ (HS2.out.ac _ _ rfl)
        have a2 := cell_of_row w2 G 2 _ _ _ (HS2.out.ac _ _ rfl)
        have a3 := cell_of_row w2 G 3 _ _ _ (HS2.out.ac _ _ rfl)
        simp at a0 a1 a2 a3
        go_wp2_with fail
        refine (findat_any ek ex w2 HS2.out.it HWF.out).mono ?_
        rintro r w9 ⟨⟨v9, b9, rfl, hf9⟩, hw9⟩
        subst hw9
        have HRF := Lib.hid (rfind_any A n c ek ex L w9 HS2.out.ln (Rt.of_own HS2.out.ow) (by have := HS2.out.bd; have := HS2.out.ln; omega))
        go_wp2_with fail
        refine HRF.out.mono ?_
        rintro r wa ⟨⟨va, ba, rfl, hfa⟩, hwa⟩
        subst hwa
        obtain ⟨hva, hba⟩ := find_one HS2.out.it.dis hf9 hfa
        subst hva hba
        clear hf9 hfa
        go_wp2_with fail
        refine (next_any wa HS2.out.it).mono ?_
        rintro r wb ⟨⟨fk, fx, fa, fb, hF, rfl⟩, hbb⟩
        have HSb := Lib.hid (HS2.out.after hbb)
        have HFR := Lib.hid hF
        obtain ⟨T9, hT9⟩ : ∃ T, T = wb.heap.size := ⟨_, rfl⟩
        obtain ⟨wc, hwc⟩ : ∃ v, v = wb.alloc (.cells #[.int .i64 fk, .int .u32 (fx : Int), .int .i64 fa] 35) := ⟨_, rfl⟩
        have hbce : Below wb.heap.size wb wc := by rw [hwc]; exact (Below.refl _ _).alloc (Nat.le_refl _) _
        have HRT9 : Hid (wc.heap[T9]? = some (.cells #[.int .i64 fk, .int .u32 (fx : Int), .int .i64 fa] 35 (0, 0))) := by rw [hwc, hT9]; exact heap_alloc_new wb _
        have HSc := Lib.hid (HSb.out.after hbce)
        have HAce := Lib.hid hwc
        clear hwc
        clear hbb hF a0 a1 a2 a3
        go_upto_region 30 with (fail)
        rw [← HAce.out, ← hT9]
        clear hT9 hbce
        go_wp2_with fail
        refine (rfirst_any A n c L fk fx fa fb wc HSc.out.ln (Rt.of_own HSc.out.ow) (by have := HSc.out.bd; have := HSc.out.ln; omega) HSc.out.it.ris HFR.out).mono ?_
        rintro r wd ⟨rfl, hbd⟩
        have HSd := Lib.hid (HSc.out.after hbd)
        have hk9 := (hbd.block _ (lt_of_block HRT9.out)).trans HRT9.out
        obtain ⟨T1, hT1⟩ : ∃ T, T = wd.heap.size := ⟨_, rfl⟩
        obtain ⟨wf, hwf⟩ : ∃ v, v = wd.alloc (.cells #[.int .i64 fk, .int .u32 (fx : Int), .int .i64 fa] 38) := ⟨_, rfl⟩
        have hbfe : Below wd.heap.size wd wf := by rw [hwf]; exact (Below.refl _ _).alloc (Nat.le_refl _) _
        have HRT1 : Hid (wf.heap[T1]? = some (.cells #[.int .i64 fk, .int .u32 (fx : Int), .int .i64 fa] 38 (0, 0))) := by rw [hwf, hT1]; exact heap_alloc_new wd _
        have HSf := Lib.hid (HSd.out.after hbfe)
        have HAfe := Lib.hid hwf
        clear hwf
        have HKT9 : Hid (wf.heap[T9]? = some (.cells #[.int .i64 fk, .int .u32 (fx : Int), .int .i64 fa] 35 (0, 0))) := (hbfe.block _ (lt_of_block hk9)).trans hk9
        have HLNf : Hid (∀ V, Below wf.heap.size wf V → Calls Try.prog 24 #[.pointer (some ⟨Q, 0, none⟩)] V fun r w' => r = .returned (.int .i64 (n : Int)) ∧ Below V.heap.size V w') := fun V hV => (len_any V (HSf.out.it.after hV)).mono fun r w' ⟨h1, h2⟩ => ⟨by rw [h1, HSf.out.ln], by rw [h2]; exact Below.refl _ _⟩
        clear hbd hk9
        go_upto_region 31 with (fail)
        rw [← HAfe.out, ← hT1]
        clear hT1 hbfe
        have HCEe : Hid (∀ V, Below wf.heap.size wf V → (fun W : World => W.cell? ⟨T9, 0, none⟩ = some (.int .i64 fk) ∧ W.cell? ⟨T9, 1, none⟩ = some (.int .u32 (fx : Int)) ∧ W.cell? ⟨T9, 2, none⟩ = some (.int .i64 fa) ∧ W.cell? ⟨T1, 0, none⟩ = some (.int .i64 fk) ∧ W.cell? ⟨T1, 1, none⟩ = some (.int .u32 (fx : Int)) ∧ W.cell? ⟨T1, 2, none⟩ = some (.int .i64 fa)) V) := fun V hV => by
          have q5 := (hV.block _ (lt_of_block HKT9.out)).trans HKT9.out
          have q8 := (hV.block _ (lt_of_block HRT1.out)).trans HRT1.out
          exact ⟨cell_of_row V _ 0 _ _ _ q5, cell_of_row V _ 1 _ _ _ q5, cell_of_row V _ 2 _ _ _ q5, cell_of_row V _ 0 _ _ _ q8, cell_of_row V _ 1 _ _ _ q8, cell_of_row V _ 2 _ _ _ q8⟩
        have HDe : Hid (Below wf.heap.size wf wf.drew) := (Below.refl _ _).drew
        refine wp_region_held_drew (S := fun W : World => W.cell? ⟨T9, 0, none⟩ = some (.int .i64 fk) ∧ W.cell? ⟨T9, 1, none⟩ = some (.int .u32 (fx : Int)) ∧ W.cell? ⟨T9, 2, none⟩ = some (.int .i64 fa) ∧ W.cell? ⟨T1, 0, none⟩ = some (.int .i64 fk) ∧ W.cell? ⟨T1, 1, none⟩ = some (.int .u32 (fx : Int)) ∧ W.cell? ⟨T1, 2, none⟩ = some (.int .i64 fa)) (by kernel_rfl) (HCEe.out _ HDe.out) (fun hHeld => ?_)
        obtain ⟨We0, hW0⟩ : ∃ W0, W0 = wf.drew := ⟨_, rfl⟩
        rw [← hW0] at hHeld HDe ⊢
        clear hW0
        refine wpAnyH_take (i := 0) (oi := ?oi0e) (v := ?v0e) ?hi0e ?hs0e ?hf0e ?hr0e ?hQ0e ?hy0e ?hS0e ?h0e
        case hi0e => exact (by simp only [List.getElem?_toArray, List.getElem?_cons_zero]; rfl)
        case hs0e => kernel_rfl
        case hf0e => kernel_rfl
        case hr0e => kernel_rfl
        case hQ0e => exact fun _ _ _ h => h
        case hy0e =>
          refine Or.inl ⟨rfl, ?_⟩
          intro W hSw
          obtain ⟨y0, y1, y2, z0, z1, z2⟩ := hSw
          go_simp
          try with_reducible rfl
        case hS0e => assumption
        try simp only [Act.put, List.setIfInBounds_toArray, List.set_cons_zero, List.set_cons_succ]
        refine wpAnyH_take (i := 1) (oi := ?oi1e) (v := ?v1e) ?hi1e ?hs1e ?hf1e ?hr1e ?hQ1e ?hy1e ?hS1e ?h1e
        case hi1e => exact (by simp only [List.getElem?_toArray, List.getElem?_cons_succ, List.getElem?_cons_zero]; rfl)
        case hs1e => kernel_rfl
        case hf1e => kernel_rfl
        case hr1e => kernel_rfl
        case hQ1e => exact fun _ _ _ h => h
        case hy1e =>
          refine Or.inl ⟨rfl, ?_⟩
          intro W hSw
          obtain ⟨y0, y1, y2, z0, z1, z2⟩ := hSw
          go_simp
          try with_reducible rfl
        case hS1e => assumption
        try simp only [Act.put, List.setIfInBounds_toArray, List.set_cons_zero, List.set_cons_succ]
        refine wpAnyH_take (i := 2) (oi := ?oi2e) (v := (.bool false)) ?hi2e ?hs2e ?hf2e ?hr2e ?hQ2e ?hy2e ?hS2e ?h2e
        case hi2e => exact (by simp only [List.getElem?_toArray, List.getElem?_cons_succ, List.getElem?_cons_zero]; rfl)
        case hs2e => kernel_rfl
        case hf2e => kernel_rfl
        case hr2e => kernel_rfl
        case hQ2e => exact fun _ _ _ h => h
        case hy2e =>
          refine Or.inl ⟨rfl, ?_⟩
          intro W hSw
          obtain ⟨y0, y1, y2, z0, z1, z2⟩ := hSw
          go_simp
          all_goals first | with_reducible rfl | (simp; done)
        case hS2e => assumption
        try simp only [Act.put, List.setIfInBounds_toArray, List.set_cons_zero, List.set_cons_succ]
        refine wpAnyH_take (i := 3) (oi := ?oi3e) (v := ?v3e) ?hi3e ?hs3e ?hf3e ?hr3e ?hQ3e ?hy3e ?hS3e ?h3e
        case hi3e => exact (by simp only [List.getElem?_toArray, List.getElem?_cons_succ, List.getElem?_cons_zero]; rfl)
        case hs3e => kernel_rfl
        case hf3e => kernel_rfl
        case hr3e => kernel_rfl
        case hQ3e => exact fun _ _ _ h => h
        case hy3e =>
          refine Or.inl ⟨rfl, ?_⟩
          intro W hSw
          obtain ⟨y0, y1, y2, z0, z1, z2⟩ := hSw
          go_simp
          try with_reducible rfl
        case hS3e => assumption
        try simp only [Act.put, List.setIfInBounds_toArray, List.set_cons_zero, List.set_cons_succ]
        refine wpAnyH_take (i := 4) (oi := ?oi4e) (v := ?v4e) ?hi4e ?hs4e ?hf4e ?hr4e ?hQ4e ?hy4e ?hS4e ?h4e
        case hi4e => exact (by simp only [List.getElem?_toArray, List.getElem?_cons_succ, List.getElem?_cons_zero]; rfl)
        case hs4e => kernel_rfl
        case hf4e => kernel_rfl
        case hr4e => kernel_rfl
        case hQ4e => exact fun _ _ _ h => h
        case hy4e =>
          refine Or.inl ⟨rfl, ?_⟩
          intro W hSw
          obtain ⟨y0, y1, y2, z0, z1, z2⟩ := hSw
          go_simp
          try with_reducible rfl
        case hS4e => assumption
        try simp only [Act.put, List.setIfInBounds_toArray, List.set_cons_zero, List.set_cons_succ]
        refine wpAnyH_take (i := 5) (oi := ?oi5e) (v := ?v5e) ?hi5e ?hs5e ?hf5e ?hr5e ?hQ5e ?hy5e ?hS5e ?h5e
        case hi5e => exact (by simp only [List.getElem?_toArray, List.getElem?_cons_succ, List.getElem?_cons_zero]; rfl)
        case hs5e => kernel_rfl
        case hf5e => kernel_rfl
        case hr5e => kernel_rfl
        case hQ5e => exact fun _ _ _ h => h
        case hy5e =>
          refine Or.inl ⟨rfl, ?_⟩
          intro W hSw
          obtain ⟨y0, y1, y2, z0, z1, z2⟩ := hSw
          go_simp
          try with_reducible rfl
        case hS5e => assumption
        try simp only [Act.put, List.setIfInBounds_toArray, List.set_cons_zero, List.set_cons_succ]
        refine wpAnyH_take (i := 6) (oi := ?oi6e) (v := (.bool false)) ?hi6e ?hs6e ?hf6e ?hr6e ?hQ6e ?hy6e ?hS6e ?h6e
        case hi6e => exact (by simp only [List.getElem?_toArray, List.getElem?_cons_succ, List.getElem?_cons_zero]; rfl)
        case hs6e => kernel_rfl
        case hf6e => kernel_rfl
        case hr6e => kernel_rfl
        case hQ6e => exact fun _ _ _ h => h
        case hy6e =>
          refine Or.inl ⟨rfl, ?_⟩
          intro W hSw
          obtain ⟨y0, y1, y2, z0, z1, z2⟩ := hSw
          go_simp
          all_goals first | with_reducible rfl | (simp; done)
        case hS6e => assumption
        try simp only [Act.put, List.setIfInBounds_toArray, List.set_cons_zero, List.set_cons_succ]
        refine wpAnyH_take (i := 7) (oi := ?oi7e) (v := ?v7e) ?hi7e ?hs7e ?hf7e ?hr7e ?hQ7e ?hy7e ?hS7e ?h7e
        case hi7e => exact (by simp only [List.getElem?_toArray, List.getElem?_cons_succ, List.getElem?_cons_zero]; rfl)
        case hs7e => kernel_rfl
        case hf7e => kernel_rfl
        case hr7e => kernel_rfl
        case hQ7e => exact fun _ _ _ h => h
        case hy7e =>
          refine Or.inl ⟨rfl, ?_⟩
          intro W hSw
          obtain ⟨y0, y1, y2, z0, z1, z2⟩ := hSw
          go_simp
          try with_reducible rfl
        case hS7e => assumption
        try simp only [Act.put, List.setIfInBounds_toArray, List.set_cons_zero, List.set_cons_succ]
        refine wpAnyH_take (i := 8) (oi := ?oi8e) (v := ?v8e) ?hi8e ?hs8e ?hf8e ?hr8e ?hQ8e ?hy8e ?hS8e ?h8e
        case hi8e => exact (by simp only [List.getElem?_toArray, List.getElem?_cons_succ, List.getElem?_cons_zero]; rfl)
        case hs8e => kernel_rfl
        case hf8e => kernel_rfl
        case hr8e => kernel_rfl
        case hQ8e => exact fun _ _ _ h => h
        case hy8e =>
          refine Or.inl ⟨rfl, ?_⟩
          intro W hSw
          obtain ⟨y0, y1, y2, z0, z1, z2⟩ := hSw
          go_simp
          try with_reducible rfl
        case hS8e => assumption
        try simp only [Act.put, List.setIfInBounds_toArray, List.set_cons_zero, List.set_cons_succ]
        refine wpAnyH_take (i := 9) (oi := ?oi9e) (v := ?v9e) ?hi9e ?hs9e ?hf9e ?hr9e ?hQ9e ?hy9e ?hS9e ?h9e
        case hi9e => exact (by simp only [List.getElem?_toArray, List.getElem?_cons_succ, List.getElem?_cons_zero]; rfl)
        case hs9e => kernel_rfl
        case hf9e => kernel_rfl
        case hr9e => kernel_rfl
        case hQ9e => exact fun _ _ _ h => h
        case hy9e =>
          refine Or.inl ⟨rfl, ?_⟩
          intro W hSw
          obtain ⟨y0, y1, y2, z0, z1, z2⟩ := hSw
          go_simp
          try with_reducible rfl
        case hS9e => assumption
        try simp only [Act.put, List.setIfInBounds_toArray, List.set_cons_zero, List.set_cons_succ]
        refine wpAnyH_take (i := 10) (oi := ?oi10e) (v := ?v10e) ?hi10e ?hs10e ?hf10e ?hr10e ?hQ10e ?hy10e ?hS10e ?h10e
        case hi10e => exact (by simp only [List.getElem?_toArray, List.getElem?_cons_succ, List.getElem?_cons_zero]; rfl)
        case hs10e => kernel_rfl
        case hf10e => kernel_rfl
        case hr10e => kernel_rfl
        case hQ10e => exact fun _ _ _ h => h
        case hy10e =>
          refine Or.inl ⟨rfl, ?_⟩
          intro W hSw
          obtain ⟨y0, y1, y2, z0, z1, z2⟩ := hSw
          go_simp
          try with_reducible rfl
        case hS10e => assumption
        try simp only [Act.put, List.setIfInBounds_toArray, List.set_cons_zero, List.set_cons_succ]
        refine wpAnyH_ready (rs := [11]) (by kernel_rfl) (by simp) ?_
        refine AllReadyH.cons (o := _) rfl (fun K hK => ?_) AllReadyH.nil
        go_simp
        refine (own_any fk fx fa We0).mono ?_
        rintro r We1 ⟨rfl, hbq⟩
        have HBe1 := Lib.hid (HDe.out.trans (hbq.mono HDe.out.size))
        clear hbq
        refine hK.out _ _ (HCEe.out _ HBe1.out) (fun hHeld => ?_)
        clear hK K
        try simp only [Act.put, List.setIfInBounds_toArray, List.set_cons_zero, List.set_cons_succ]
        refine wpAnyH_take (i := 12) (oi := ?oi12e) (v := (.bool false)) ?hi12e ?hs12e ?hf12e ?hr12e ?hQ12e ?hy12e ?hS12e ?h12e
        case hi12e => exact (by simp only [List.getElem?_toArray, List.getElem?_cons_succ, List.getElem?_cons_zero]; rfl)
        case hs12e => kernel_rfl
        case hf12e => kernel_rfl
        case hr12e => kernel_rfl
        case hQ12e => exact fun _ _ _ h => h
        case hy12e =>
          refine Or.inl ⟨rfl, ?_⟩
          intro W hSw
          obtain ⟨y0, y1, y2, z0, z1, z2⟩ := hSw
          go_simp
          all_goals first | with_reducible rfl | (simp; done)
        case hS12e => assumption
        try simp only [Act.put, List.setIfInBounds_toArray, List.set_cons_zero, List.set_cons_succ]
        refine wpAnyH_take (i := 13) (oi := ?oi13e) (v := ?v13e) ?hi13e ?hs13e ?hf13e ?hr13e ?hQ13e ?hy13e ?hS13e ?h13e
        case hi13e => exact (by simp only [List.getElem?_toArray, List.getElem?_cons_succ, List.getElem?_cons_zero]; rfl)
        case hs13e => kernel_rfl
        case hf13e => kernel_rfl
        case hr13e => kernel_rfl
        case hQ13e => exact fun _ _ _ h => h
        case hy13e =>
          refine Or.inl ⟨rfl, ?_⟩
          intro W hSw
          obtain ⟨y0, y1, y2, z0, z1, z2⟩ := hSw
          go_simp
          try with_reducible rfl
        case hS13e => assumption
        try simp only [Act.put, List.setIfInBounds_toArray, List.set_cons_zero, List.set_cons_succ]
        refine wpAnyH_take (i := 14) (oi := ?oi14e) (v := ?v14e) ?hi14e ?hs14e ?hf14e ?hr14e ?hQ14e ?hy14e ?hS14e ?h14e
        case hi14e => exact (by simp only [List.getElem?_toArray, List.getElem?_cons_succ, List.getElem?_cons_zero]; rfl)
        case hs14e => kernel_rfl
        case hf14e => kernel_rfl
        case hr14e => kernel_rfl
        case hQ14e => exact fun _ _ _ h => h
        case hy14e =>
          refine Or.inl ⟨rfl, ?_⟩
          intro W hSw
          obtain ⟨y0, y1, y2, z0, z1, z2⟩ := hSw
          go_simp
          try with_reducible rfl
        case hS14e => assumption
        try simp only [Act.put, List.setIfInBounds_toArray, List.set_cons_zero, List.set_cons_succ]
        refine wpAnyH_take (i := 15) (oi := ?oi15e) (v := ?v15e) ?hi15e ?hs15e ?hf15e ?hr15e ?hQ15e ?hy15e ?hS15e ?h15e
        case hi15e => exact (by simp only [List.getElem?_toArray, List.getElem?_cons_succ, List.getElem?_cons_zero]; rfl)
        case hs15e => kernel_rfl
        case hf15e => kernel_rfl
        case hr15e => kernel_rfl
        case hQ15e => exact fun _ _ _ h => h
        case hy15e =>
          refine Or.inl ⟨rfl, ?_⟩
          intro W hSw
          obtain ⟨y0, y1, y2, z0, z1, z2⟩ := hSw
          go_simp
          try with_reducible rfl
        case hS15e => assumption
        try simp only [Act.put, List.setIfInBounds_toArray, List.set_cons_zero, List.set_cons_succ]
        refine wpAnyH_take (i := 16) (oi := ?oi16e) (v := ?v16e) ?hi16e ?hs16e ?hf16e ?hr16e ?hQ16e ?hy16e ?hS16e ?h16e
        case hi16e => exact (by simp only [List.getElem?_toArray, List.getElem?_cons_succ, List.getElem?_cons_zero]; rfl)
        case hs16e => kernel_rfl
        case hf16e => kernel_rfl
        case hr16e => kernel_rfl
        case hQ16e => exact fun _ _ _ h => h
        case hy16e =>
          refine Or.inl ⟨rfl, ?_⟩
          intro W hSw
          obtain ⟨y0, y1, y2, z0, z1, z2⟩ := hSw
          go_simp
          try with_reducible rfl
        case hS16e => assumption
        try simp only [Act.put, List.setIfInBounds_toArray, List.set_cons_zero, List.set_cons_succ]
        refine wpAnyH_take (i := 17) (oi := ?oi17e) (v := (.bool false)) ?hi17e ?hs17e ?hf17e ?hr17e ?hQ17e ?hy17e ?hS17e ?h17e
        case hi17e => exact (by simp only [List.getElem?_toArray, List.getElem?_cons_succ, List.getElem?_cons_zero]; rfl)
        case hs17e => kernel_rfl
        case hf17e => kernel_rfl
        case hr17e => kernel_rfl
        case hQ17e => exact fun _ _ _ h => h
        case hy17e =>
          refine Or.inl ⟨rfl, ?_⟩
          intro W hSw
          obtain ⟨y0, y1, y2, z0, z1, z2⟩ := hSw
          go_simp
          all_goals first | with_reducible rfl | (simp; done)
        case hS17e => assumption
        try simp only [Act.put, List.setIfInBounds_toArray, List.set_cons_zero, List.set_cons_succ]
        refine wpAnyH_take (i := 18) (oi := ?oi18e) (v := ?v18e) ?hi18e ?hs18e ?hf18e ?hr18e ?hQ18e ?hy18e ?hS18e ?h18e
        case hi18e => exact (by simp only [List.getElem?_toArray, List.getElem?_cons_succ, List.getElem?_cons_zero]; rfl)
        case hs18e => kernel_rfl
        case hf18e => kernel_rfl
        case hr18e => kernel_rfl
        case hQ18e => exact fun _ _ _ h => h
        case hy18e =>
          refine Or.inl ⟨rfl, ?_⟩
          intro W hSw
          obtain ⟨y0, y1, y2, z0, z1, z2⟩ := hSw
          go_simp
          try with_reducible rfl
        case hS18e => assumption
        try simp only [Act.put, List.setIfInBounds_toArray, List.set_cons_zero, List.set_cons_succ]
        refine wpAnyH_take (i := 19) (oi := ?oi19e) (v := ?v19e) ?hi19e ?hs19e ?hf19e ?hr19e ?hQ19e ?hy19e ?hS19e ?h19e
        case hi19e => exact (by simp only [List.getElem?_toArray, List.getElem?_cons_succ, List.getElem?_cons_zero]; rfl)
        case hs19e => kernel_rfl
        case hf19e => kernel_rfl
        case hr19e => kernel_rfl
        case hQ19e => exact fun _ _ _ h => h
        case hy19e =>
          refine Or.inl ⟨rfl, ?_⟩
          intro W hSw
          obtain ⟨y0, y1, y2, z0, z1, z2⟩ := hSw
          go_simp
          try with_reducible rfl
        case hS19e => assumption
        try simp only [Act.put, List.setIfInBounds_toArray, List.set_cons_zero, List.set_cons_succ]
        refine wpAnyH_take (i := 20) (oi := ?oi20e) (v := ?v20e) ?hi20e ?hs20e ?hf20e ?hr20e ?hQ20e ?hy20e ?hS20e ?h20e
        case hi20e => exact (by simp only [List.getElem?_toArray, List.getElem?_cons_succ, List.getElem?_cons_zero]; rfl)
        case hs20e => kernel_rfl
        case hf20e => kernel_rfl
        case hr20e => kernel_rfl
        case hQ20e => exact fun _ _ _ h => h
        case hy20e =>
          refine Or.inl ⟨rfl, ?_⟩
          intro W hSw
          obtain ⟨y0, y1, y2, z0, z1, z2⟩ := hSw
          go_simp
          try with_reducible rfl
        case hS20e => assumption
        try simp only [Act.put, List.setIfInBounds_toArray, List.set_cons_zero, List.set_cons_succ]
        refine wpAnyH_take (i := 22) (oi := ?oi22e) (v := ?v22e) ?hi22e ?hs22e ?hf22e ?hr22e ?hQ22e ?hy22e ?hS22e ?h22e
        case hi22e => exact (by simp only [List.getElem?_toArray, List.getElem?_cons_succ, List.getElem?_cons_zero]; rfl)
        case hs22e => kernel_rfl
        case hf22e => kernel_rfl
        case hr22e => kernel_rfl
        case hQ22e => exact fun _ _ _ h => h
        case hy22e =>
          refine Or.inl ⟨rfl, ?_⟩
          intro W hSw
          obtain ⟨y0, y1, y2, z0, z1, z2⟩ := hSw
          go_simp
          try with_reducible rfl
        case hS22e => assumption
        try simp only [Act.put, List.setIfInBounds_toArray, List.set_cons_zero, List.set_cons_succ]
        refine wpAnyH_take (i := 23) (oi := ?oi23e) (v := ?v23e) ?hi23e ?hs23e ?hf23e ?hr23e ?hQ23e ?hy23e ?hS23e ?h23e
        case hi23e => exact (by simp only [List.getElem?_toArray, List.getElem?_cons_succ, List.getElem?_cons_zero]; rfl)
        case hs23e => kernel_rfl
        case hf23e => kernel_rfl
        case hr23e => kernel_rfl
        case hQ23e => exact fun _ _ _ h => h
        case hy23e =>
          refine Or.inl ⟨rfl, ?_⟩
          intro W hSw
          obtain ⟨y0, y1, y2, z0, z1, z2⟩ := hSw
          go_simp
          try with_reducible rfl
        case hS23e => assumption
        try simp only [Act.put, List.setIfInBounds_toArray, List.set_cons_zero, List.set_cons_succ]
        refine wpAnyH_ready (rs := [21]) (by kernel_rfl) (by simp) ?_
        refine AllReadyH.cons (o := _) rfl (fun K hK => ?_) AllReadyH.nil
        go_simp
        refine (HLNf.out We1 HBe1.out).mono ?_
        rintro r We2 ⟨rfl, hbq⟩
        have HBe2 := Lib.hid (HBe1.out.trans (hbq.mono HBe1.out.size))
        clear hbq
        refine hK.out _ _ (HCEe.out _ HBe2.out) (fun hHeld => ?_)
        clear hK K
        try simp only [Act.put, List.setIfInBounds_toArray, List.set_cons_zero, List.set_cons_succ]
        refine wpAnyH_take (i := 24) (oi := ?oi24e) (v := (.bool false)) ?hi24e ?hs24e ?hf24e ?hr24e ?hQ24e ?hy24e ?hS24e ?h24e
        case hi24e => exact (by simp only [List.getElem?_toArray, List.getElem?_cons_succ, List.getElem?_cons_zero]; rfl)
        case hs24e => kernel_rfl
        case hf24e => kernel_rfl
        case hr24e => kernel_rfl
        case hQ24e => exact fun _ _ _ h => h
        case hy24e =>
          refine Or.inl ⟨rfl, ?_⟩
          intro W hSw
          obtain ⟨y0, y1, y2, z0, z1, z2⟩ := hSw
          go_simp
          all_goals first | with_reducible rfl | (simp; done)
        case hS24e => assumption
        try simp only [Act.put, List.setIfInBounds_toArray, List.set_cons_zero, List.set_cons_succ]
        refine wpAnyH_take (i := 25) (oi := ?oi25e) (v := ?v25e) ?hi25e ?hs25e ?hf25e ?hr25e ?hQ25e ?hy25e ?hS25e ?h25e
        case hi25e => exact (by simp only [List.getElem?_toArray, List.getElem?_cons_succ, List.getElem?_cons_zero]; rfl)
        case hs25e => kernel_rfl
        case hf25e => kernel_rfl
        case hr25e => kernel_rfl
        case hQ25e => exact fun _ _ _ h => h
        case hy25e =>
          refine Or.inl ⟨rfl, ?_⟩
          intro W hSw
          obtain ⟨y0, y1, y2, z0, z1, z2⟩ := hSw
          go_simp
          try with_reducible rfl
        case hS25e => assumption
        try simp only [Act.put, List.setIfInBounds_toArray, List.set_cons_zero, List.set_cons_succ]
        refine wpAnyH_done (by kernel_rfl) ?_ _
        have HSz := Lib.hid ((HSf.out.after HBe2.out).noact)
        try go_wp2
        go_roundw
        case rel => exact ⟨k + 1, tn, L, A, n, c, by omega, by omega, rfl, by go_num, HSz⟩
        case measure => simp [intOf] <;> omega
    · have hkn : k = N := by omega
      subst hkn
      go_wp2_with fail
      refine (tawake _).mono ?_
      rintro r w5 ⟨rfl, hb5⟩
      have HBF : Hid (Below w.heap.size w w5) := HS.out.ch.below.trans (hb5.mono HS.out.ch.size)
      clear hb5
      go_wp2
      go_ret
      exact ⟨rfl, HBF.out⟩
end Go.Proofs.Ytaoejkbockcneaa
