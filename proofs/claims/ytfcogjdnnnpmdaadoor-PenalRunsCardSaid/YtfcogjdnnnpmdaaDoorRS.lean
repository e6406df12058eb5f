/- Penal: PenalRuns' walk. -/
import Derived.Test.YtfcogjdnnnpmdaaDoorRQ
namespace Go.Proofs.YtfcogjdnnnpmdaaDoor
open Go.RowKit
set_option maxRecDepth 20000

set_option linter.unusedSimpArgs false in
set_option linter.unusedVariables false in
set_option maxHeartbeats 16000000 in
theorem runs_walk (mo : Int) (u : Option Addr × Nat) (acts : List Ac) (w : World) (hlw : Lw w) (hz : 0 < w.heap.size) (hmo : inI mo) (hs : As w w.heap.size u.1 acts) (hl : acts.length ≤ 9223372036854775807) (hzI : ∀ e ∈ acts, inI e.2.2) :
    Calls Tryd.prog 4 #[.int .i64 mo, .slice u.1 acts.length u.2] w fun r w' => r = .returned (.bool true) ∧ Below w.heap.size w w' := by
  obtain ⟨E, ec⟩ := u
  obtain ⟨N, hN⟩ : ∃ N, N = acts.length := ⟨_, rfl⟩
  simp only at hs ⊢
  rw [← hN] at hl ⊢
  have HA := Lib.hid hs
  have HN := Lib.hid hN
  have HLW := Lib.hid hlw
  have HSZ0 := Lib.hid hz
  have HZA := Lib.hid hzI
  clear hs hN hlw hz hzI
  by_cases h1 : 20 < mo
  · have t : decide (mo > 20) = true := by rw [decide_eq_true_iff]; omega
    go_enter Tryd.func4, Tryd.ntmps4
    go_wp2
    go_ret
    exact ⟨rfl, Below.refl _ _⟩
  have t : decide (mo > 20) = false := by rw [decide_eq_false_iff_not]; omega
  by_cases h2 : 60 < N
  · have t2 : decide ((N : Int) > 60) = true := by rw [decide_eq_true_iff]; omega
    go_enter Tryd.func4, Tryd.ntmps4
    go_wp2
    go_ret
    exact ⟨rfl, Below.refl _ _⟩
  have t2 : decide ((N : Int) > 60) = false := by rw [decide_eq_false_iff_not]; omega
  obtain ⟨M, hM⟩ : ∃ M : Int, M = max mo 0 := ⟨_, rfl⟩
  have hM20 : 0 ≤ M ∧ M ≤ 20 := by omega
  have HM2 : Hid (max 0 mo = M) := by simp only [Hid]; omega
  have HNEW := Lib.hid (bnew_any mo w)
  rw [← hM] at HNEW
  clear hM
  go_enter Tryd.func4, Tryd.ntmps4
  go_wp2_with fail
  refine HNEW.out.mono ?_
  rintro r w1 ⟨B, R, rfl, hR, hB, hbk, hi, hb⟩
  have HS0 : Hid (St w w1 B R M [] [] none 0 0 none) :=
    ⟨⟨_, _, hi⟩, hbk, World.ownsRow_nil w1 _ 73 4, rfl, by simpa using hM20.1, by simpa using hM20.1, hM20.2, fun e he => by simp at he, fun e he => by simp at he, hb, ⟨hR, hB⟩, fun G d x z e => (by cases e)⟩
  clear hR hB hbk hi hb t t2 HNEW
  go_wp2_with fail
  go_loopw [6, 7] (fun o u wr => ∃ (k : Nat) (l : List D.Rw) (A : Option Addr) (n c : Nat), k ≤ N ∧ o = .slice A n c ∧ u = .int .i64 (k : Int) ∧ Hid (St w wr B R M l l A n c none)) (fun _ u _ => N - (intOf u).toNat)
  case atStart => exact ⟨0, [], none, 0, 0, by omega, rfl, rfl, HS0⟩
  case round =>
    obtain ⟨k, l, A, n, c, hk, rfl, rfl, HS⟩ := hrel
    by_cases hlt : k < N
    · obtain ⟨⟨d, x, z⟩, he⟩ : ∃ e, acts[k]? = some e := ⟨acts[k]'(by rw [← HN.out]; exact hlt), List.getElem?_eq_getElem _⟩
      have HZI : Hid (inI z) := HZA.out _ (List.mem_of_getElem? he)
      obtain ⟨b1, o1, rfl, hb1, ha1⟩ := HA.out (by have := HN.out; omega)
      have dd := ha1 k _ he
      have d0 := (HS.out.bl.cell (p := ⟨b1, _, none⟩) hb1).trans dd.1
      have d1 := (HS.out.bl.cell (p := ⟨b1, _, none⟩) hb1).trans dd.2.1
      have d2 := (HS.out.bl.cell (p := ⟨b1, _, none⟩) hb1).trans dd.2.2
      simp only at d0 d1 d2
      clear he dd ha1 hb1
      obtain ⟨w2, hw2⟩ : ∃ w2, w2 = wr.alloc (.cells #[.int .u8 d, .int .u32 (x : Int), .int .i64 z] 38) := ⟨_, rfl⟩
      have HS2 := Lib.hid (HS.out.withact d x z)
      rw [← hw2] at HS2
      obtain ⟨G, hG⟩ : ∃ G, G = wr.heap.size := ⟨_, rfl⟩
      rw [← hG] at HS2
      have H2 := Lib.hid hw2
      have HG0 := Lib.hid hG
      have hM2 := HM2.out
      replace hM2 := Lib.hid hM2
      clear hw2 hG
      rcases (by omega : d = 0 ∨ d = 1 ∨ (¬ d = 0 ∧ ¬ d = 1)) with rfl | rfl | ⟨hd0, hd1⟩
      · go_upto_region 11 with (fail)
        rw [← H2.out, ← HG0.out]
        clear d0 d1 d2
        have a0 := cell_of_row w2 G 0 _ _ _ (HS2.out.ac _ _ _ _ rfl)
        have a1 := cell_of_row w2 G 1 _ _ _ (HS2.out.ac _ _ _ _ rfl)
        have a2 := cell_of_row w2 G 2 _ _ _ (HS2.out.ac _ _ _ _ rfl)
        simp at a0 a1 a2
        have HUP : Hid (Up (l.map (·.1))) := by
          obtain ⟨vi, vt, h3⟩ := HS2.out.ir
          exact h3.up
        have HHT := Lib.hid (st_hit HS2.out HLW.out HSZ0.out x z HZI.out)
        go_wp2_with fail
        refine HHT.out.mono ?_
        rintro r w3 ⟨m1, m2, m3, e, l', rfl, hr, hs3⟩
        obtain ⟨w4, hw4⟩ : ∃ w4, w4 = w3.alloc (.cells (mC m1 m2 m3) 24) := ⟨_, rfl⟩
        obtain ⟨F9, hF9⟩ : ∃ F9, F9 = w3.heap.size := ⟨_, rfl⟩
        have hb4 : Below w3.heap.size w3 w4 := by rw [hw4]; exact (Below.refl _ _).alloc (Nat.le_refl _) _
        have HS4 := Lib.hid (hs3.after hb4)
        have HQ4 : Hid (w4.heap[F9]? = some (.cells (mC m1 m2 m3) 24 (0, 0))) := by rw [hw4, hF9]; exact heap_alloc_new w3 _
        have HDT := Lib.hid (st_hit_doc HS4.out hr HUP.out HZI.out)
        have H4 := Lib.hid hw4
        have HF9 := Lib.hid hF9
        clear hr hs3 hb4 hw4 hF9
        clear a0 a1 a2
        go_upto_region 14 with (fail)
        rw [← H4.out, ← HF9.out]
        have a0 := cell_of_row w4 G 0 _ _ _ (HS4.out.ac _ _ _ _ rfl)
        have a1 := cell_of_row w4 G 1 _ _ _ (HS4.out.ac _ _ _ _ rfl)
        have a2 := cell_of_row w4 G 2 _ _ _ (HS4.out.ac _ _ _ _ rfl)
        simp at a0 a1 a2
        go_wp2_with fail
        rw [hM2.out]
        refine HDT.out.mono ?_
        rintro r w5 ⟨A', n', c', rfl, hs5, hb5⟩
        obtain ⟨w6, hw6⟩ : ∃ w6, w6 = w5.alloc (.cells (mC m1 m2 m3) 23) := ⟨_, rfl⟩
        obtain ⟨F12, hF12⟩ : ∃ F12, F12 = w5.heap.size := ⟨_, rfl⟩
        have hb6 : Below w5.heap.size w5 w6 := by rw [hw6]; exact (Below.refl _ _).alloc (Nat.le_refl _) _
        have HS6 := Lib.hid (hs5.after hb6)
        have hq6 : w6.heap[F12]? = some (.cells (mC m1 m2 m3) 23 (0, 0)) := by rw [hw6, hF12]; exact heap_alloc_new w5 _
        have hp5 := (hb5.block _ (lt_of_block HQ4.out)).trans HQ4.out
        have hp6 := (hb6.block _ (lt_of_block hp5)).trans hp5
        have HC6 : Hid (∀ W, Below w6.heap.size w6 W → W.cell? ⟨F9, 0, none⟩ = some (.int .i64 m1) ∧ W.cell? ⟨F9, 1, none⟩ = some (.int .i64 m2) ∧ W.cell? ⟨F9, 2, none⟩ = some (.int .i64 m3) ∧ W.cell? ⟨F12, 0, none⟩ = some (.int .i64 m1) ∧ W.cell? ⟨F12, 1, none⟩ = some (.int .i64 m2) ∧ W.cell? ⟨F12, 2, none⟩ = some (.int .i64 m3)) := fun W hW => by
          have e1 := (hW.block _ (lt_of_block hp6)).trans hp6
          have e2 := (hW.block _ (lt_of_block hq6)).trans hq6
          exact ⟨cell_of_row W _ 0 _ _ _ e1, cell_of_row W _ 1 _ _ _ e1, cell_of_row W _ 2 _ _ _ e1, cell_of_row W _ 0 _ _ _ e2, cell_of_row W _ 1 _ _ _ e2, cell_of_row W _ 2 _ _ _ e2⟩
        have HBS6 : Hid (Below w6.heap.size w6 w6) := Below.refl _ _
        have H6 := Lib.hid hw6
        have HF12 := Lib.hid hF12
        clear hb5 hb6 hs5 hq6 hp5 hp6 hw6 hF12
        clear a0 a1 a2
        go_upto_region 15 with (fail)
        rw [← H6.out, ← HF12.out]
        have HDh : Hid (Below w6.heap.size w6 w6.drew) := HBS6.out.drew
        refine wp_region_held_drew (S := fun W : World => W.cell? ⟨F9, 0, none⟩ = some (.int .i64 m1) ∧ W.cell? ⟨F9, 1, none⟩ = some (.int .i64 m2) ∧ W.cell? ⟨F9, 2, none⟩ = some (.int .i64 m3) ∧ W.cell? ⟨F12, 0, none⟩ = some (.int .i64 m1) ∧ W.cell? ⟨F12, 1, none⟩ = some (.int .i64 m2) ∧ W.cell? ⟨F12, 2, none⟩ = some (.int .i64 m3)) (by kernel_rfl) (HC6.out _ HDh.out) (fun hHeld => ?_)
        obtain ⟨Wh0, hW0⟩ : ∃ W0, W0 = w6.drew := ⟨_, rfl⟩
        rw [← hW0] at hHeld HDh ⊢
        clear hW0
        refine wpAnyH_take (i := 0) (oi := ?oi0h) (v := ?v0h) ?hi0h ?hs0h ?hf0h ?hr0h ?hQ0h ?hy0h ?hS0h ?h0h
        case hi0h => exact (by simp only [List.getElem?_toArray, List.getElem?_cons_zero]; rfl)
        case hs0h => kernel_rfl
        case hf0h => kernel_rfl
        case hr0h => kernel_rfl
        case hQ0h => exact fun _ _ _ h => h
        case hy0h =>
          refine Or.inl ⟨rfl, ?_⟩
          intro W hSw
          obtain ⟨q1, q2, q3, q4, q5, q6⟩ := hSw
          go_simp
          try with_reducible rfl
        case hS0h => assumption
        try simp only [Act.put, List.setIfInBounds_toArray, List.set_cons_zero, List.set_cons_succ]
        refine wpAnyH_take (i := 1) (oi := ?oi1h) (v := ?v1h) ?hi1h ?hs1h ?hf1h ?hr1h ?hQ1h ?hy1h ?hS1h ?h1h
        case hi1h => exact (by simp only [List.getElem?_toArray, List.getElem?_cons_succ, List.getElem?_cons_zero]; rfl)
        case hs1h => kernel_rfl
        case hf1h => kernel_rfl
        case hr1h => kernel_rfl
        case hQ1h => exact fun _ _ _ h => h
        case hy1h =>
          refine Or.inl ⟨rfl, ?_⟩
          intro W hSw
          obtain ⟨q1, q2, q3, q4, q5, q6⟩ := hSw
          go_simp
          try with_reducible rfl
        case hS1h => assumption
        try simp only [Act.put, List.setIfInBounds_toArray, List.set_cons_zero, List.set_cons_succ]
        refine wpAnyH_ready (rs := [2]) (by kernel_rfl) (by simp) ?_
        refine AllReadyH.cons (o := _) rfl (fun K hK => ?_) AllReadyH.nil
        go_simp
        refine (own_any m1 m2 m3 Wh0).mono ?_
        rintro r Wh1 ⟨rfl, hbq⟩
        have HBh1 := Lib.hid (HDh.out.trans (hbq.mono HDh.out.size))
        clear hbq
        refine hK.out _ _ (HC6.out _ HBh1.out) (fun hHeld => ?_)
        clear hK K
        try simp only [Act.put, List.setIfInBounds_toArray, List.set_cons_zero, List.set_cons_succ]
        refine wpAnyH_take (i := 3) (oi := ?oi3h) (v := (.bool false)) ?hi3h ?hs3h ?hf3h ?hr3h ?hQ3h ?hy3h ?hS3h ?h3h
        case hi3h => exact (by simp only [List.getElem?_toArray, List.getElem?_cons_succ, List.getElem?_cons_zero]; rfl)
        case hs3h => kernel_rfl
        case hf3h => kernel_rfl
        case hr3h => kernel_rfl
        case hQ3h => exact fun _ _ _ h => h
        case hy3h =>
          refine Or.inl ⟨rfl, ?_⟩
          intro W hSw
          obtain ⟨q1, q2, q3, q4, q5, q6⟩ := hSw
          go_simp
          all_goals first | with_reducible rfl | (simp; done) | (simp; omega) | omega
        case hS3h => assumption
        try simp only [Act.put, List.setIfInBounds_toArray, List.set_cons_zero, List.set_cons_succ]
        refine wpAnyH_take (i := 4) (oi := ?oi4h) (v := (.bool false)) ?hi4h ?hs4h ?hf4h ?hr4h ?hQ4h ?hy4h ?hS4h ?h4h
        case hi4h => exact (by simp only [List.getElem?_toArray, List.getElem?_cons_succ, List.getElem?_cons_zero]; rfl)
        case hs4h => kernel_rfl
        case hf4h => kernel_rfl
        case hr4h => kernel_rfl
        case hQ4h => exact fun _ _ _ h => h
        case hy4h =>
          refine Or.inl ⟨rfl, ?_⟩
          intro W hSw
          obtain ⟨q1, q2, q3, q4, q5, q6⟩ := hSw
          go_simp
          try with_reducible rfl
        case hS4h => assumption
        try simp only [Act.put, List.setIfInBounds_toArray, List.set_cons_zero, List.set_cons_succ]
        refine wpAnyH_take (i := 5) (oi := ?oi5h) (v := ?v5h) ?hi5h ?hs5h ?hf5h ?hr5h ?hQ5h ?hy5h ?hS5h ?h5h
        case hi5h => exact (by simp only [List.getElem?_toArray, List.getElem?_cons_succ, List.getElem?_cons_zero]; rfl)
        case hs5h => kernel_rfl
        case hf5h => kernel_rfl
        case hr5h => kernel_rfl
        case hQ5h => exact fun _ _ _ h => h
        case hy5h =>
          refine Or.inl ⟨rfl, ?_⟩
          intro W hSw
          obtain ⟨q1, q2, q3, q4, q5, q6⟩ := hSw
          go_simp
          try with_reducible rfl
        case hS5h => assumption
        try simp only [Act.put, List.setIfInBounds_toArray, List.set_cons_zero, List.set_cons_succ]
        refine wpAnyH_take (i := 6) (oi := ?oi6h) (v := ?v6h) ?hi6h ?hs6h ?hf6h ?hr6h ?hQ6h ?hy6h ?hS6h ?h6h
        case hi6h => exact (by simp only [List.getElem?_toArray, List.getElem?_cons_succ, List.getElem?_cons_zero]; rfl)
        case hs6h => kernel_rfl
        case hf6h => kernel_rfl
        case hr6h => kernel_rfl
        case hQ6h => exact fun _ _ _ h => h
        case hy6h =>
          refine Or.inl ⟨rfl, ?_⟩
          intro W hSw
          obtain ⟨q1, q2, q3, q4, q5, q6⟩ := hSw
          go_simp
          try with_reducible rfl
        case hS6h => assumption
        try simp only [Act.put, List.setIfInBounds_toArray, List.set_cons_zero, List.set_cons_succ]
        refine wpAnyH_take (i := 7) (oi := ?oi7h) (v := (.bool false)) ?hi7h ?hs7h ?hf7h ?hr7h ?hQ7h ?hy7h ?hS7h ?h7h
        case hi7h => exact (by simp only [List.getElem?_toArray, List.getElem?_cons_succ, List.getElem?_cons_zero]; rfl)
        case hs7h => kernel_rfl
        case hf7h => kernel_rfl
        case hr7h => kernel_rfl
        case hQ7h => exact fun _ _ _ h => h
        case hy7h =>
          refine Or.inl ⟨rfl, ?_⟩
          intro W hSw
          obtain ⟨q1, q2, q3, q4, q5, q6⟩ := hSw
          go_simp
          all_goals first | with_reducible rfl | (simp; done) | (simp; omega) | omega
        case hS7h => assumption
        try simp only [Act.put, List.setIfInBounds_toArray, List.set_cons_zero, List.set_cons_succ]
        refine wpAnyH_take (i := 8) (oi := ?oi8h) (v := (.bool false)) ?hi8h ?hs8h ?hf8h ?hr8h ?hQ8h ?hy8h ?hS8h ?h8h
        case hi8h => exact (by simp only [List.getElem?_toArray, List.getElem?_cons_succ, List.getElem?_cons_zero]; rfl)
        case hs8h => kernel_rfl
        case hf8h => kernel_rfl
        case hr8h => kernel_rfl
        case hQ8h => exact fun _ _ _ h => h
        case hy8h =>
          refine Or.inl ⟨rfl, ?_⟩
          intro W hSw
          obtain ⟨q1, q2, q3, q4, q5, q6⟩ := hSw
          go_simp
          try with_reducible rfl
        case hS8h => assumption
        try simp only [Act.put, List.setIfInBounds_toArray, List.set_cons_zero, List.set_cons_succ]
        refine wpAnyH_done (by kernel_rfl) ?_ _
        have HS7 := Lib.hid (HS6.out.after HBh1.out)
        obtain ⟨w7, hw7⟩ : ∃ w7, w7 = Wh1 := ⟨_, rfl⟩
        rw [← hw7] at HS7 ⊢
        clear hw7 hHeld
        have a0 := cell_of_row w7 G 0 _ _ _ (HS7.out.ac _ _ _ _ rfl)
        have a1 := cell_of_row w7 G 1 _ _ _ (HS7.out.ac _ _ _ _ rfl)
        have a2 := cell_of_row w7 G 2 _ _ _ (HS7.out.ac _ _ _ _ rfl)
        simp at a0 a1 a2
        have HFN := Lib.hid (D.find_any A' n' c' x l' w7 HS7.out.ln (D.Rs.of_own HS7.out.ow) (by have := HS7.out.ln; have := HS7.out.lq; have := HS7.out.m20; omega))
        go_wp2_with fail
        refine HFN.out.mono ?_
        rintro r w8 ⟨⟨ma, mb, md, mt, rfl, hfd⟩, hb8⟩
        obtain ⟨wm, hwm⟩ : ∃ wm, wm = w8.alloc (.cells (mC ma mb md) 23) := ⟨_, rfl⟩
        obtain ⟨Fm, hFm⟩ : ∃ Fm, Fm = w8.heap.size := ⟨_, rfl⟩
        have hb9 : Below w8.heap.size w8 wm := by rw [hwm]; exact (Below.refl _ _).alloc (Nat.le_refl _) _
        have HSM := Lib.hid ((HS7.out.after hb8).after hb9)
        have hqm : wm.heap[Fm]? = some (.cells (mC ma mb md) 23 (0, 0)) := by rw [hwm, hFm]; exact heap_alloc_new w8 _
        have HTL := Lib.hid (st_tail HSM.out hfd z HZI.out)
        obtain ⟨L, hL⟩ : ∃ L, L = atL ma mb z := ⟨_, rfl⟩
        obtain ⟨S, hS⟩ : ∃ S, S = atS ma mb z := ⟨_, rfl⟩
        obtain ⟨U, hU⟩ : ∃ U, U = atU ma mb md z := ⟨_, rfl⟩
        rw [← hL, ← hS, ← hU] at HTL
        have HCE : Hid (∀ W, Below wm.heap.size wm W → W.cell? ⟨G, 1, none⟩ = some (.int .u32 (x : Int)) ∧ W.cell? ⟨G, 2, none⟩ = some (.int .i64 z) ∧ W.cell? ⟨Fm, 0, none⟩ = some (.int .i64 ma) ∧ W.cell? ⟨Fm, 1, none⟩ = some (.int .i64 mb) ∧ W.cell? ⟨Fm, 2, none⟩ = some (.int .i64 md)) := fun W hW => by
          have e1 := (hW.block _ (lt_of_block (HSM.out.ac _ _ _ _ rfl))).trans (HSM.out.ac _ _ _ _ rfl)
          have e2 := (hW.block _ (lt_of_block hqm)).trans hqm
          exact ⟨cell_of_row W _ 1 _ _ _ e1, cell_of_row W _ 2 _ _ _ e1, cell_of_row W _ 0 _ _ _ e2, cell_of_row W _ 1 _ _ _ e2, cell_of_row W _ 2 _ _ _ e2⟩
        have HBS : Hid (Below wm.heap.size wm wm) := Below.refl _ _
        have HWM := Lib.hid hwm
        have HFM := Lib.hid hFm
        clear hb8 hb9 hfd hL hS hU hqm hwm hFm
        clear a0 a1 a2
        go_upto_region 24 with (fail)
        rw [← HWM.out, ← HFM.out]
        have HDa : Hid (Below wm.heap.size wm wm.drew) := HBS.out.drew
        refine wp_region_held_drew (S := fun W : World => W.cell? ⟨G, 1, none⟩ = some (.int .u32 (x : Int)) ∧ W.cell? ⟨G, 2, none⟩ = some (.int .i64 z) ∧ W.cell? ⟨Fm, 0, none⟩ = some (.int .i64 ma) ∧ W.cell? ⟨Fm, 1, none⟩ = some (.int .i64 mb) ∧ W.cell? ⟨Fm, 2, none⟩ = some (.int .i64 md)) (by kernel_rfl) (HCE.out _ HDa.out) (fun hHeld => ?_)
        obtain ⟨Wa0, hW0⟩ : ∃ W0, W0 = wm.drew := ⟨_, rfl⟩
        rw [← hW0] at hHeld HDa ⊢
        clear hW0
        refine wpAnyH_take (i := 0) (oi := ?oi0a) (v := ?v0a) ?hi0a ?hs0a ?hf0a ?hr0a ?hQ0a ?hy0a ?hS0a ?h0a
        case hi0a => exact (by simp only [List.getElem?_toArray, List.getElem?_cons_zero]; rfl)
        case hs0a => kernel_rfl
        case hf0a => kernel_rfl
        case hr0a => kernel_rfl
        case hQ0a => exact fun _ _ _ h => h
        case hy0a =>
          refine Or.inl ⟨rfl, ?_⟩
          intro W hSw
          obtain ⟨q1, q2, q3, q4, q5⟩ := hSw
          go_simp
          try with_reducible rfl
        case hS0a => assumption
        try simp only [Act.put, List.setIfInBounds_toArray, List.set_cons_zero, List.set_cons_succ]
        refine wpAnyH_take (i := 1) (oi := ?oi1a) (v := ?v1a) ?hi1a ?hs1a ?hf1a ?hr1a ?hQ1a ?hy1a ?hS1a ?h1a
        case hi1a => exact (by simp only [List.getElem?_toArray, List.getElem?_cons_succ, List.getElem?_cons_zero]; rfl)
        case hs1a => kernel_rfl
        case hf1a => kernel_rfl
        case hr1a => kernel_rfl
        case hQ1a => exact fun _ _ _ h => h
        case hy1a =>
          refine Or.inl ⟨rfl, ?_⟩
          intro W hSw
          obtain ⟨q1, q2, q3, q4, q5⟩ := hSw
          go_simp
          try with_reducible rfl
        case hS1a => assumption
        try simp only [Act.put, List.setIfInBounds_toArray, List.set_cons_zero, List.set_cons_succ]
        refine wpAnyH_take (i := 2) (oi := ?oi2a) (v := ?v2a) ?hi2a ?hs2a ?hf2a ?hr2a ?hQ2a ?hy2a ?hS2a ?h2a
        case hi2a => exact (by simp only [List.getElem?_toArray, List.getElem?_cons_succ, List.getElem?_cons_zero]; rfl)
        case hs2a => kernel_rfl
        case hf2a => kernel_rfl
        case hr2a => kernel_rfl
        case hQ2a => exact fun _ _ _ h => h
        case hy2a =>
          refine Or.inl ⟨rfl, ?_⟩
          intro W hSw
          obtain ⟨q1, q2, q3, q4, q5⟩ := hSw
          go_simp
          try with_reducible rfl
        case hS2a => assumption
        try simp only [Act.put, List.setIfInBounds_toArray, List.set_cons_zero, List.set_cons_succ]
        refine wpAnyH_take (i := 3) (oi := ?oi3a) (v := ?v3a) ?hi3a ?hs3a ?hf3a ?hr3a ?hQ3a ?hy3a ?hS3a ?h3a
        case hi3a => exact (by simp only [List.getElem?_toArray, List.getElem?_cons_succ, List.getElem?_cons_zero]; rfl)
        case hs3a => kernel_rfl
        case hf3a => kernel_rfl
        case hr3a => kernel_rfl
        case hQ3a => exact fun _ _ _ h => h
        case hy3a =>
          refine Or.inl ⟨rfl, ?_⟩
          intro W hSw
          obtain ⟨q1, q2, q3, q4, q5⟩ := hSw
          go_simp
          try with_reducible rfl
        case hS3a => assumption
        try simp only [Act.put, List.setIfInBounds_toArray, List.set_cons_zero, List.set_cons_succ]
        refine wpAnyH_take (i := 4) (oi := ?oi4a) (v := ?v4a) ?hi4a ?hs4a ?hf4a ?hr4a ?hQ4a ?hy4a ?hS4a ?h4a
        case hi4a => exact (by simp only [List.getElem?_toArray, List.getElem?_cons_succ, List.getElem?_cons_zero]; rfl)
        case hs4a => kernel_rfl
        case hf4a => kernel_rfl
        case hr4a => kernel_rfl
        case hQ4a => exact fun _ _ _ h => h
        case hy4a =>
          refine Or.inl ⟨rfl, ?_⟩
          intro W hSw
          obtain ⟨q1, q2, q3, q4, q5⟩ := hSw
          go_simp
          try with_reducible rfl
        case hS4a => assumption
        try simp only [Act.put, List.setIfInBounds_toArray, List.set_cons_zero, List.set_cons_succ]
        refine wpAnyH_take (i := 6) (oi := ?oi6a) (v := ?v6a) ?hi6a ?hs6a ?hf6a ?hr6a ?hQ6a ?hy6a ?hS6a ?h6a
        case hi6a => exact (by simp only [List.getElem?_toArray, List.getElem?_cons_succ, List.getElem?_cons_zero]; rfl)
        case hs6a => kernel_rfl
        case hf6a => kernel_rfl
        case hr6a => kernel_rfl
        case hQ6a => exact fun _ _ _ h => h
        case hy6a =>
          refine Or.inl ⟨rfl, ?_⟩
          intro W hSw
          obtain ⟨q1, q2, q3, q4, q5⟩ := hSw
          go_simp
          try with_reducible rfl
        case hS6a => assumption
        try simp only [Act.put, List.setIfInBounds_toArray, List.set_cons_zero, List.set_cons_succ]
        refine wpAnyH_take (i := 7) (oi := ?oi7a) (v := ?v7a) ?hi7a ?hs7a ?hf7a ?hr7a ?hQ7a ?hy7a ?hS7a ?h7a
        case hi7a => exact (by simp only [List.getElem?_toArray, List.getElem?_cons_succ, List.getElem?_cons_zero]; rfl)
        case hs7a => kernel_rfl
        case hf7a => kernel_rfl
        case hr7a => kernel_rfl
        case hQ7a => exact fun _ _ _ h => h
        case hy7a =>
          refine Or.inl ⟨rfl, ?_⟩
          intro W hSw
          obtain ⟨q1, q2, q3, q4, q5⟩ := hSw
          go_simp
          try with_reducible rfl
        case hS7a => assumption
        try simp only [Act.put, List.setIfInBounds_toArray, List.set_cons_zero, List.set_cons_succ]
        refine wpAnyH_take (i := 8) (oi := ?oi8a) (v := ?v8a) ?hi8a ?hs8a ?hf8a ?hr8a ?hQ8a ?hy8a ?hS8a ?h8a
        case hi8a => exact (by simp only [List.getElem?_toArray, List.getElem?_cons_succ, List.getElem?_cons_zero]; rfl)
        case hs8a => kernel_rfl
        case hf8a => kernel_rfl
        case hr8a => kernel_rfl
        case hQ8a => exact fun _ _ _ h => h
        case hy8a =>
          refine Or.inl ⟨rfl, ?_⟩
          intro W hSw
          obtain ⟨q1, q2, q3, q4, q5⟩ := hSw
          go_simp
          try with_reducible rfl
        case hS8a => assumption
        try simp only [Act.put, List.setIfInBounds_toArray, List.set_cons_zero, List.set_cons_succ]
        refine wpAnyH_ready (rs := [5]) (by kernel_rfl) (by simp) ?_
        refine AllReadyH.cons (o := _) rfl (fun K hK => ?_) AllReadyH.nil
        go_simp
        refine (HTL.out.c5 Wa0 HDa.out).mono ?_
        rintro r Wa1 ⟨rfl, hbq⟩
        have HBa1 := Lib.hid (HDa.out.trans (hbq.mono HDa.out.size))
        clear hbq
        refine hK.out _ _ (HCE.out _ HBa1.out) (fun hHeld => ?_)
        clear hK K
        try simp only [Act.put, List.setIfInBounds_toArray, List.set_cons_zero, List.set_cons_succ]
        refine wpAnyH_ready (rs := [9]) (by kernel_rfl) (by simp) ?_
        refine AllReadyH.cons (o := _) rfl (fun K hK => ?_) AllReadyH.nil
        go_simp
        refine (HTL.out.c9 Wa1).mono ?_
        rintro r Wa2 ⟨rfl, hbq⟩
        have HBa2 := Lib.hid (HBa1.out.trans (hbq.mono HBa1.out.size))
        clear hbq
        refine hK.out _ _ (HCE.out _ HBa2.out) (fun hHeld => ?_)
        clear hK K
        try simp only [Act.put, List.setIfInBounds_toArray, List.set_cons_zero, List.set_cons_succ]
        refine wpAnyH_ready (rs := [10]) (by kernel_rfl) (by simp) ?_
        refine AllReadyH.cons (o := _) rfl (fun K hK => ?_) AllReadyH.nil
        go_simp
        refine (own_any L S U Wa2).mono ?_
        rintro r Wa3 ⟨rfl, hbq⟩
        have HBa3 := Lib.hid (HBa2.out.trans (hbq.mono HBa2.out.size))
        clear hbq
        refine hK.out _ _ (HCE.out _ HBa3.out) (fun hHeld => ?_)
        clear hK K
        try simp only [Act.put, List.setIfInBounds_toArray, List.set_cons_zero, List.set_cons_succ]
        refine wpAnyH_take (i := 11) (oi := ?oi11a) (v := (.bool false)) ?hi11a ?hs11a ?hf11a ?hr11a ?hQ11a ?hy11a ?hS11a ?h11a
        case hi11a => exact (by simp only [List.getElem?_toArray, List.getElem?_cons_succ, List.getElem?_cons_zero]; rfl)
        case hs11a => kernel_rfl
        case hf11a => kernel_rfl
        case hr11a => kernel_rfl
        case hQ11a => exact fun _ _ _ h => h
        case hy11a =>
          refine Or.inl ⟨rfl, ?_⟩
          intro W hSw
          obtain ⟨q1, q2, q3, q4, q5⟩ := hSw
          go_simp
          all_goals first | with_reducible rfl | (simp; done) | (simp; omega) | omega
        case hS11a => assumption
        try simp only [Act.put, List.setIfInBounds_toArray, List.set_cons_zero, List.set_cons_succ]
        refine wpAnyH_take (i := 12) (oi := ?oi12a) (v := (.bool false)) ?hi12a ?hs12a ?hf12a ?hr12a ?hQ12a ?hy12a ?hS12a ?h12a
        case hi12a => exact (by simp only [List.getElem?_toArray, List.getElem?_cons_succ, List.getElem?_cons_zero]; rfl)
        case hs12a => kernel_rfl
        case hf12a => kernel_rfl
        case hr12a => kernel_rfl
        case hQ12a => exact fun _ _ _ h => h
        case hy12a =>
          refine Or.inl ⟨rfl, ?_⟩
          intro W hSw
          obtain ⟨q1, q2, q3, q4, q5⟩ := hSw
          go_simp
          try with_reducible rfl
        case hS12a => assumption
        try simp only [Act.put, List.setIfInBounds_toArray, List.set_cons_zero, List.set_cons_succ]
        refine wpAnyH_take (i := 13) (oi := ?oi13a) (v := ?v13a) ?hi13a ?hs13a ?hf13a ?hr13a ?hQ13a ?hy13a ?hS13a ?h13a
        case hi13a => exact (by simp only [List.getElem?_toArray, List.getElem?_cons_succ, List.getElem?_cons_zero]; rfl)
        case hs13a => kernel_rfl
        case hf13a => kernel_rfl
        case hr13a => kernel_rfl
        case hQ13a => exact fun _ _ _ h => h
        case hy13a =>
          refine Or.inl ⟨rfl, ?_⟩
          intro W hSw
          obtain ⟨q1, q2, q3, q4, q5⟩ := hSw
          go_simp
          try with_reducible rfl
        case hS13a => assumption
        try simp only [Act.put, List.setIfInBounds_toArray, List.set_cons_zero, List.set_cons_succ]
        refine wpAnyH_take (i := 14) (oi := ?oi14a) (v := ?v14a) ?hi14a ?hs14a ?hf14a ?hr14a ?hQ14a ?hy14a ?hS14a ?h14a
        case hi14a => exact (by simp only [List.getElem?_toArray, List.getElem?_cons_succ, List.getElem?_cons_zero]; rfl)
        case hs14a => kernel_rfl
        case hf14a => kernel_rfl
        case hr14a => kernel_rfl
        case hQ14a => exact fun _ _ _ h => h
        case hy14a =>
          refine Or.inl ⟨rfl, ?_⟩
          intro W hSw
          obtain ⟨q1, q2, q3, q4, q5⟩ := hSw
          go_simp
          try with_reducible rfl
        case hS14a => assumption
        try simp only [Act.put, List.setIfInBounds_toArray, List.set_cons_zero, List.set_cons_succ]
        refine wpAnyH_take (i := 15) (oi := ?oi15a) (v := ?v15a) ?hi15a ?hs15a ?hf15a ?hr15a ?hQ15a ?hy15a ?hS15a ?h15a
        case hi15a => exact (by simp only [List.getElem?_toArray, List.getElem?_cons_succ, List.getElem?_cons_zero]; rfl)
        case hs15a => kernel_rfl
        case hf15a => kernel_rfl
        case hr15a => kernel_rfl
        case hQ15a => exact fun _ _ _ h => h
        case hy15a =>
          refine Or.inl ⟨rfl, ?_⟩
          intro W hSw
          obtain ⟨q1, q2, q3, q4, q5⟩ := hSw
          go_simp
          try with_reducible rfl
        case hS15a => assumption
        try simp only [Act.put, List.setIfInBounds_toArray, List.set_cons_zero, List.set_cons_succ]
        refine wpAnyH_take (i := 16) (oi := ?oi16a) (v := ?v16a) ?hi16a ?hs16a ?hf16a ?hr16a ?hQ16a ?hy16a ?hS16a ?h16a
        case hi16a => exact (by simp only [List.getElem?_toArray, List.getElem?_cons_succ, List.getElem?_cons_zero]; rfl)
        case hs16a => kernel_rfl
        case hf16a => kernel_rfl
        case hr16a => kernel_rfl
        case hQ16a => exact fun _ _ _ h => h
        case hy16a =>
          refine Or.inl ⟨rfl, ?_⟩
          intro W hSw
          obtain ⟨q1, q2, q3, q4, q5⟩ := hSw
          go_simp
          try with_reducible rfl
        case hS16a => assumption
        try simp only [Act.put, List.setIfInBounds_toArray, List.set_cons_zero, List.set_cons_succ]
        refine wpAnyH_take (i := 17) (oi := ?oi17a) (v := ?v17a) ?hi17a ?hs17a ?hf17a ?hr17a ?hQ17a ?hy17a ?hS17a ?h17a
        case hi17a => exact (by simp only [List.getElem?_toArray, List.getElem?_cons_succ, List.getElem?_cons_zero]; rfl)
        case hs17a => kernel_rfl
        case hf17a => kernel_rfl
        case hr17a => kernel_rfl
        case hQ17a => exact fun _ _ _ h => h
        case hy17a =>
          refine Or.inl ⟨rfl, ?_⟩
          intro W hSw
          obtain ⟨q1, q2, q3, q4, q5⟩ := hSw
          go_simp
          try with_reducible rfl
        case hS17a => assumption
        try simp only [Act.put, List.setIfInBounds_toArray, List.set_cons_zero, List.set_cons_succ]
        refine wpAnyH_take (i := 19) (oi := ?oi19a) (v := ?v19a) ?hi19a ?hs19a ?hf19a ?hr19a ?hQ19a ?hy19a ?hS19a ?h19a
        case hi19a => exact (by simp only [List.getElem?_toArray, List.getElem?_cons_succ, List.getElem?_cons_zero]; rfl)
        case hs19a => kernel_rfl
        case hf19a => kernel_rfl
        case hr19a => kernel_rfl
        case hQ19a => exact fun _ _ _ h => h
        case hy19a =>
          refine Or.inl ⟨rfl, ?_⟩
          intro W hSw
          obtain ⟨q1, q2, q3, q4, q5⟩ := hSw
          go_simp
          try with_reducible rfl
        case hS19a => assumption
        try simp only [Act.put, List.setIfInBounds_toArray, List.set_cons_zero, List.set_cons_succ]
        refine wpAnyH_take (i := 20) (oi := ?oi20a) (v := ?v20a) ?hi20a ?hs20a ?hf20a ?hr20a ?hQ20a ?hy20a ?hS20a ?h20a
        case hi20a => exact (by simp only [List.getElem?_toArray, List.getElem?_cons_succ, List.getElem?_cons_zero]; rfl)
        case hs20a => kernel_rfl
        case hf20a => kernel_rfl
        case hr20a => kernel_rfl
        case hQ20a => exact fun _ _ _ h => h
        case hy20a =>
          refine Or.inl ⟨rfl, ?_⟩
          intro W hSw
          obtain ⟨q1, q2, q3, q4, q5⟩ := hSw
          go_simp
          try with_reducible rfl
        case hS20a => assumption
        try simp only [Act.put, List.setIfInBounds_toArray, List.set_cons_zero, List.set_cons_succ]
        refine wpAnyH_take (i := 21) (oi := ?oi21a) (v := ?v21a) ?hi21a ?hs21a ?hf21a ?hr21a ?hQ21a ?hy21a ?hS21a ?h21a
        case hi21a => exact (by simp only [List.getElem?_toArray, List.getElem?_cons_succ, List.getElem?_cons_zero]; rfl)
        case hs21a => kernel_rfl
        case hf21a => kernel_rfl
        case hr21a => kernel_rfl
        case hQ21a => exact fun _ _ _ h => h
        case hy21a =>
          refine Or.inl ⟨rfl, ?_⟩
          intro W hSw
          obtain ⟨q1, q2, q3, q4, q5⟩ := hSw
          go_simp
          try with_reducible rfl
        case hS21a => assumption
        try simp only [Act.put, List.setIfInBounds_toArray, List.set_cons_zero, List.set_cons_succ]
        refine wpAnyH_take (i := 22) (oi := ?oi22a) (v := ?v22a) ?hi22a ?hs22a ?hf22a ?hr22a ?hQ22a ?hy22a ?hS22a ?h22a
        case hi22a => exact (by simp only [List.getElem?_toArray, List.getElem?_cons_succ, List.getElem?_cons_zero]; rfl)
        case hs22a => kernel_rfl
        case hf22a => kernel_rfl
        case hr22a => kernel_rfl
        case hQ22a => exact fun _ _ _ h => h
        case hy22a =>
          refine Or.inl ⟨rfl, ?_⟩
          intro W hSw
          obtain ⟨q1, q2, q3, q4, q5⟩ := hSw
          go_simp
          try with_reducible rfl
        case hS22a => assumption
        try simp only [Act.put, List.setIfInBounds_toArray, List.set_cons_zero, List.set_cons_succ]
        refine wpAnyH_take (i := 23) (oi := ?oi23a) (v := ?v23a) ?hi23a ?hs23a ?hf23a ?hr23a ?hQ23a ?hy23a ?hS23a ?h23a
        case hi23a => exact (by simp only [List.getElem?_toArray, List.getElem?_cons_succ, List.getElem?_cons_zero]; rfl)
        case hs23a => kernel_rfl
        case hf23a => kernel_rfl
        case hr23a => kernel_rfl
        case hQ23a => exact fun _ _ _ h => h
        case hy23a =>
          refine Or.inl ⟨rfl, ?_⟩
          intro W hSw
          obtain ⟨q1, q2, q3, q4, q5⟩ := hSw
          go_simp
          try with_reducible rfl
        case hS23a => assumption
        try simp only [Act.put, List.setIfInBounds_toArray, List.set_cons_zero, List.set_cons_succ]
        refine wpAnyH_ready (rs := [18]) (by kernel_rfl) (by simp) ?_
        refine AllReadyH.cons (o := _) rfl (fun K hK => ?_) AllReadyH.nil
        go_simp
        refine (HTL.out.c18 Wa3 HBa3.out).mono ?_
        rintro r Wa4 ⟨rfl, hbq⟩
        have HBa4 := Lib.hid (HBa3.out.trans (hbq.mono HBa3.out.size))
        clear hbq
        refine hK.out _ _ (HCE.out _ HBa4.out) (fun hHeld => ?_)
        clear hK K
        try simp only [Act.put, List.setIfInBounds_toArray, List.set_cons_zero, List.set_cons_succ]
        refine wpAnyH_take (i := 24) (oi := ?oi24a) (v := (.bool false)) ?hi24a ?hs24a ?hf24a ?hr24a ?hQ24a ?hy24a ?hS24a ?h24a
        case hi24a => exact (by simp only [List.getElem?_toArray, List.getElem?_cons_succ, List.getElem?_cons_zero]; rfl)
        case hs24a => kernel_rfl
        case hf24a => kernel_rfl
        case hr24a => kernel_rfl
        case hQ24a => exact fun _ _ _ h => h
        case hy24a =>
          refine Or.inl ⟨rfl, ?_⟩
          intro W hSw
          obtain ⟨q1, q2, q3, q4, q5⟩ := hSw
          go_simp
          all_goals first | with_reducible rfl | (simp; done) | (simp; omega) | omega
        case hS24a => assumption
        try simp only [Act.put, List.setIfInBounds_toArray, List.set_cons_zero, List.set_cons_succ]
        refine wpAnyH_take (i := 25) (oi := ?oi25a) (v := (.bool false)) ?hi25a ?hs25a ?hf25a ?hr25a ?hQ25a ?hy25a ?hS25a ?h25a
        case hi25a => exact (by simp only [List.getElem?_toArray, List.getElem?_cons_succ, List.getElem?_cons_zero]; rfl)
        case hs25a => kernel_rfl
        case hf25a => kernel_rfl
        case hr25a => kernel_rfl
        case hQ25a => exact fun _ _ _ h => h
        case hy25a =>
          refine Or.inl ⟨rfl, ?_⟩
          intro W hSw
          obtain ⟨q1, q2, q3, q4, q5⟩ := hSw
          go_simp
          try with_reducible rfl
        case hS25a => assumption
        try simp only [Act.put, List.setIfInBounds_toArray, List.set_cons_zero, List.set_cons_succ]
        refine wpAnyH_take (i := 26) (oi := ?oi26a) (v := ?v26a) ?hi26a ?hs26a ?hf26a ?hr26a ?hQ26a ?hy26a ?hS26a ?h26a
        case hi26a => exact (by simp only [List.getElem?_toArray, List.getElem?_cons_succ, List.getElem?_cons_zero]; rfl)
        case hs26a => kernel_rfl
        case hf26a => kernel_rfl
        case hr26a => kernel_rfl
        case hQ26a => exact fun _ _ _ h => h
        case hy26a =>
          refine Or.inl ⟨rfl, ?_⟩
          intro W hSw
          obtain ⟨q1, q2, q3, q4, q5⟩ := hSw
          go_simp
          try with_reducible rfl
        case hS26a => assumption
        try simp only [Act.put, List.setIfInBounds_toArray, List.set_cons_zero, List.set_cons_succ]
        refine wpAnyH_take (i := 27) (oi := ?oi27a) (v := ?v27a) ?hi27a ?hs27a ?hf27a ?hr27a ?hQ27a ?hy27a ?hS27a ?h27a
        case hi27a => exact (by simp only [List.getElem?_toArray, List.getElem?_cons_succ, List.getElem?_cons_zero]; rfl)
        case hs27a => kernel_rfl
        case hf27a => kernel_rfl
        case hr27a => kernel_rfl
        case hQ27a => exact fun _ _ _ h => h
        case hy27a =>
          refine Or.inl ⟨rfl, ?_⟩
          intro W hSw
          obtain ⟨q1, q2, q3, q4, q5⟩ := hSw
          go_simp
          try with_reducible rfl
        case hS27a => assumption
        try simp only [Act.put, List.setIfInBounds_toArray, List.set_cons_zero, List.set_cons_succ]
        refine wpAnyH_take (i := 29) (oi := ?oi29a) (v := ?v29a) ?hi29a ?hs29a ?hf29a ?hr29a ?hQ29a ?hy29a ?hS29a ?h29a
        case hi29a => exact (by simp only [List.getElem?_toArray, List.getElem?_cons_succ, List.getElem?_cons_zero]; rfl)
        case hs29a => kernel_rfl
        case hf29a => kernel_rfl
        case hr29a => kernel_rfl
        case hQ29a => exact fun _ _ _ h => h
        case hy29a =>
          refine Or.inl ⟨rfl, ?_⟩
          intro W hSw
          obtain ⟨q1, q2, q3, q4, q5⟩ := hSw
          go_simp
          try with_reducible rfl
        case hS29a => assumption
        try simp only [Act.put, List.setIfInBounds_toArray, List.set_cons_zero, List.set_cons_succ]
        refine wpAnyH_ready (rs := [28]) (by kernel_rfl) (by simp) ?_
        refine AllReadyH.cons (o := _) rfl (fun K hK => ?_) AllReadyH.nil
        go_simp
        refine (HTL.out.c28 Wa4 HBa4.out).mono ?_
        rintro r Wa5 ⟨v1, rfl, hv1, hbq⟩
        have HBa5 := Lib.hid (HBa4.out.trans (hbq.mono HBa4.out.size))
        have HV1 := Lib.hid hv1
        clear hv1
        clear hbq
        refine hK.out _ _ (HCE.out _ HBa5.out) (fun hHeld => ?_)
        clear hK K
        try simp only [Act.put, List.setIfInBounds_toArray, List.set_cons_zero, List.set_cons_succ]
        refine wpAnyH_ready (rs := [30]) (by kernel_rfl) (by simp) ?_
        refine AllReadyH.cons (o := _) rfl (fun K hK => ?_) AllReadyH.nil
        go_simp
        refine (HTL.out.c30 Wa5 HBa5.out).mono ?_
        rintro r Wa6 ⟨v2, rfl, hv2, hbq⟩
        have HBa6 := Lib.hid (HBa5.out.trans (hbq.mono HBa5.out.size))
        have HV2 := Lib.hid hv2
        have HV1 := Lib.hid (HV1.out.after hbq)
        clear hv2
        clear hbq
        refine hK.out _ _ (HCE.out _ HBa6.out) (fun hHeld => ?_)
        clear hK K
        try simp only [Act.put, List.setIfInBounds_toArray, List.set_cons_zero, List.set_cons_succ]
        refine wpAnyH_ready (rs := [31]) (by kernel_rfl) (by simp) ?_
        refine AllReadyH.cons (o := _) rfl (fun K hK => ?_) AllReadyH.nil
        go_simp
        refine (HTL.out.c31 Wa6 v1 v2 HV1.out HV2.out).mono ?_
        rintro r Wa7 ⟨rfl, hbq⟩
        have HBa7 := Lib.hid (HBa6.out.trans (hbq.mono HBa6.out.size))
        clear hbq
        refine hK.out _ _ (HCE.out _ HBa7.out) (fun hHeld => ?_)
        clear hK K
        try simp only [Act.put, List.setIfInBounds_toArray, List.set_cons_zero, List.set_cons_succ]
        refine wpAnyH_take (i := 32) (oi := ?oi32a) (v := (.bool false)) ?hi32a ?hs32a ?hf32a ?hr32a ?hQ32a ?hy32a ?hS32a ?h32a
        case hi32a => exact (by simp only [List.getElem?_toArray, List.getElem?_cons_succ, List.getElem?_cons_zero]; rfl)
        case hs32a => kernel_rfl
        case hf32a => kernel_rfl
        case hr32a => kernel_rfl
        case hQ32a => exact fun _ _ _ h => h
        case hy32a =>
          refine Or.inl ⟨rfl, ?_⟩
          intro W hSw
          obtain ⟨q1, q2, q3, q4, q5⟩ := hSw
          go_simp
          try with_reducible rfl
        case hS32a => assumption
        try simp only [Act.put, List.setIfInBounds_toArray, List.set_cons_zero, List.set_cons_succ]
        refine wpAnyH_take (i := 33) (oi := ?oi33a) (v := (.bool false)) ?hi33a ?hs33a ?hf33a ?hr33a ?hQ33a ?hy33a ?hS33a ?h33a
        case hi33a => exact (by simp only [List.getElem?_toArray, List.getElem?_cons_succ, List.getElem?_cons_zero]; rfl)
        case hs33a => kernel_rfl
        case hf33a => kernel_rfl
        case hr33a => kernel_rfl
        case hQ33a => exact fun _ _ _ h => h
        case hy33a =>
          refine Or.inl ⟨rfl, ?_⟩
          intro W hSw
          obtain ⟨q1, q2, q3, q4, q5⟩ := hSw
          go_simp
          try with_reducible rfl
        case hS33a => assumption
        try simp only [Act.put, List.setIfInBounds_toArray, List.set_cons_zero, List.set_cons_succ]
        refine wpAnyH_done (by kernel_rfl) ?_ _
        have HSZ := Lib.hid ((HSM.out.after HBa7.out).noact)
        go_wp2_with fail
        go_roundw
        case rel => exact ⟨k + 1, l', A', n', c', by omega, rfl, by go_num, HSZ⟩
        case measure => simp [intOf] <;> omega
      · go_upto_region 11 with (fail)
        rw [← H2.out, ← HG0.out]
        clear d0 d1 d2
        have a0 := cell_of_row w2 G 0 _ _ _ (HS2.out.ac _ _ _ _ rfl)
        have a1 := cell_of_row w2 G 1 _ _ _ (HS2.out.ac _ _ _ _ rfl)
        have a2 := cell_of_row w2 G 2 _ _ _ (HS2.out.ac _ _ _ _ rfl)
        simp at a0 a1 a2
        have HDS := Lib.hid (st_sweep_doc HS2.out z HZI.out)
        go_wp2_with fail
        refine HDS.out.mono ?_
        rintro r w3 ⟨A', n', c', rfl, hn', hs3⟩
        have HS3 := Lib.hid hs3
        have HPS := Lib.hid (st_sweep HS3.out z HZI.out)
        obtain ⟨l', hl'⟩ : ∃ l', l' = l.filter (D.kp z) := ⟨_, rfl⟩
        rw [← hl'] at hn' HPS HS3
        obtain ⟨s, hs⟩ : ∃ s, s = l.length - l'.length := ⟨_, rfl⟩
        rw [← hs] at HPS
        have hlen : l'.length ≤ l.length := by rw [hl']; exact List.length_filter_le _ _
        have hln := HS2.out.ln
        have hk1 : s + n' ≤ n := by omega
        have hk2 : n ≤ s + n' := by omega
        have hk3 : n ≤ 20 := by have := HS2.out.lq; have := HS2.out.m20; omega
        clear hs3 hl' hs hlen hln hn'
        clear a0 a1 a2
        have a0 := cell_of_row w3 G 0 _ _ _ (HS3.out.ac _ _ _ _ rfl)
        have a1 := cell_of_row w3 G 1 _ _ _ (HS3.out.ac _ _ _ _ rfl)
        have a2 := cell_of_row w3 G 2 _ _ _ (HS3.out.ac _ _ _ _ rfl)
        simp at a0 a1 a2
        go_wp2_with fail
        refine HPS.out.mono ?_
        rintro r w4 ⟨rfl, hs4⟩
        have HS4 := Lib.hid hs4
        clear hs4
        clear a0 a1 a2
        have hk4 : (n : Int) - (n' : Int) = (s : Int) := by omega
        go_upto_region 23 with (fail)
        clear hk4
        have a0 := cell_of_row w4 G 0 _ _ _ (HS4.out.ac _ _ _ _ rfl)
        have a1 := cell_of_row w4 G 1 _ _ _ (HS4.out.ac _ _ _ _ rfl)
        have a2 := cell_of_row w4 G 2 _ _ _ (HS4.out.ac _ _ _ _ rfl)
        simp at a0 a1 a2
        have HFN := Lib.hid (D.find_any A' n' c' x l' w4 HS4.out.ln (D.Rs.of_own HS4.out.ow) (by have := HS4.out.ln; have := HS4.out.lq; have := HS4.out.m20; omega))
        go_wp2_with fail
        refine HFN.out.mono ?_
        rintro r w8 ⟨⟨ma, mb, md, mt, rfl, hfd⟩, hb8⟩
        obtain ⟨wm, hwm⟩ : ∃ wm, wm = w8.alloc (.cells (mC ma mb md) 23) := ⟨_, rfl⟩
        obtain ⟨Fm, hFm⟩ : ∃ Fm, Fm = w8.heap.size := ⟨_, rfl⟩
        have hb9 : Below w8.heap.size w8 wm := by rw [hwm]; exact (Below.refl _ _).alloc (Nat.le_refl _) _
        have HSM := Lib.hid ((HS4.out.after hb8).after hb9)
        have hqm : wm.heap[Fm]? = some (.cells (mC ma mb md) 23 (0, 0)) := by rw [hwm, hFm]; exact heap_alloc_new w8 _
        have HTL := Lib.hid (st_tail HSM.out hfd z HZI.out)
        obtain ⟨L, hL⟩ : ∃ L, L = atL ma mb z := ⟨_, rfl⟩
        obtain ⟨S, hS⟩ : ∃ S, S = atS ma mb z := ⟨_, rfl⟩
        obtain ⟨U, hU⟩ : ∃ U, U = atU ma mb md z := ⟨_, rfl⟩
        rw [← hL, ← hS, ← hU] at HTL
        have HCE : Hid (∀ W, Below wm.heap.size wm W → W.cell? ⟨G, 1, none⟩ = some (.int .u32 (x : Int)) ∧ W.cell? ⟨G, 2, none⟩ = some (.int .i64 z) ∧ W.cell? ⟨Fm, 0, none⟩ = some (.int .i64 ma) ∧ W.cell? ⟨Fm, 1, none⟩ = some (.int .i64 mb) ∧ W.cell? ⟨Fm, 2, none⟩ = some (.int .i64 md)) := fun W hW => by
          have e1 := (hW.block _ (lt_of_block (HSM.out.ac _ _ _ _ rfl))).trans (HSM.out.ac _ _ _ _ rfl)
          have e2 := (hW.block _ (lt_of_block hqm)).trans hqm
          exact ⟨cell_of_row W _ 1 _ _ _ e1, cell_of_row W _ 2 _ _ _ e1, cell_of_row W _ 0 _ _ _ e2, cell_of_row W _ 1 _ _ _ e2, cell_of_row W _ 2 _ _ _ e2⟩
        have HBS : Hid (Below wm.heap.size wm wm) := Below.refl _ _
        have HWM := Lib.hid hwm
        have HFM := Lib.hid hFm
        clear hb8 hb9 hfd hL hS hU hqm hwm hFm
        clear a0 a1 a2
        go_upto_region 24 with (fail)
        rw [← HWM.out, ← HFM.out]
        have HDb : Hid (Below wm.heap.size wm wm.drew) := HBS.out.drew
        refine wp_region_held_drew (S := fun W : World => W.cell? ⟨G, 1, none⟩ = some (.int .u32 (x : Int)) ∧ W.cell? ⟨G, 2, none⟩ = some (.int .i64 z) ∧ W.cell? ⟨Fm, 0, none⟩ = some (.int .i64 ma) ∧ W.cell? ⟨Fm, 1, none⟩ = some (.int .i64 mb) ∧ W.cell? ⟨Fm, 2, none⟩ = some (.int .i64 md)) (by kernel_rfl) (HCE.out _ HDb.out) (fun hHeld => ?_)
        obtain ⟨Wb0, hW0⟩ : ∃ W0, W0 = wm.drew := ⟨_, rfl⟩
        rw [← hW0] at hHeld HDb ⊢
        clear hW0
        refine wpAnyH_take (i := 0) (oi := ?oi0b) (v := ?v0b) ?hi0b ?hs0b ?hf0b ?hr0b ?hQ0b ?hy0b ?hS0b ?h0b
        case hi0b => exact (by simp only [List.getElem?_toArray, List.getElem?_cons_zero]; rfl)
        case hs0b => kernel_rfl
        case hf0b => kernel_rfl
        case hr0b => kernel_rfl
        case hQ0b => exact fun _ _ _ h => h
        case hy0b =>
          refine Or.inl ⟨rfl, ?_⟩
          intro W hSw
          obtain ⟨q1, q2, q3, q4, q5⟩ := hSw
          go_simp
          try with_reducible rfl
        case hS0b => assumption
        try simp only [Act.put, List.setIfInBounds_toArray, List.set_cons_zero, List.set_cons_succ]
        refine wpAnyH_take (i := 1) (oi := ?oi1b) (v := ?v1b) ?hi1b ?hs1b ?hf1b ?hr1b ?hQ1b ?hy1b ?hS1b ?h1b
        case hi1b => exact (by simp only [List.getElem?_toArray, List.getElem?_cons_succ, List.getElem?_cons_zero]; rfl)
        case hs1b => kernel_rfl
        case hf1b => kernel_rfl
        case hr1b => kernel_rfl
        case hQ1b => exact fun _ _ _ h => h
        case hy1b =>
          refine Or.inl ⟨rfl, ?_⟩
          intro W hSw
          obtain ⟨q1, q2, q3, q4, q5⟩ := hSw
          go_simp
          try with_reducible rfl
        case hS1b => assumption
        try simp only [Act.put, List.setIfInBounds_toArray, List.set_cons_zero, List.set_cons_succ]
        refine wpAnyH_take (i := 2) (oi := ?oi2b) (v := ?v2b) ?hi2b ?hs2b ?hf2b ?hr2b ?hQ2b ?hy2b ?hS2b ?h2b
        case hi2b => exact (by simp only [List.getElem?_toArray, List.getElem?_cons_succ, List.getElem?_cons_zero]; rfl)
        case hs2b => kernel_rfl
        case hf2b => kernel_rfl
        case hr2b => kernel_rfl
        case hQ2b => exact fun _ _ _ h => h
        case hy2b =>
          refine Or.inl ⟨rfl, ?_⟩
          intro W hSw
          obtain ⟨q1, q2, q3, q4, q5⟩ := hSw
          go_simp
          try with_reducible rfl
        case hS2b => assumption
        try simp only [Act.put, List.setIfInBounds_toArray, List.set_cons_zero, List.set_cons_succ]
        refine wpAnyH_take (i := 3) (oi := ?oi3b) (v := ?v3b) ?hi3b ?hs3b ?hf3b ?hr3b ?hQ3b ?hy3b ?hS3b ?h3b
        case hi3b => exact (by simp only [List.getElem?_toArray, List.getElem?_cons_succ, List.getElem?_cons_zero]; rfl)
        case hs3b => kernel_rfl
        case hf3b => kernel_rfl
        case hr3b => kernel_rfl
        case hQ3b => exact fun _ _ _ h => h
        case hy3b =>
          refine Or.inl ⟨rfl, ?_⟩
          intro W hSw
          obtain ⟨q1, q2, q3, q4, q5⟩ := hSw
          go_simp
          try with_reducible rfl
        case hS3b => assumption
        try simp only [Act.put, List.setIfInBounds_toArray, List.set_cons_zero, List.set_cons_succ]
        refine wpAnyH_take (i := 4) (oi := ?oi4b) (v := ?v4b) ?hi4b ?hs4b ?hf4b ?hr4b ?hQ4b ?hy4b ?hS4b ?h4b
        case hi4b => exact (by simp only [List.getElem?_toArray, List.getElem?_cons_succ, List.getElem?_cons_zero]; rfl)
        case hs4b => kernel_rfl
        case hf4b => kernel_rfl
        case hr4b => kernel_rfl
        case hQ4b => exact fun _ _ _ h => h
        case hy4b =>
          refine Or.inl ⟨rfl, ?_⟩
          intro W hSw
          obtain ⟨q1, q2, q3, q4, q5⟩ := hSw
          go_simp
          try with_reducible rfl
        case hS4b => assumption
        try simp only [Act.put, List.setIfInBounds_toArray, List.set_cons_zero, List.set_cons_succ]
        refine wpAnyH_take (i := 6) (oi := ?oi6b) (v := ?v6b) ?hi6b ?hs6b ?hf6b ?hr6b ?hQ6b ?hy6b ?hS6b ?h6b
        case hi6b => exact (by simp only [List.getElem?_toArray, List.getElem?_cons_succ, List.getElem?_cons_zero]; rfl)
        case hs6b => kernel_rfl
        case hf6b => kernel_rfl
        case hr6b => kernel_rfl
        case hQ6b => exact fun _ _ _ h => h
        case hy6b =>
          refine Or.inl ⟨rfl, ?_⟩
          intro W hSw
          obtain ⟨q1, q2, q3, q4, q5⟩ := hSw
          go_simp
          try with_reducible rfl
        case hS6b => assumption
        try simp only [Act.put, List.setIfInBounds_toArray, List.set_cons_zero, List.set_cons_succ]
        refine wpAnyH_take (i := 7) (oi := ?oi7b) (v := ?v7b) ?hi7b ?hs7b ?hf7b ?hr7b ?hQ7b ?hy7b ?hS7b ?h7b
        case hi7b => exact (by simp only [List.getElem?_toArray, List.getElem?_cons_succ, List.getElem?_cons_zero]; rfl)
        case hs7b => kernel_rfl
        case hf7b => kernel_rfl
        case hr7b => kernel_rfl
        case hQ7b => exact fun _ _ _ h => h
        case hy7b =>
          refine Or.inl ⟨rfl, ?_⟩
          intro W hSw
          obtain ⟨q1, q2, q3, q4, q5⟩ := hSw
          go_simp
          try with_reducible rfl
        case hS7b => assumption
        try simp only [Act.put, List.setIfInBounds_toArray, List.set_cons_zero, List.set_cons_succ]
        refine wpAnyH_take (i := 8) (oi := ?oi8b) (v := ?v8b) ?hi8b ?hs8b ?hf8b ?hr8b ?hQ8b ?hy8b ?hS8b ?h8b
        case hi8b => exact (by simp only [List.getElem?_toArray, List.getElem?_cons_succ, List.getElem?_cons_zero]; rfl)
        case hs8b => kernel_rfl
        case hf8b => kernel_rfl
        case hr8b => kernel_rfl
        case hQ8b => exact fun _ _ _ h => h
        case hy8b =>
          refine Or.inl ⟨rfl, ?_⟩
          intro W hSw
          obtain ⟨q1, q2, q3, q4, q5⟩ := hSw
          go_simp
          try with_reducible rfl
        case hS8b => assumption
        try simp only [Act.put, List.setIfInBounds_toArray, List.set_cons_zero, List.set_cons_succ]
        refine wpAnyH_ready (rs := [5]) (by kernel_rfl) (by simp) ?_
        refine AllReadyH.cons (o := _) rfl (fun K hK => ?_) AllReadyH.nil
        go_simp
        refine (HTL.out.c5 Wb0 HDb.out).mono ?_
        rintro r Wb1 ⟨rfl, hbq⟩
        have HBb1 := Lib.hid (HDb.out.trans (hbq.mono HDb.out.size))
        clear hbq
        refine hK.out _ _ (HCE.out _ HBb1.out) (fun hHeld => ?_)
        clear hK K
        try simp only [Act.put, List.setIfInBounds_toArray, List.set_cons_zero, List.set_cons_succ]
        refine wpAnyH_ready (rs := [9]) (by kernel_rfl) (by simp) ?_
        refine AllReadyH.cons (o := _) rfl (fun K hK => ?_) AllReadyH.nil
        go_simp
        refine (HTL.out.c9 Wb1).mono ?_
        rintro r Wb2 ⟨rfl, hbq⟩
        have HBb2 := Lib.hid (HBb1.out.trans (hbq.mono HBb1.out.size))
        clear hbq
        refine hK.out _ _ (HCE.out _ HBb2.out) (fun hHeld => ?_)
        clear hK K
        try simp only [Act.put, List.setIfInBounds_toArray, List.set_cons_zero, List.set_cons_succ]
        refine wpAnyH_ready (rs := [10]) (by kernel_rfl) (by simp) ?_
        refine AllReadyH.cons (o := _) rfl (fun K hK => ?_) AllReadyH.nil
        go_simp
        refine (own_any L S U Wb2).mono ?_
        rintro r Wb3 ⟨rfl, hbq⟩
        have HBb3 := Lib.hid (HBb2.out.trans (hbq.mono HBb2.out.size))
        clear hbq
        refine hK.out _ _ (HCE.out _ HBb3.out) (fun hHeld => ?_)
        clear hK K
        try simp only [Act.put, List.setIfInBounds_toArray, List.set_cons_zero, List.set_cons_succ]
        refine wpAnyH_take (i := 11) (oi := ?oi11b) (v := (.bool false)) ?hi11b ?hs11b ?hf11b ?hr11b ?hQ11b ?hy11b ?hS11b ?h11b
        case hi11b => exact (by simp only [List.getElem?_toArray, List.getElem?_cons_succ, List.getElem?_cons_zero]; rfl)
        case hs11b => kernel_rfl
        case hf11b => kernel_rfl
        case hr11b => kernel_rfl
        case hQ11b => exact fun _ _ _ h => h
        case hy11b =>
          refine Or.inl ⟨rfl, ?_⟩
          intro W hSw
          obtain ⟨q1, q2, q3, q4, q5⟩ := hSw
          go_simp
          all_goals first | with_reducible rfl | (simp; done) | (simp; omega) | omega
        case hS11b => assumption
        try simp only [Act.put, List.setIfInBounds_toArray, List.set_cons_zero, List.set_cons_succ]
        refine wpAnyH_take (i := 12) (oi := ?oi12b) (v := (.bool false)) ?hi12b ?hs12b ?hf12b ?hr12b ?hQ12b ?hy12b ?hS12b ?h12b
        case hi12b => exact (by simp only [List.getElem?_toArray, List.getElem?_cons_succ, List.getElem?_cons_zero]; rfl)
        case hs12b => kernel_rfl
        case hf12b => kernel_rfl
        case hr12b => kernel_rfl
        case hQ12b => exact fun _ _ _ h => h
        case hy12b =>
          refine Or.inl ⟨rfl, ?_⟩
          intro W hSw
          obtain ⟨q1, q2, q3, q4, q5⟩ := hSw
          go_simp
          try with_reducible rfl
        case hS12b => assumption
        try simp only [Act.put, List.setIfInBounds_toArray, List.set_cons_zero, List.set_cons_succ]
        refine wpAnyH_take (i := 13) (oi := ?oi13b) (v := ?v13b) ?hi13b ?hs13b ?hf13b ?hr13b ?hQ13b ?hy13b ?hS13b ?h13b
        case hi13b => exact (by simp only [List.getElem?_toArray, List.getElem?_cons_succ, List.getElem?_cons_zero]; rfl)
        case hs13b => kernel_rfl
        case hf13b => kernel_rfl
        case hr13b => kernel_rfl
        case hQ13b => exact fun _ _ _ h => h
        case hy13b =>
          refine Or.inl ⟨rfl, ?_⟩
          intro W hSw
          obtain ⟨q1, q2, q3, q4, q5⟩ := hSw
          go_simp
          try with_reducible rfl
        case hS13b => assumption
        try simp only [Act.put, List.setIfInBounds_toArray, List.set_cons_zero, List.set_cons_succ]
        refine wpAnyH_take (i := 14) (oi := ?oi14b) (v := ?v14b) ?hi14b ?hs14b ?hf14b ?hr14b ?hQ14b ?hy14b ?hS14b ?h14b
        case hi14b => exact (by simp only [List.getElem?_toArray, List.getElem?_cons_succ, List.getElem?_cons_zero]; rfl)
        case hs14b => kernel_rfl
        case hf14b => kernel_rfl
        case hr14b => kernel_rfl
        case hQ14b => exact fun _ _ _ h => h
        case hy14b =>
          refine Or.inl ⟨rfl, ?_⟩
          intro W hSw
          obtain ⟨q1, q2, q3, q4, q5⟩ := hSw
          go_simp
          try with_reducible rfl
        case hS14b => assumption
        try simp only [Act.put, List.setIfInBounds_toArray, List.set_cons_zero, List.set_cons_succ]
        refine wpAnyH_take (i := 15) (oi := ?oi15b) (v := ?v15b) ?hi15b ?hs15b ?hf15b ?hr15b ?hQ15b ?hy15b ?hS15b ?h15b
        case hi15b => exact (by simp only [List.getElem?_toArray, List.getElem?_cons_succ, List.getElem?_cons_zero]; rfl)
        case hs15b => kernel_rfl
        case hf15b => kernel_rfl
        case hr15b => kernel_rfl
        case hQ15b => exact fun _ _ _ h => h
        case hy15b =>
          refine Or.inl ⟨rfl, ?_⟩
          intro W hSw
          obtain ⟨q1, q2, q3, q4, q5⟩ := hSw
          go_simp
          try with_reducible rfl
        case hS15b => assumption
        try simp only [Act.put, List.setIfInBounds_toArray, List.set_cons_zero, List.set_cons_succ]
        refine wpAnyH_take (i := 16) (oi := ?oi16b) (v := ?v16b) ?hi16b ?hs16b ?hf16b ?hr16b ?hQ16b ?hy16b ?hS16b ?h16b
        case hi16b => exact (by simp only [List.getElem?_toArray, List.getElem?_cons_succ, List.getElem?_cons_zero]; rfl)
        case hs16b => kernel_rfl
        case hf16b => kernel_rfl
        case hr16b => kernel_rfl
        case hQ16b => exact fun _ _ _ h => h
        case hy16b =>
          refine Or.inl ⟨rfl, ?_⟩
          intro W hSw
          obtain ⟨q1, q2, q3, q4, q5⟩ := hSw
          go_simp
          try with_reducible rfl
        case hS16b => assumption
        try simp only [Act.put, List.setIfInBounds_toArray, List.set_cons_zero, List.set_cons_succ]
        refine wpAnyH_take (i := 17) (oi := ?oi17b) (v := ?v17b) ?hi17b ?hs17b ?hf17b ?hr17b ?hQ17b ?hy17b ?hS17b ?h17b
        case hi17b => exact (by simp only [List.getElem?_toArray, List.getElem?_cons_succ, List.getElem?_cons_zero]; rfl)
        case hs17b => kernel_rfl
        case hf17b => kernel_rfl
        case hr17b => kernel_rfl
        case hQ17b => exact fun _ _ _ h => h
        case hy17b =>
          refine Or.inl ⟨rfl, ?_⟩
          intro W hSw
          obtain ⟨q1, q2, q3, q4, q5⟩ := hSw
          go_simp
          try with_reducible rfl
        case hS17b => assumption
        try simp only [Act.put, List.setIfInBounds_toArray, List.set_cons_zero, List.set_cons_succ]
        refine wpAnyH_take (i := 19) (oi := ?oi19b) (v := ?v19b) ?hi19b ?hs19b ?hf19b ?hr19b ?hQ19b ?hy19b ?hS19b ?h19b
        case hi19b => exact (by simp only [List.getElem?_toArray, List.getElem?_cons_succ, List.getElem?_cons_zero]; rfl)
        case hs19b => kernel_rfl
        case hf19b => kernel_rfl
        case hr19b => kernel_rfl
        case hQ19b => exact fun _ _ _ h => h
        case hy19b =>
          refine Or.inl ⟨rfl, ?_⟩
          intro W hSw
          obtain ⟨q1, q2, q3, q4, q5⟩ := hSw
          go_simp
          try with_reducible rfl
        case hS19b => assumption
        try simp only [Act.put, List.setIfInBounds_toArray, List.set_cons_zero, List.set_cons_succ]
        refine wpAnyH_take (i := 20) (oi := ?oi20b) (v := ?v20b) ?hi20b ?hs20b ?hf20b ?hr20b ?hQ20b ?hy20b ?hS20b ?h20b
        case hi20b => exact (by simp only [List.getElem?_toArray, List.getElem?_cons_succ, List.getElem?_cons_zero]; rfl)
        case hs20b => kernel_rfl
        case hf20b => kernel_rfl
        case hr20b => kernel_rfl
        case hQ20b => exact fun _ _ _ h => h
        case hy20b =>
          refine Or.inl ⟨rfl, ?_⟩
          intro W hSw
          obtain ⟨q1, q2, q3, q4, q5⟩ := hSw
          go_simp
          try with_reducible rfl
        case hS20b => assumption
        try simp only [Act.put, List.setIfInBounds_toArray, List.set_cons_zero, List.set_cons_succ]
        refine wpAnyH_take (i := 21) (oi := ?oi21b) (v := ?v21b) ?hi21b ?hs21b ?hf21b ?hr21b ?hQ21b ?hy21b ?hS21b ?h21b
        case hi21b => exact (by simp only [List.getElem?_toArray, List.getElem?_cons_succ, List.getElem?_cons_zero]; rfl)
        case hs21b => kernel_rfl
        case hf21b => kernel_rfl
        case hr21b => kernel_rfl
        case hQ21b => exact fun _ _ _ h => h
        case hy21b =>
          refine Or.inl ⟨rfl, ?_⟩
          intro W hSw
          obtain ⟨q1, q2, q3, q4, q5⟩ := hSw
          go_simp
          try with_reducible rfl
        case hS21b => assumption
        try simp only [Act.put, List.setIfInBounds_toArray, List.set_cons_zero, List.set_cons_succ]
        refine wpAnyH_take (i := 22) (oi := ?oi22b) (v := ?v22b) ?hi22b ?hs22b ?hf22b ?hr22b ?hQ22b ?hy22b ?hS22b ?h22b
        case hi22b => exact (by simp only [List.getElem?_toArray, List.getElem?_cons_succ, List.getElem?_cons_zero]; rfl)
        case hs22b => kernel_rfl
        case hf22b => kernel_rfl
        case hr22b => kernel_rfl
        case hQ22b => exact fun _ _ _ h => h
        case hy22b =>
          refine Or.inl ⟨rfl, ?_⟩
          intro W hSw
          obtain ⟨q1, q2, q3, q4, q5⟩ := hSw
          go_simp
          try with_reducible rfl
        case hS22b => assumption
        try simp only [Act.put, List.setIfInBounds_toArray, List.set_cons_zero, List.set_cons_succ]
        refine wpAnyH_take (i := 23) (oi := ?oi23b) (v := ?v23b) ?hi23b ?hs23b ?hf23b ?hr23b ?hQ23b ?hy23b ?hS23b ?h23b
        case hi23b => exact (by simp only [List.getElem?_toArray, List.getElem?_cons_succ, List.getElem?_cons_zero]; rfl)
        case hs23b => kernel_rfl
        case hf23b => kernel_rfl
        case hr23b => kernel_rfl
        case hQ23b => exact fun _ _ _ h => h
        case hy23b =>
          refine Or.inl ⟨rfl, ?_⟩
          intro W hSw
          obtain ⟨q1, q2, q3, q4, q5⟩ := hSw
          go_simp
          try with_reducible rfl
        case hS23b => assumption
        try simp only [Act.put, List.setIfInBounds_toArray, List.set_cons_zero, List.set_cons_succ]
        refine wpAnyH_ready (rs := [18]) (by kernel_rfl) (by simp) ?_
        refine AllReadyH.cons (o := _) rfl (fun K hK => ?_) AllReadyH.nil
        go_simp
        refine (HTL.out.c18 Wb3 HBb3.out).mono ?_
        rintro r Wb4 ⟨rfl, hbq⟩
        have HBb4 := Lib.hid (HBb3.out.trans (hbq.mono HBb3.out.size))
        clear hbq
        refine hK.out _ _ (HCE.out _ HBb4.out) (fun hHeld => ?_)
        clear hK K
        try simp only [Act.put, List.setIfInBounds_toArray, List.set_cons_zero, List.set_cons_succ]
        refine wpAnyH_take (i := 24) (oi := ?oi24b) (v := (.bool false)) ?hi24b ?hs24b ?hf24b ?hr24b ?hQ24b ?hy24b ?hS24b ?h24b
        case hi24b => exact (by simp only [List.getElem?_toArray, List.getElem?_cons_succ, List.getElem?_cons_zero]; rfl)
        case hs24b => kernel_rfl
        case hf24b => kernel_rfl
        case hr24b => kernel_rfl
        case hQ24b => exact fun _ _ _ h => h
        case hy24b =>
          refine Or.inl ⟨rfl, ?_⟩
          intro W hSw
          obtain ⟨q1, q2, q3, q4, q5⟩ := hSw
          go_simp
          all_goals first | with_reducible rfl | (simp; done) | (simp; omega) | omega
        case hS24b => assumption
        try simp only [Act.put, List.setIfInBounds_toArray, List.set_cons_zero, List.set_cons_succ]
        refine wpAnyH_take (i := 25) (oi := ?oi25b) (v := (.bool false)) ?hi25b ?hs25b ?hf25b ?hr25b ?hQ25b ?hy25b ?hS25b ?h25b
        case hi25b => exact (by simp only [List.getElem?_toArray, List.getElem?_cons_succ, List.getElem?_cons_zero]; rfl)
        case hs25b => kernel_rfl
        case hf25b => kernel_rfl
        case hr25b => kernel_rfl
        case hQ25b => exact fun _ _ _ h => h
        case hy25b =>
          refine Or.inl ⟨rfl, ?_⟩
          intro W hSw
          obtain ⟨q1, q2, q3, q4, q5⟩ := hSw
          go_simp
          try with_reducible rfl
        case hS25b => assumption
        try simp only [Act.put, List.setIfInBounds_toArray, List.set_cons_zero, List.set_cons_succ]
        refine wpAnyH_take (i := 26) (oi := ?oi26b) (v := ?v26b) ?hi26b ?hs26b ?hf26b ?hr26b ?hQ26b ?hy26b ?hS26b ?h26b
        case hi26b => exact (by simp only [List.getElem?_toArray, List.getElem?_cons_succ, List.getElem?_cons_zero]; rfl)
        case hs26b => kernel_rfl
        case hf26b => kernel_rfl
        case hr26b => kernel_rfl
        case hQ26b => exact fun _ _ _ h => h
        case hy26b =>
          refine Or.inl ⟨rfl, ?_⟩
          intro W hSw
          obtain ⟨q1, q2, q3, q4, q5⟩ := hSw
          go_simp
          try with_reducible rfl
        case hS26b => assumption
        try simp only [Act.put, List.setIfInBounds_toArray, List.set_cons_zero, List.set_cons_succ]
        refine wpAnyH_take (i := 27) (oi := ?oi27b) (v := ?v27b) ?hi27b ?hs27b ?hf27b ?hr27b ?hQ27b ?hy27b ?hS27b ?h27b
        case hi27b => exact (by simp only [List.getElem?_toArray, List.getElem?_cons_succ, List.getElem?_cons_zero]; rfl)
        case hs27b => kernel_rfl
        case hf27b => kernel_rfl
        case hr27b => kernel_rfl
        case hQ27b => exact fun _ _ _ h => h
        case hy27b =>
          refine Or.inl ⟨rfl, ?_⟩
          intro W hSw
          obtain ⟨q1, q2, q3, q4, q5⟩ := hSw
          go_simp
          try with_reducible rfl
        case hS27b => assumption
        try simp only [Act.put, List.setIfInBounds_toArray, List.set_cons_zero, List.set_cons_succ]
        refine wpAnyH_take (i := 29) (oi := ?oi29b) (v := ?v29b) ?hi29b ?hs29b ?hf29b ?hr29b ?hQ29b ?hy29b ?hS29b ?h29b
        case hi29b => exact (by simp only [List.getElem?_toArray, List.getElem?_cons_succ, List.getElem?_cons_zero]; rfl)
        case hs29b => kernel_rfl
        case hf29b => kernel_rfl
        case hr29b => kernel_rfl
        case hQ29b => exact fun _ _ _ h => h
        case hy29b =>
          refine Or.inl ⟨rfl, ?_⟩
          intro W hSw
          obtain ⟨q1, q2, q3, q4, q5⟩ := hSw
          go_simp
          try with_reducible rfl
        case hS29b => assumption
        try simp only [Act.put, List.setIfInBounds_toArray, List.set_cons_zero, List.set_cons_succ]
        refine wpAnyH_ready (rs := [28]) (by kernel_rfl) (by simp) ?_
        refine AllReadyH.cons (o := _) rfl (fun K hK => ?_) AllReadyH.nil
        go_simp
        refine (HTL.out.c28 Wb4 HBb4.out).mono ?_
        rintro r Wb5 ⟨v1, rfl, hv1, hbq⟩
        have HBb5 := Lib.hid (HBb4.out.trans (hbq.mono HBb4.out.size))
        have HV1 := Lib.hid hv1
        clear hv1
        clear hbq
        refine hK.out _ _ (HCE.out _ HBb5.out) (fun hHeld => ?_)
        clear hK K
        try simp only [Act.put, List.setIfInBounds_toArray, List.set_cons_zero, List.set_cons_succ]
        refine wpAnyH_ready (rs := [30]) (by kernel_rfl) (by simp) ?_
        refine AllReadyH.cons (o := _) rfl (fun K hK => ?_) AllReadyH.nil
        go_simp
        refine (HTL.out.c30 Wb5 HBb5.out).mono ?_
        rintro r Wb6 ⟨v2, rfl, hv2, hbq⟩
        have HBb6 := Lib.hid (HBb5.out.trans (hbq.mono HBb5.out.size))
        have HV2 := Lib.hid hv2
        have HV1 := Lib.hid (HV1.out.after hbq)
        clear hv2
        clear hbq
        refine hK.out _ _ (HCE.out _ HBb6.out) (fun hHeld => ?_)
        clear hK K
        try simp only [Act.put, List.setIfInBounds_toArray, List.set_cons_zero, List.set_cons_succ]
        refine wpAnyH_ready (rs := [31]) (by kernel_rfl) (by simp) ?_
        refine AllReadyH.cons (o := _) rfl (fun K hK => ?_) AllReadyH.nil
        go_simp
        refine (HTL.out.c31 Wb6 v1 v2 HV1.out HV2.out).mono ?_
        rintro r Wb7 ⟨rfl, hbq⟩
        have HBb7 := Lib.hid (HBb6.out.trans (hbq.mono HBb6.out.size))
        clear hbq
        refine hK.out _ _ (HCE.out _ HBb7.out) (fun hHeld => ?_)
        clear hK K
        try simp only [Act.put, List.setIfInBounds_toArray, List.set_cons_zero, List.set_cons_succ]
        refine wpAnyH_take (i := 32) (oi := ?oi32b) (v := (.bool false)) ?hi32b ?hs32b ?hf32b ?hr32b ?hQ32b ?hy32b ?hS32b ?h32b
        case hi32b => exact (by simp only [List.getElem?_toArray, List.getElem?_cons_succ, List.getElem?_cons_zero]; rfl)
        case hs32b => kernel_rfl
        case hf32b => kernel_rfl
        case hr32b => kernel_rfl
        case hQ32b => exact fun _ _ _ h => h
        case hy32b =>
          refine Or.inl ⟨rfl, ?_⟩
          intro W hSw
          obtain ⟨q1, q2, q3, q4, q5⟩ := hSw
          go_simp
          try with_reducible rfl
        case hS32b => assumption
        try simp only [Act.put, List.setIfInBounds_toArray, List.set_cons_zero, List.set_cons_succ]
        refine wpAnyH_take (i := 33) (oi := ?oi33b) (v := (.bool false)) ?hi33b ?hs33b ?hf33b ?hr33b ?hQ33b ?hy33b ?hS33b ?h33b
        case hi33b => exact (by simp only [List.getElem?_toArray, List.getElem?_cons_succ, List.getElem?_cons_zero]; rfl)
        case hs33b => kernel_rfl
        case hf33b => kernel_rfl
        case hr33b => kernel_rfl
        case hQ33b => exact fun _ _ _ h => h
        case hy33b =>
          refine Or.inl ⟨rfl, ?_⟩
          intro W hSw
          obtain ⟨q1, q2, q3, q4, q5⟩ := hSw
          go_simp
          try with_reducible rfl
        case hS33b => assumption
        try simp only [Act.put, List.setIfInBounds_toArray, List.set_cons_zero, List.set_cons_succ]
        refine wpAnyH_done (by kernel_rfl) ?_ _
        have HSZ := Lib.hid ((HSM.out.after HBb7.out).noact)
        go_wp2_with fail
        go_roundw
        case rel => exact ⟨k + 1, l', A', n', c', by omega, rfl, by go_num, HSZ⟩
        case measure => simp [intOf] <;> omega
      · go_upto_region 11 with (fail)
        rw [← H2.out, ← HG0.out]
        clear d0 d1 d2
        have a0 := cell_of_row w2 G 0 _ _ _ (HS2.out.ac _ _ _ _ rfl)
        have a1 := cell_of_row w2 G 1 _ _ _ (HS2.out.ac _ _ _ _ rfl)
        have a2 := cell_of_row w2 G 2 _ _ _ (HS2.out.ac _ _ _ _ rfl)
        simp at a0 a1 a2
        go_upto_region 23 with (fail)
        clear a0 a1 a2
        have a0 := cell_of_row w2 G 0 _ _ _ (HS2.out.ac _ _ _ _ rfl)
        have a1 := cell_of_row w2 G 1 _ _ _ (HS2.out.ac _ _ _ _ rfl)
        have a2 := cell_of_row w2 G 2 _ _ _ (HS2.out.ac _ _ _ _ rfl)
        simp at a0 a1 a2
        have HFN := Lib.hid (D.find_any A n c x l w2 HS2.out.ln (D.Rs.of_own HS2.out.ow) (by have := HS2.out.ln; have := HS2.out.lq; have := HS2.out.m20; omega))
        go_wp2_with fail
        refine HFN.out.mono ?_
        rintro r w8 ⟨⟨ma, mb, md, mt, rfl, hfd⟩, hb8⟩
        obtain ⟨wm, hwm⟩ : ∃ wm, wm = w8.alloc (.cells (mC ma mb md) 23) := ⟨_, rfl⟩
        obtain ⟨Fm, hFm⟩ : ∃ Fm, Fm = w8.heap.size := ⟨_, rfl⟩
        have hb9 : Below w8.heap.size w8 wm := by rw [hwm]; exact (Below.refl _ _).alloc (Nat.le_refl _) _
        have HSM := Lib.hid ((HS2.out.after hb8).after hb9)
        have hqm : wm.heap[Fm]? = some (.cells (mC ma mb md) 23 (0, 0)) := by rw [hwm, hFm]; exact heap_alloc_new w8 _
        have HTL := Lib.hid (st_tail HSM.out hfd z HZI.out)
        obtain ⟨L, hL⟩ : ∃ L, L = atL ma mb z := ⟨_, rfl⟩
        obtain ⟨S, hS⟩ : ∃ S, S = atS ma mb z := ⟨_, rfl⟩
        obtain ⟨U, hU⟩ : ∃ U, U = atU ma mb md z := ⟨_, rfl⟩
        rw [← hL, ← hS, ← hU] at HTL
        have HCE : Hid (∀ W, Below wm.heap.size wm W → W.cell? ⟨G, 1, none⟩ = some (.int .u32 (x : Int)) ∧ W.cell? ⟨G, 2, none⟩ = some (.int .i64 z) ∧ W.cell? ⟨Fm, 0, none⟩ = some (.int .i64 ma) ∧ W.cell? ⟨Fm, 1, none⟩ = some (.int .i64 mb) ∧ W.cell? ⟨Fm, 2, none⟩ = some (.int .i64 md)) := fun W hW => by
          have e1 := (hW.block _ (lt_of_block (HSM.out.ac _ _ _ _ rfl))).trans (HSM.out.ac _ _ _ _ rfl)
          have e2 := (hW.block _ (lt_of_block hqm)).trans hqm
          exact ⟨cell_of_row W _ 1 _ _ _ e1, cell_of_row W _ 2 _ _ _ e1, cell_of_row W _ 0 _ _ _ e2, cell_of_row W _ 1 _ _ _ e2, cell_of_row W _ 2 _ _ _ e2⟩
        have HBS : Hid (Below wm.heap.size wm wm) := Below.refl _ _
        have HWM := Lib.hid hwm
        have HFM := Lib.hid hFm
        clear hb8 hb9 hfd hL hS hU hqm hwm hFm
        clear a0 a1 a2
        go_upto_region 24 with (fail)
        rw [← HWM.out, ← HFM.out]
        have HDc : Hid (Below wm.heap.size wm wm.drew) := HBS.out.drew
        refine wp_region_held_drew (S := fun W : World => W.cell? ⟨G, 1, none⟩ = some (.int .u32 (x : Int)) ∧ W.cell? ⟨G, 2, none⟩ = some (.int .i64 z) ∧ W.cell? ⟨Fm, 0, none⟩ = some (.int .i64 ma) ∧ W.cell? ⟨Fm, 1, none⟩ = some (.int .i64 mb) ∧ W.cell? ⟨Fm, 2, none⟩ = some (.int .i64 md)) (by kernel_rfl) (HCE.out _ HDc.out) (fun hHeld => ?_)
        obtain ⟨Wc0, hW0⟩ : ∃ W0, W0 = wm.drew := ⟨_, rfl⟩
        rw [← hW0] at hHeld HDc ⊢
        clear hW0
        refine wpAnyH_take (i := 0) (oi := ?oi0c) (v := ?v0c) ?hi0c ?hs0c ?hf0c ?hr0c ?hQ0c ?hy0c ?hS0c ?h0c
        case hi0c => exact (by simp only [List.getElem?_toArray, List.getElem?_cons_zero]; rfl)
        case hs0c => kernel_rfl
        case hf0c => kernel_rfl
        case hr0c => kernel_rfl
        case hQ0c => exact fun _ _ _ h => h
        case hy0c =>
          refine Or.inl ⟨rfl, ?_⟩
          intro W hSw
          obtain ⟨q1, q2, q3, q4, q5⟩ := hSw
          go_simp
          try with_reducible rfl
        case hS0c => assumption
        try simp only [Act.put, List.setIfInBounds_toArray, List.set_cons_zero, List.set_cons_succ]
        refine wpAnyH_take (i := 1) (oi := ?oi1c) (v := ?v1c) ?hi1c ?hs1c ?hf1c ?hr1c ?hQ1c ?hy1c ?hS1c ?h1c
        case hi1c => exact (by simp only [List.getElem?_toArray, List.getElem?_cons_succ, List.getElem?_cons_zero]; rfl)
        case hs1c => kernel_rfl
        case hf1c => kernel_rfl
        case hr1c => kernel_rfl
        case hQ1c => exact fun _ _ _ h => h
        case hy1c =>
          refine Or.inl ⟨rfl, ?_⟩
          intro W hSw
          obtain ⟨q1, q2, q3, q4, q5⟩ := hSw
          go_simp
          try with_reducible rfl
        case hS1c => assumption
        try simp only [Act.put, List.setIfInBounds_toArray, List.set_cons_zero, List.set_cons_succ]
        refine wpAnyH_take (i := 2) (oi := ?oi2c) (v := ?v2c) ?hi2c ?hs2c ?hf2c ?hr2c ?hQ2c ?hy2c ?hS2c ?h2c
        case hi2c => exact (by simp only [List.getElem?_toArray, List.getElem?_cons_succ, List.getElem?_cons_zero]; rfl)
        case hs2c => kernel_rfl
        case hf2c => kernel_rfl
        case hr2c => kernel_rfl
        case hQ2c => exact fun _ _ _ h => h
        case hy2c =>
          refine Or.inl ⟨rfl, ?_⟩
          intro W hSw
          obtain ⟨q1, q2, q3, q4, q5⟩ := hSw
          go_simp
          try with_reducible rfl
        case hS2c => assumption
        try simp only [Act.put, List.setIfInBounds_toArray, List.set_cons_zero, List.set_cons_succ]
        refine wpAnyH_take (i := 3) (oi := ?oi3c) (v := ?v3c) ?hi3c ?hs3c ?hf3c ?hr3c ?hQ3c ?hy3c ?hS3c ?h3c
        case hi3c => exact (by simp only [List.getElem?_toArray, List.getElem?_cons_succ, List.getElem?_cons_zero]; rfl)
        case hs3c => kernel_rfl
        case hf3c => kernel_rfl
        case hr3c => kernel_rfl
        case hQ3c => exact fun _ _ _ h => h
        case hy3c =>
          refine Or.inl ⟨rfl, ?_⟩
          intro W hSw
          obtain ⟨q1, q2, q3, q4, q5⟩ := hSw
          go_simp
          try with_reducible rfl
        case hS3c => assumption
        try simp only [Act.put, List.setIfInBounds_toArray, List.set_cons_zero, List.set_cons_succ]
        refine wpAnyH_take (i := 4) (oi := ?oi4c) (v := ?v4c) ?hi4c ?hs4c ?hf4c ?hr4c ?hQ4c ?hy4c ?hS4c ?h4c
        case hi4c => exact (by simp only [List.getElem?_toArray, List.getElem?_cons_succ, List.getElem?_cons_zero]; rfl)
        case hs4c => kernel_rfl
        case hf4c => kernel_rfl
        case hr4c => kernel_rfl
        case hQ4c => exact fun _ _ _ h => h
        case hy4c =>
          refine Or.inl ⟨rfl, ?_⟩
          intro W hSw
          obtain ⟨q1, q2, q3, q4, q5⟩ := hSw
          go_simp
          try with_reducible rfl
        case hS4c => assumption
        try simp only [Act.put, List.setIfInBounds_toArray, List.set_cons_zero, List.set_cons_succ]
        refine wpAnyH_take (i := 6) (oi := ?oi6c) (v := ?v6c) ?hi6c ?hs6c ?hf6c ?hr6c ?hQ6c ?hy6c ?hS6c ?h6c
        case hi6c => exact (by simp only [List.getElem?_toArray, List.getElem?_cons_succ, List.getElem?_cons_zero]; rfl)
        case hs6c => kernel_rfl
        case hf6c => kernel_rfl
        case hr6c => kernel_rfl
        case hQ6c => exact fun _ _ _ h => h
        case hy6c =>
          refine Or.inl ⟨rfl, ?_⟩
          intro W hSw
          obtain ⟨q1, q2, q3, q4, q5⟩ := hSw
          go_simp
          try with_reducible rfl
        case hS6c => assumption
        try simp only [Act.put, List.setIfInBounds_toArray, List.set_cons_zero, List.set_cons_succ]
        refine wpAnyH_take (i := 7) (oi := ?oi7c) (v := ?v7c) ?hi7c ?hs7c ?hf7c ?hr7c ?hQ7c ?hy7c ?hS7c ?h7c
        case hi7c => exact (by simp only [List.getElem?_toArray, List.getElem?_cons_succ, List.getElem?_cons_zero]; rfl)
        case hs7c => kernel_rfl
        case hf7c => kernel_rfl
        case hr7c => kernel_rfl
        case hQ7c => exact fun _ _ _ h => h
        case hy7c =>
          refine Or.inl ⟨rfl, ?_⟩
          intro W hSw
          obtain ⟨q1, q2, q3, q4, q5⟩ := hSw
          go_simp
          try with_reducible rfl
        case hS7c => assumption
        try simp only [Act.put, List.setIfInBounds_toArray, List.set_cons_zero, List.set_cons_succ]
        refine wpAnyH_take (i := 8) (oi := ?oi8c) (v := ?v8c) ?hi8c ?hs8c ?hf8c ?hr8c ?hQ8c ?hy8c ?hS8c ?h8c
        case hi8c => exact (by simp only [List.getElem?_toArray, List.getElem?_cons_succ, List.getElem?_cons_zero]; rfl)
        case hs8c => kernel_rfl
        case hf8c => kernel_rfl
        case hr8c => kernel_rfl
        case hQ8c => exact fun _ _ _ h => h
        case hy8c =>
          refine Or.inl ⟨rfl, ?_⟩
          intro W hSw
          obtain ⟨q1, q2, q3, q4, q5⟩ := hSw
          go_simp
          try with_reducible rfl
        case hS8c => assumption
        try simp only [Act.put, List.setIfInBounds_toArray, List.set_cons_zero, List.set_cons_succ]
        refine wpAnyH_ready (rs := [5]) (by kernel_rfl) (by simp) ?_
        refine AllReadyH.cons (o := _) rfl (fun K hK => ?_) AllReadyH.nil
        go_simp
        refine (HTL.out.c5 Wc0 HDc.out).mono ?_
        rintro r Wc1 ⟨rfl, hbq⟩
        have HBc1 := Lib.hid (HDc.out.trans (hbq.mono HDc.out.size))
        clear hbq
        refine hK.out _ _ (HCE.out _ HBc1.out) (fun hHeld => ?_)
        clear hK K
        try simp only [Act.put, List.setIfInBounds_toArray, List.set_cons_zero, List.set_cons_succ]
        refine wpAnyH_ready (rs := [9]) (by kernel_rfl) (by simp) ?_
        refine AllReadyH.cons (o := _) rfl (fun K hK => ?_) AllReadyH.nil
        go_simp
        refine (HTL.out.c9 Wc1).mono ?_
        rintro r Wc2 ⟨rfl, hbq⟩
        have HBc2 := Lib.hid (HBc1.out.trans (hbq.mono HBc1.out.size))
        clear hbq
        refine hK.out _ _ (HCE.out _ HBc2.out) (fun hHeld => ?_)
        clear hK K
        try simp only [Act.put, List.setIfInBounds_toArray, List.set_cons_zero, List.set_cons_succ]
        refine wpAnyH_ready (rs := [10]) (by kernel_rfl) (by simp) ?_
        refine AllReadyH.cons (o := _) rfl (fun K hK => ?_) AllReadyH.nil
        go_simp
        refine (own_any L S U Wc2).mono ?_
        rintro r Wc3 ⟨rfl, hbq⟩
        have HBc3 := Lib.hid (HBc2.out.trans (hbq.mono HBc2.out.size))
        clear hbq
        refine hK.out _ _ (HCE.out _ HBc3.out) (fun hHeld => ?_)
        clear hK K
        try simp only [Act.put, List.setIfInBounds_toArray, List.set_cons_zero, List.set_cons_succ]
        refine wpAnyH_take (i := 11) (oi := ?oi11c) (v := (.bool false)) ?hi11c ?hs11c ?hf11c ?hr11c ?hQ11c ?hy11c ?hS11c ?h11c
        case hi11c => exact (by simp only [List.getElem?_toArray, List.getElem?_cons_succ, List.getElem?_cons_zero]; rfl)
        case hs11c => kernel_rfl
        case hf11c => kernel_rfl
        case hr11c => kernel_rfl
        case hQ11c => exact fun _ _ _ h => h
        case hy11c =>
          refine Or.inl ⟨rfl, ?_⟩
          intro W hSw
          obtain ⟨q1, q2, q3, q4, q5⟩ := hSw
          go_simp
          all_goals first | with_reducible rfl | (simp; done) | (simp; omega) | omega
        case hS11c => assumption
        try simp only [Act.put, List.setIfInBounds_toArray, List.set_cons_zero, List.set_cons_succ]
        refine wpAnyH_take (i := 12) (oi := ?oi12c) (v := (.bool false)) ?hi12c ?hs12c ?hf12c ?hr12c ?hQ12c ?hy12c ?hS12c ?h12c
        case hi12c => exact (by simp only [List.getElem?_toArray, List.getElem?_cons_succ, List.getElem?_cons_zero]; rfl)
        case hs12c => kernel_rfl
        case hf12c => kernel_rfl
        case hr12c => kernel_rfl
        case hQ12c => exact fun _ _ _ h => h
        case hy12c =>
          refine Or.inl ⟨rfl, ?_⟩
          intro W hSw
          obtain ⟨q1, q2, q3, q4, q5⟩ := hSw
          go_simp
          try with_reducible rfl
        case hS12c => assumption
        try simp only [Act.put, List.setIfInBounds_toArray, List.set_cons_zero, List.set_cons_succ]
        refine wpAnyH_take (i := 13) (oi := ?oi13c) (v := ?v13c) ?hi13c ?hs13c ?hf13c ?hr13c ?hQ13c ?hy13c ?hS13c ?h13c
        case hi13c => exact (by simp only [List.getElem?_toArray, List.getElem?_cons_succ, List.getElem?_cons_zero]; rfl)
        case hs13c => kernel_rfl
        case hf13c => kernel_rfl
        case hr13c => kernel_rfl
        case hQ13c => exact fun _ _ _ h => h
        case hy13c =>
          refine Or.inl ⟨rfl, ?_⟩
          intro W hSw
          obtain ⟨q1, q2, q3, q4, q5⟩ := hSw
          go_simp
          try with_reducible rfl
        case hS13c => assumption
        try simp only [Act.put, List.setIfInBounds_toArray, List.set_cons_zero, List.set_cons_succ]
        refine wpAnyH_take (i := 14) (oi := ?oi14c) (v := ?v14c) ?hi14c ?hs14c ?hf14c ?hr14c ?hQ14c ?hy14c ?hS14c ?h14c
        case hi14c => exact (by simp only [List.getElem?_toArray, List.getElem?_cons_succ, List.getElem?_cons_zero]; rfl)
        case hs14c => kernel_rfl
        case hf14c => kernel_rfl
        case hr14c => kernel_rfl
        case hQ14c => exact fun _ _ _ h => h
        case hy14c =>
          refine Or.inl ⟨rfl, ?_⟩
          intro W hSw
          obtain ⟨q1, q2, q3, q4, q5⟩ := hSw
          go_simp
          try with_reducible rfl
        case hS14c => assumption
        try simp only [Act.put, List.setIfInBounds_toArray, List.set_cons_zero, List.set_cons_succ]
        refine wpAnyH_take (i := 15) (oi := ?oi15c) (v := ?v15c) ?hi15c ?hs15c ?hf15c ?hr15c ?hQ15c ?hy15c ?hS15c ?h15c
        case hi15c => exact (by simp only [List.getElem?_toArray, List.getElem?_cons_succ, List.getElem?_cons_zero]; rfl)
        case hs15c => kernel_rfl
        case hf15c => kernel_rfl
        case hr15c => kernel_rfl
        case hQ15c => exact fun _ _ _ h => h
        case hy15c =>
          refine Or.inl ⟨rfl, ?_⟩
          intro W hSw
          obtain ⟨q1, q2, q3, q4, q5⟩ := hSw
          go_simp
          try with_reducible rfl
        case hS15c => assumption
        try simp only [Act.put, List.setIfInBounds_toArray, List.set_cons_zero, List.set_cons_succ]
        refine wpAnyH_take (i := 16) (oi := ?oi16c) (v := ?v16c) ?hi16c ?hs16c ?hf16c ?hr16c ?hQ16c ?hy16c ?hS16c ?h16c
        case hi16c => exact (by simp only [List.getElem?_toArray, List.getElem?_cons_succ, List.getElem?_cons_zero]; rfl)
        case hs16c => kernel_rfl
        case hf16c => kernel_rfl
        case hr16c => kernel_rfl
        case hQ16c => exact fun _ _ _ h => h
        case hy16c =>
          refine Or.inl ⟨rfl, ?_⟩
          intro W hSw
          obtain ⟨q1, q2, q3, q4, q5⟩ := hSw
          go_simp
          try with_reducible rfl
        case hS16c => assumption
        try simp only [Act.put, List.setIfInBounds_toArray, List.set_cons_zero, List.set_cons_succ]
        refine wpAnyH_take (i := 17) (oi := ?oi17c) (v := ?v17c) ?hi17c ?hs17c ?hf17c ?hr17c ?hQ17c ?hy17c ?hS17c ?h17c
        case hi17c => exact (by simp only [List.getElem?_toArray, List.getElem?_cons_succ, List.getElem?_cons_zero]; rfl)
        case hs17c => kernel_rfl
        case hf17c => kernel_rfl
        case hr17c => kernel_rfl
        case hQ17c => exact fun _ _ _ h => h
        case hy17c =>
          refine Or.inl ⟨rfl, ?_⟩
          intro W hSw
          obtain ⟨q1, q2, q3, q4, q5⟩ := hSw
          go_simp
          try with_reducible rfl
        case hS17c => assumption
        try simp only [Act.put, List.setIfInBounds_toArray, List.set_cons_zero, List.set_cons_succ]
        refine wpAnyH_take (i := 19) (oi := ?oi19c) (v := ?v19c) ?hi19c ?hs19c ?hf19c ?hr19c ?hQ19c ?hy19c ?hS19c ?h19c
        case hi19c => exact (by simp only [List.getElem?_toArray, List.getElem?_cons_succ, List.getElem?_cons_zero]; rfl)
        case hs19c => kernel_rfl
        case hf19c => kernel_rfl
        case hr19c => kernel_rfl
        case hQ19c => exact fun _ _ _ h => h
        case hy19c =>
          refine Or.inl ⟨rfl, ?_⟩
          intro W hSw
          obtain ⟨q1, q2, q3, q4, q5⟩ := hSw
          go_simp
          try with_reducible rfl
        case hS19c => assumption
        try simp only [Act.put, List.setIfInBounds_toArray, List.set_cons_zero, List.set_cons_succ]
        refine wpAnyH_take (i := 20) (oi := ?oi20c) (v := ?v20c) ?hi20c ?hs20c ?hf20c ?hr20c ?hQ20c ?hy20c ?hS20c ?h20c
        case hi20c => exact (by simp only [List.getElem?_toArray, List.getElem?_cons_succ, List.getElem?_cons_zero]; rfl)
        case hs20c => kernel_rfl
        case hf20c => kernel_rfl
        case hr20c => kernel_rfl
        case hQ20c => exact fun _ _ _ h => h
        case hy20c =>
          refine Or.inl ⟨rfl, ?_⟩
          intro W hSw
          obtain ⟨q1, q2, q3, q4, q5⟩ := hSw
          go_simp
          try with_reducible rfl
        case hS20c => assumption
        try simp only [Act.put, List.setIfInBounds_toArray, List.set_cons_zero, List.set_cons_succ]
        refine wpAnyH_take (i := 21) (oi := ?oi21c) (v := ?v21c) ?hi21c ?hs21c ?hf21c ?hr21c ?hQ21c ?hy21c ?hS21c ?h21c
        case hi21c => exact (by simp only [List.getElem?_toArray, List.getElem?_cons_succ, List.getElem?_cons_zero]; rfl)
        case hs21c => kernel_rfl
        case hf21c => kernel_rfl
        case hr21c => kernel_rfl
        case hQ21c => exact fun _ _ _ h => h
        case hy21c =>
          refine Or.inl ⟨rfl, ?_⟩
          intro W hSw
          obtain ⟨q1, q2, q3, q4, q5⟩ := hSw
          go_simp
          try with_reducible rfl
        case hS21c => assumption
        try simp only [Act.put, List.setIfInBounds_toArray, List.set_cons_zero, List.set_cons_succ]
        refine wpAnyH_take (i := 22) (oi := ?oi22c) (v := ?v22c) ?hi22c ?hs22c ?hf22c ?hr22c ?hQ22c ?hy22c ?hS22c ?h22c
        case hi22c => exact (by simp only [List.getElem?_toArray, List.getElem?_cons_succ, List.getElem?_cons_zero]; rfl)
        case hs22c => kernel_rfl
        case hf22c => kernel_rfl
        case hr22c => kernel_rfl
        case hQ22c => exact fun _ _ _ h => h
        case hy22c =>
          refine Or.inl ⟨rfl, ?_⟩
          intro W hSw
          obtain ⟨q1, q2, q3, q4, q5⟩ := hSw
          go_simp
          try with_reducible rfl
        case hS22c => assumption
        try simp only [Act.put, List.setIfInBounds_toArray, List.set_cons_zero, List.set_cons_succ]
        refine wpAnyH_take (i := 23) (oi := ?oi23c) (v := ?v23c) ?hi23c ?hs23c ?hf23c ?hr23c ?hQ23c ?hy23c ?hS23c ?h23c
        case hi23c => exact (by simp only [List.getElem?_toArray, List.getElem?_cons_succ, List.getElem?_cons_zero]; rfl)
        case hs23c => kernel_rfl
        case hf23c => kernel_rfl
        case hr23c => kernel_rfl
        case hQ23c => exact fun _ _ _ h => h
        case hy23c =>
          refine Or.inl ⟨rfl, ?_⟩
          intro W hSw
          obtain ⟨q1, q2, q3, q4, q5⟩ := hSw
          go_simp
          try with_reducible rfl
        case hS23c => assumption
        try simp only [Act.put, List.setIfInBounds_toArray, List.set_cons_zero, List.set_cons_succ]
        refine wpAnyH_ready (rs := [18]) (by kernel_rfl) (by simp) ?_
        refine AllReadyH.cons (o := _) rfl (fun K hK => ?_) AllReadyH.nil
        go_simp
        refine (HTL.out.c18 Wc3 HBc3.out).mono ?_
        rintro r Wc4 ⟨rfl, hbq⟩
        have HBc4 := Lib.hid (HBc3.out.trans (hbq.mono HBc3.out.size))
        clear hbq
        refine hK.out _ _ (HCE.out _ HBc4.out) (fun hHeld => ?_)
        clear hK K
        try simp only [Act.put, List.setIfInBounds_toArray, List.set_cons_zero, List.set_cons_succ]
        refine wpAnyH_take (i := 24) (oi := ?oi24c) (v := (.bool false)) ?hi24c ?hs24c ?hf24c ?hr24c ?hQ24c ?hy24c ?hS24c ?h24c
        case hi24c => exact (by simp only [List.getElem?_toArray, List.getElem?_cons_succ, List.getElem?_cons_zero]; rfl)
        case hs24c => kernel_rfl
        case hf24c => kernel_rfl
        case hr24c => kernel_rfl
        case hQ24c => exact fun _ _ _ h => h
        case hy24c =>
          refine Or.inl ⟨rfl, ?_⟩
          intro W hSw
          obtain ⟨q1, q2, q3, q4, q5⟩ := hSw
          go_simp
          all_goals first | with_reducible rfl | (simp; done) | (simp; omega) | omega
        case hS24c => assumption
        try simp only [Act.put, List.setIfInBounds_toArray, List.set_cons_zero, List.set_cons_succ]
        refine wpAnyH_take (i := 25) (oi := ?oi25c) (v := (.bool false)) ?hi25c ?hs25c ?hf25c ?hr25c ?hQ25c ?hy25c ?hS25c ?h25c
        case hi25c => exact (by simp only [List.getElem?_toArray, List.getElem?_cons_succ, List.getElem?_cons_zero]; rfl)
        case hs25c => kernel_rfl
        case hf25c => kernel_rfl
        case hr25c => kernel_rfl
        case hQ25c => exact fun _ _ _ h => h
        case hy25c =>
          refine Or.inl ⟨rfl, ?_⟩
          intro W hSw
          obtain ⟨q1, q2, q3, q4, q5⟩ := hSw
          go_simp
          try with_reducible rfl
        case hS25c => assumption
        try simp only [Act.put, List.setIfInBounds_toArray, List.set_cons_zero, List.set_cons_succ]
        refine wpAnyH_take (i := 26) (oi := ?oi26c) (v := ?v26c) ?hi26c ?hs26c ?hf26c ?hr26c ?hQ26c ?hy26c ?hS26c ?h26c
        case hi26c => exact (by simp only [List.getElem?_toArray, List.getElem?_cons_succ, List.getElem?_cons_zero]; rfl)
        case hs26c => kernel_rfl
        case hf26c => kernel_rfl
        case hr26c => kernel_rfl
        case hQ26c => exact fun _ _ _ h => h
        case hy26c =>
          refine Or.inl ⟨rfl, ?_⟩
          intro W hSw
          obtain ⟨q1, q2, q3, q4, q5⟩ := hSw
          go_simp
          try with_reducible rfl
        case hS26c => assumption
        try simp only [Act.put, List.setIfInBounds_toArray, List.set_cons_zero, List.set_cons_succ]
        refine wpAnyH_take (i := 27) (oi := ?oi27c) (v := ?v27c) ?hi27c ?hs27c ?hf27c ?hr27c ?hQ27c ?hy27c ?hS27c ?h27c
        case hi27c => exact (by simp only [List.getElem?_toArray, List.getElem?_cons_succ, List.getElem?_cons_zero]; rfl)
        case hs27c => kernel_rfl
        case hf27c => kernel_rfl
        case hr27c => kernel_rfl
        case hQ27c => exact fun _ _ _ h => h
        case hy27c =>
          refine Or.inl ⟨rfl, ?_⟩
          intro W hSw
          obtain ⟨q1, q2, q3, q4, q5⟩ := hSw
          go_simp
          try with_reducible rfl
        case hS27c => assumption
        try simp only [Act.put, List.setIfInBounds_toArray, List.set_cons_zero, List.set_cons_succ]
        refine wpAnyH_take (i := 29) (oi := ?oi29c) (v := ?v29c) ?hi29c ?hs29c ?hf29c ?hr29c ?hQ29c ?hy29c ?hS29c ?h29c
        case hi29c => exact (by simp only [List.getElem?_toArray, List.getElem?_cons_succ, List.getElem?_cons_zero]; rfl)
        case hs29c => kernel_rfl
        case hf29c => kernel_rfl
        case hr29c => kernel_rfl
        case hQ29c => exact fun _ _ _ h => h
        case hy29c =>
          refine Or.inl ⟨rfl, ?_⟩
          intro W hSw
          obtain ⟨q1, q2, q3, q4, q5⟩ := hSw
          go_simp
          try with_reducible rfl
        case hS29c => assumption
        try simp only [Act.put, List.setIfInBounds_toArray, List.set_cons_zero, List.set_cons_succ]
        refine wpAnyH_ready (rs := [28]) (by kernel_rfl) (by simp) ?_
        refine AllReadyH.cons (o := _) rfl (fun K hK => ?_) AllReadyH.nil
        go_simp
        refine (HTL.out.c28 Wc4 HBc4.out).mono ?_
        rintro r Wc5 ⟨v1, rfl, hv1, hbq⟩
        have HBc5 := Lib.hid (HBc4.out.trans (hbq.mono HBc4.out.size))
        have HV1 := Lib.hid hv1
        clear hv1
        clear hbq
        refine hK.out _ _ (HCE.out _ HBc5.out) (fun hHeld => ?_)
        clear hK K
        try simp only [Act.put, List.setIfInBounds_toArray, List.set_cons_zero, List.set_cons_succ]
        refine wpAnyH_ready (rs := [30]) (by kernel_rfl) (by simp) ?_
        refine AllReadyH.cons (o := _) rfl (fun K hK => ?_) AllReadyH.nil
        go_simp
        refine (HTL.out.c30 Wc5 HBc5.out).mono ?_
        rintro r Wc6 ⟨v2, rfl, hv2, hbq⟩
        have HBc6 := Lib.hid (HBc5.out.trans (hbq.mono HBc5.out.size))
        have HV2 := Lib.hid hv2
        have HV1 := Lib.hid (HV1.out.after hbq)
        clear hv2
        clear hbq
        refine hK.out _ _ (HCE.out _ HBc6.out) (fun hHeld => ?_)
        clear hK K
        try simp only [Act.put, List.setIfInBounds_toArray, List.set_cons_zero, List.set_cons_succ]
        refine wpAnyH_ready (rs := [31]) (by kernel_rfl) (by simp) ?_
        refine AllReadyH.cons (o := _) rfl (fun K hK => ?_) AllReadyH.nil
        go_simp
        refine (HTL.out.c31 Wc6 v1 v2 HV1.out HV2.out).mono ?_
        rintro r Wc7 ⟨rfl, hbq⟩
        have HBc7 := Lib.hid (HBc6.out.trans (hbq.mono HBc6.out.size))
        clear hbq
        refine hK.out _ _ (HCE.out _ HBc7.out) (fun hHeld => ?_)
        clear hK K
        try simp only [Act.put, List.setIfInBounds_toArray, List.set_cons_zero, List.set_cons_succ]
        refine wpAnyH_take (i := 32) (oi := ?oi32c) (v := (.bool false)) ?hi32c ?hs32c ?hf32c ?hr32c ?hQ32c ?hy32c ?hS32c ?h32c
        case hi32c => exact (by simp only [List.getElem?_toArray, List.getElem?_cons_succ, List.getElem?_cons_zero]; rfl)
        case hs32c => kernel_rfl
        case hf32c => kernel_rfl
        case hr32c => kernel_rfl
        case hQ32c => exact fun _ _ _ h => h
        case hy32c =>
          refine Or.inl ⟨rfl, ?_⟩
          intro W hSw
          obtain ⟨q1, q2, q3, q4, q5⟩ := hSw
          go_simp
          try with_reducible rfl
        case hS32c => assumption
        try simp only [Act.put, List.setIfInBounds_toArray, List.set_cons_zero, List.set_cons_succ]
        refine wpAnyH_take (i := 33) (oi := ?oi33c) (v := (.bool false)) ?hi33c ?hs33c ?hf33c ?hr33c ?hQ33c ?hy33c ?hS33c ?h33c
        case hi33c => exact (by simp only [List.getElem?_toArray, List.getElem?_cons_succ, List.getElem?_cons_zero]; rfl)
        case hs33c => kernel_rfl
        case hf33c => kernel_rfl
        case hr33c => kernel_rfl
        case hQ33c => exact fun _ _ _ h => h
        case hy33c =>
          refine Or.inl ⟨rfl, ?_⟩
          intro W hSw
          obtain ⟨q1, q2, q3, q4, q5⟩ := hSw
          go_simp
          try with_reducible rfl
        case hS33c => assumption
        try simp only [Act.put, List.setIfInBounds_toArray, List.set_cons_zero, List.set_cons_succ]
        refine wpAnyH_done (by kernel_rfl) ?_ _
        have HSZ := Lib.hid ((HSM.out.after HBc7.out).noact)
        go_wp2_with fail
        go_roundw
        case rel => exact ⟨k + 1, l, A, n, c, by omega, rfl, by go_num, HSZ⟩
        case measure => simp [intOf] <;> omega
    · have hkn : k = N := by omega
      subst hkn
      have HW := Lib.hid (nawake wr (HLW.out.below HS.out.bl HSZ0.out) (Nat.lt_of_lt_of_le HSZ0.out HS.out.bl.size))
      go_wp2_with fail
      refine HW.out.mono ?_
      rintro r w5 ⟨rfl, hb5⟩
      have HBF : Hid (Below w.heap.size w w5) := HS.out.bl.trans (hb5.mono HS.out.bl.size)
      clear hb5
      go_wp2
      go_ret
      exact ⟨rfl, HBF.out⟩
end Go.Proofs.YtfcogjdnnnpmdaaDoor
