/- Ledger: LedgerRefuses' walk. -/
import Derived.Test.YticegnbdpihdpaaLE
namespace Go.Proofs.Yticegnbdpihdpaa
open Go.RowKit
set_option maxRecDepth 20000

set_option linter.unusedSimpArgs false in
set_option maxHeartbeats 10000000 in
theorem lref_walk (A : Option Addr) (c : Nat) (E : List Ent) (n o a : Nat) (x : Int) (tn tu ta : Nat) (tw : Int) (w : World) (hE : Es w w.heap.size A E) (hEl : E.length ≤ 9223372036854775807) (hEb : ∀ e ∈ E, BE e) (bd1 : BdE n o a x) (bd2 : BdE tn tu ta tw) :
    Calls Try.prog 5 #[.slice A E.length c, eV n o a x, eV tn tu ta tw] w fun r w' => r = .returned (.bool true) ∧ Below w.heap.size w w' := by
  obtain ⟨n1, hn1⟩ : ∃ n, n = E.length := ⟨_, rfl⟩
  rw [← hn1]
  rw [← hn1] at hEl
  have HN1 := Lib.hid hn1
  have HE := Lib.hid hE
  have HEB := Lib.hid hEb
  have HD1 := Lib.hid bd1
  have HD2 := Lib.hid bd2
  clear hn1 hE hEb bd1 bd2
  obtain ⟨w0, hw0⟩ : ∃ w0, w0 = (w.alloc (.cells #[.int .u64 (n : Int), .int .u32 (o : Int), .int .u32 (a : Int), .int .i64 x] 33)).alloc (.cells #[.int .u64 (tn : Int), .int .u32 (tu : Int), .int .u32 (ta : Int), .int .i64 tw] 55) := ⟨_, rfl⟩
  have hb0 : Below w.heap.size w w0 := by rw [hw0]; exact ((Below.refl _ _).alloc (Nat.le_refl _) _).alloc (by simp) _
  have hp1 : w0.heap[w.heap.size]? = some (.cells #[.int .u64 (n : Int), .int .u32 (o : Int), .int .u32 (a : Int), .int .i64 x] 33 (0, 0)) := by
    rw [hw0]; exact (Below.heap_alloc _ _ _ (by simp)).trans (heap_alloc_new w _)
  have hp2 : w0.heap[w.heap.size + 1]? = some (.cells #[.int .u64 (tn : Int), .int .u32 (tu : Int), .int .u32 (ta : Int), .int .i64 tw] 55 (0, 0)) := by
    have h := heap_alloc_new (w.alloc (.cells #[.int .u64 (n : Int), .int .u32 (o : Int), .int .u32 (a : Int), .int .i64 x] 33)) (.cells #[.int .u64 (tn : Int), .int .u32 (tu : Int), .int .u32 (ta : Int), .int .i64 tw] 55)
    rw [World.size_alloc] at h
    rw [hw0]; exact h
  have HC : Hid (∀ W, Below w0.heap.size w0 W → (W.cell? ⟨w.heap.size, 0, none⟩ = some (.int .u64 (n : Int)) ∧ W.cell? ⟨w.heap.size, 1, none⟩ = some (.int .u32 (o : Int)) ∧ W.cell? ⟨w.heap.size, 2, none⟩ = some (.int .u32 (a : Int)) ∧ W.cell? ⟨w.heap.size, 3, none⟩ = some (.int .i64 x)) ∧ W.cell? ⟨w.heap.size + 1, 0, none⟩ = some (.int .u64 (tn : Int)) ∧ W.cell? ⟨w.heap.size + 1, 1, none⟩ = some (.int .u32 (tu : Int)) ∧ W.cell? ⟨w.heap.size + 1, 2, none⟩ = some (.int .u32 (ta : Int)) ∧ W.cell? ⟨w.heap.size + 1, 3, none⟩ = some (.int .i64 tw)) := fun W hW => by
    have e1 := (hW.block _ (lt_of_block hp1)).trans hp1
    have e2 := (hW.block _ (lt_of_block hp2)).trans hp2
    exact ⟨⟨cell_of_row W _ 0 _ _ _ e1, cell_of_row W _ 1 _ _ _ e1, cell_of_row W _ 2 _ _ _ e1, cell_of_row W _ 3 _ _ _ e1⟩, cell_of_row W _ 0 _ _ _ e2, cell_of_row W _ 1 _ _ _ e2, cell_of_row W _ 2 _ _ _ e2, cell_of_row W _ 3 _ _ _ e2⟩
  have H0 := Lib.hid hw0
  have HB0 := Lib.hid hb0
  clear hw0 hb0 hp1 hp2
  by_cases hbig : 20 < n1
  · have t : decide ((n1 : Int) > 20) = true := by rw [decide_eq_true_iff]; omega
    go_enter Try.func5, Try.ntmps5
    go_upto_region 1 with (fail)
    rw [← H0.out]
    go_wp2
    go_ret
    exact ⟨rfl, HB0.out⟩
  have t : decide ((n1 : Int) > 20) = false := by rw [decide_eq_false_iff_not]; omega
  go_enter Try.func5, Try.ntmps5
  go_upto_region 1 with (fail)
  rw [← H0.out]
  go_wp2_with fail
  refine (new_some 10 (by decide) w0).mono ?_
  rintro e w1 ⟨rfl, hl1, hb1⟩
  obtain ⟨M, hM⟩ : ∃ M, M = w0.heap.size := ⟨_, rfl⟩
  rw [← hM] at hl1 ⊢
  obtain ⟨L, hL⟩ : ∃ L, L = M + 1 := ⟨_, rfl⟩
  rw [← hL] at hl1 ⊢
  have HMW : Hid (w0.heap.size ≤ M) := by simp only [Hid]; omega
  have HL1 := Lib.hid hl1
  have HB1 := Lib.hid hb1
  clear hM hL hl1 hb1
  go_wp2_with fail
  go_loopw [8] (fun i wr => ∃ (k cnt : Nat) (D : DataW Unit) (l : List Ent), k ≤ n1 ∧ i = .int .i64 (k : Int) ∧ cnt ≤ k ∧ Hid (IsL wr L M 10 cnt D ∧ Rep D l ∧ Maps.size D ≤ 10 ∧ Below w0.heap.size w0 wr)) (fun i _ => n1 - (intOf i).toNat)
  case atStart => exact ⟨0, 0, .map [], [], by omega, rfl, by omega, HL1.out, Rep.empty, by decide, HB1.out⟩
  case round =>
    obtain ⟨k, cnt, D, l, hk, rfl, hck, HV⟩ := hrel
    by_cases hlt : k < n1
    · obtain ⟨⟨kn, ko, ka, kx⟩, he⟩ : ∃ e, E[k]? = some e := ⟨E[k]'(by rw [← HN1.out]; exact hlt), List.getElem?_eq_getElem _⟩
      obtain ⟨b1, o1, rfl, hb1l, hcl⟩ := HE.out (by have := HN1.out; omega)
      have HBW : Hid (Below w.heap.size w wr) := HB0.out.trans (HV.out.2.2.2.mono HB0.out.size)
      have HAt : Hid (∀ W, Below w.heap.size w W → W.cell? ⟨b1, o1 + k * 4, none⟩ = some (.int .u64 (kn : Int)) ∧ W.cell? ⟨b1, o1 + k * 4 + 1, none⟩ = some (.int .u32 (ko : Int)) ∧ W.cell? ⟨b1, o1 + k * 4 + 2, none⟩ = some (.int .u32 (ka : Int)) ∧ W.cell? ⟨b1, o1 + k * 4 + 3, none⟩ = some (.int .i64 kx)) := fun W hW => by
        obtain ⟨r0, r1, r2, r3⟩ := hcl k _ he
        exact ⟨(hW.cell (p := ⟨b1, _, none⟩) hb1l).trans r0, (hW.cell (p := ⟨b1, _, none⟩) hb1l).trans r1, (hW.cell (p := ⟨b1, _, none⟩) hb1l).trans r2, (hW.cell (p := ⟨b1, _, none⟩) hb1l).trans r3⟩
      have HBE := Lib.hid (HEB.out _ (List.mem_of_getElem? he))
      clear hcl he hb1l
      go_upto_region 7 with (fail)
      have HD : Hid (Below wr.heap.size wr wr.drew) := (Below.refl _ _).drew
      have HS : Hid ((fun W : World => W.cell? ⟨b1, o1 + k * 4, none⟩ = some (.int .u64 (kn : Int)) ∧ W.cell? ⟨b1, o1 + k * 4 + 1, none⟩ = some (.int .u32 (ko : Int)) ∧ W.cell? ⟨b1, o1 + k * 4 + 2, none⟩ = some (.int .u32 (ka : Int)) ∧ W.cell? ⟨b1, o1 + k * 4 + 3, none⟩ = some (.int .i64 kx)) wr.drew) := HAt.out _ (HBW.out.trans (HD.out.mono HBW.out.size))
      refine wp_region_held_drew (S := fun W : World => W.cell? ⟨b1, o1 + k * 4, none⟩ = some (.int .u64 (kn : Int)) ∧ W.cell? ⟨b1, o1 + k * 4 + 1, none⟩ = some (.int .u32 (ko : Int)) ∧ W.cell? ⟨b1, o1 + k * 4 + 2, none⟩ = some (.int .u32 (ka : Int)) ∧ W.cell? ⟨b1, o1 + k * 4 + 3, none⟩ = some (.int .i64 kx)) (by kernel_rfl) HS.out (fun hHeld => ?_)
      obtain ⟨W0, hW0⟩ : ∃ W0, W0 = wr.drew := ⟨_, rfl⟩
      have HD0 : Hid (Below wr.heap.size wr W0) := by rw [hW0]; exact HD.out
      rw [← hW0] at hHeld ⊢
      clear hW0
      obtain ⟨ci, cnt2, D2, l2, hcall, hR2, hc2, hs2, _⟩ := issue_all L M cnt D l kn ko ka kx kx W0 (HV.out.1.below HD0.out) HV.out.2.1 HBE.out.1 (by omega) HV.out.2.2.1
      have HCALL := Lib.hid hcall
      have HR2 := Lib.hid hR2
      have HS2 := Lib.hid hs2
      clear hcall hR2 hs2
      refine wpAnyH_take (i := 0) (oi := ?oi0a) (v := ?v0a) ?hi0a ?hs0a ?hf0a ?hr0a ?hQ0a ?hy0a ?hS0a ?h0a
      case hi0a => exact (by simp only [List.getElem?_toArray, List.getElem?_cons_zero]; rfl)
      case hs0a => kernel_rfl
      case hf0a => kernel_rfl
      case hr0a => kernel_rfl
      case hQ0a => exact fun _ _ _ h => h
      case hy0a =>
        refine Or.inl ⟨rfl, ?_⟩
        intro W hSw
        obtain ⟨y1, y2, y3, y4⟩ := hSw
        go_simp
        try with_reducible rfl
      case hS0a => assumption
      try simp only [Act.put, List.setIfInBounds_toArray, List.set_cons_zero, List.set_cons_succ]
      refine wpAnyH_take (i := 1) (oi := ?oi1a) (v := ?v1a) ?hi1a ?hs1a ?hf1a ?hr1a ?hQ1a ?hy1a ?hS1a ?h1a
      case hi1a => exact (by simp only [List.getElem?_toArray, List.getElem?_cons_succ, List.getElem?_cons_zero]; rfl)
      case hs1a => kernel_rfl
      case hf1a => kernel_rfl
      case hr1a => kernel_rfl
      case hQ1a => exact fun _ _ _ h => h
      case hy1a =>
        refine Or.inl ⟨rfl, ?_⟩
        intro W hSw
        obtain ⟨y1, y2, y3, y4⟩ := hSw
        go_simp
        try with_reducible rfl
      case hS1a => assumption
      try simp only [Act.put, List.setIfInBounds_toArray, List.set_cons_zero, List.set_cons_succ]
      refine wpAnyH_take (i := 2) (oi := ?oi2a) (v := ?v2a) ?hi2a ?hs2a ?hf2a ?hr2a ?hQ2a ?hy2a ?hS2a ?h2a
      case hi2a => exact (by simp only [List.getElem?_toArray, List.getElem?_cons_succ, List.getElem?_cons_zero]; rfl)
      case hs2a => kernel_rfl
      case hf2a => kernel_rfl
      case hr2a => kernel_rfl
      case hQ2a => exact fun _ _ _ h => h
      case hy2a =>
        refine Or.inl ⟨rfl, ?_⟩
        intro W hSw
        obtain ⟨y1, y2, y3, y4⟩ := hSw
        go_simp
        try with_reducible rfl
      case hS2a => assumption
      try simp only [Act.put, List.setIfInBounds_toArray, List.set_cons_zero, List.set_cons_succ]
      refine wpAnyH_take (i := 3) (oi := ?oi3a) (v := ?v3a) ?hi3a ?hs3a ?hf3a ?hr3a ?hQ3a ?hy3a ?hS3a ?h3a
      case hi3a => exact (by simp only [List.getElem?_toArray, List.getElem?_cons_succ, List.getElem?_cons_zero]; rfl)
      case hs3a => kernel_rfl
      case hf3a => kernel_rfl
      case hr3a => kernel_rfl
      case hQ3a => exact fun _ _ _ h => h
      case hy3a =>
        refine Or.inl ⟨rfl, ?_⟩
        intro W hSw
        obtain ⟨y1, y2, y3, y4⟩ := hSw
        go_simp
        try with_reducible rfl
      case hS3a => assumption
      try simp only [Act.put, List.setIfInBounds_toArray, List.set_cons_zero, List.set_cons_succ]
      refine wpAnyH_take (i := 4) (oi := ?oi4a) (v := ?v4a) ?hi4a ?hs4a ?hf4a ?hr4a ?hQ4a ?hy4a ?hS4a ?h4a
      case hi4a => exact (by simp only [List.getElem?_toArray, List.getElem?_cons_succ, List.getElem?_cons_zero]; rfl)
      case hs4a => kernel_rfl
      case hf4a => kernel_rfl
      case hr4a => kernel_rfl
      case hQ4a => exact fun _ _ _ h => h
      case hy4a =>
        refine Or.inl ⟨rfl, ?_⟩
        intro W hSw
        obtain ⟨y1, y2, y3, y4⟩ := hSw
        go_simp
        try with_reducible rfl
      case hS4a => assumption
      try simp only [Act.put, List.setIfInBounds_toArray, List.set_cons_zero, List.set_cons_succ]
      refine wpAnyH_take (i := 5) (oi := ?oi5a) (v := ?v5a) ?hi5a ?hs5a ?hf5a ?hr5a ?hQ5a ?hy5a ?hS5a ?h5a
      case hi5a => exact (by simp only [List.getElem?_toArray, List.getElem?_cons_succ, List.getElem?_cons_zero]; rfl)
      case hs5a => kernel_rfl
      case hf5a => kernel_rfl
      case hr5a => kernel_rfl
      case hQ5a => exact fun _ _ _ h => h
      case hy5a =>
        refine Or.inl ⟨rfl, ?_⟩
        intro W hSw
        obtain ⟨y1, y2, y3, y4⟩ := hSw
        go_simp
        try with_reducible rfl
      case hS5a => assumption
      try simp only [Act.put, List.setIfInBounds_toArray, List.set_cons_zero, List.set_cons_succ]
      refine wpAnyH_take (i := 6) (oi := ?oi6a) (v := ?v6a) ?hi6a ?hs6a ?hf6a ?hr6a ?hQ6a ?hy6a ?hS6a ?h6a
      case hi6a => exact (by simp only [List.getElem?_toArray, List.getElem?_cons_succ, List.getElem?_cons_zero]; rfl)
      case hs6a => kernel_rfl
      case hf6a => kernel_rfl
      case hr6a => kernel_rfl
      case hQ6a => exact fun _ _ _ h => h
      case hy6a =>
        refine Or.inl ⟨rfl, ?_⟩
        intro W hSw
        obtain ⟨y1, y2, y3, y4⟩ := hSw
        go_simp
        try with_reducible rfl
      case hS6a => assumption
      try simp only [Act.put, List.setIfInBounds_toArray, List.set_cons_zero, List.set_cons_succ]
      refine wpAnyH_take (i := 7) (oi := ?oi7a) (v := ?v7a) ?hi7a ?hs7a ?hf7a ?hr7a ?hQ7a ?hy7a ?hS7a ?h7a
      case hi7a => exact (by simp only [List.getElem?_toArray, List.getElem?_cons_succ, List.getElem?_cons_zero]; rfl)
      case hs7a => kernel_rfl
      case hf7a => kernel_rfl
      case hr7a => kernel_rfl
      case hQ7a => exact fun _ _ _ h => h
      case hy7a =>
        refine Or.inl ⟨rfl, ?_⟩
        intro W hSw
        obtain ⟨y1, y2, y3, y4⟩ := hSw
        go_simp
        try with_reducible rfl
      case hS7a => assumption
      try simp only [Act.put, List.setIfInBounds_toArray, List.set_cons_zero, List.set_cons_succ]
      refine wpAnyH_take (i := 8) (oi := ?oi8a) (v := ?v8a) ?hi8a ?hs8a ?hf8a ?hr8a ?hQ8a ?hy8a ?hS8a ?h8a
      case hi8a => exact (by simp only [List.getElem?_toArray, List.getElem?_cons_succ, List.getElem?_cons_zero]; rfl)
      case hs8a => kernel_rfl
      case hf8a => kernel_rfl
      case hr8a => kernel_rfl
      case hQ8a => exact fun _ _ _ h => h
      case hy8a =>
        refine Or.inl ⟨rfl, ?_⟩
        intro W hSw
        obtain ⟨y1, y2, y3, y4⟩ := hSw
        go_simp
        try with_reducible rfl
      case hS8a => assumption
      try simp only [Act.put, List.setIfInBounds_toArray, List.set_cons_zero, List.set_cons_succ]
      refine wpAnyH_take (i := 9) (oi := ?oi9a) (v := ?v9a) ?hi9a ?hs9a ?hf9a ?hr9a ?hQ9a ?hy9a ?hS9a ?h9a
      case hi9a => exact (by simp only [List.getElem?_toArray, List.getElem?_cons_succ, List.getElem?_cons_zero]; rfl)
      case hs9a => kernel_rfl
      case hf9a => kernel_rfl
      case hr9a => kernel_rfl
      case hQ9a => exact fun _ _ _ h => h
      case hy9a =>
        refine Or.inl ⟨rfl, ?_⟩
        intro W hSw
        obtain ⟨y1, y2, y3, y4⟩ := hSw
        go_simp
        try with_reducible rfl
      case hS9a => assumption
      try simp only [Act.put, List.setIfInBounds_toArray, List.set_cons_zero, List.set_cons_succ]
      refine wpAnyH_ready (rs := [10]) (by kernel_rfl) (by simp) ?_
      refine AllReadyH.cons (o := _) rfl (fun K hK => ?_) AllReadyH.nil
      go_simp
      refine HCALL.out.mono ?_
      rintro r w' ⟨rfl, hl', hch⟩
      have HBY : Hid (Below w0.heap.size w0 w') := (HV.out.2.2.2.trans (HD0.out.mono HV.out.2.2.2.size)).trans (hch.1 w0.heap.size HMW.out (HV.out.2.2.2.trans (HD0.out.mono HV.out.2.2.2.size)).size)
      have HBX : Hid (Below w.heap.size w w') := HB0.out.trans (HBY.out.mono HB0.out.size)
      have HLX := Lib.hid hl'
      clear hl' hch
      refine hK.out _ _ (HAt.out _ HBX.out) (fun hHeld => ?_)
      clear hK K
      try simp only [Act.put, List.setIfInBounds_toArray, List.set_cons_zero, List.set_cons_succ]
      refine wpAnyH_done (by kernel_rfl) ?_ _
      go_wp2_with fail
      go_roundw
      case rel => exact ⟨k + 1, cnt2, D2, l2, by omega, by go_num, by omega, HLX.out, HR2.out, HS2.out, HBY.out⟩
      case measure => simp [intOf] <;> omega
    · have hBw := HV.out.2.2.2
      obtain ⟨s1, hs1⟩ : ∃ s, s = Maps.size D := ⟨_, rfl⟩
      have hcN := nonces_any L M 10 cnt D wr HV.out.1 (by have := HV.out.2.2.1; omega)
      rw [← hs1] at hcN
      have HN := Lib.hid hcN
      clear hcN
      go_wp2_with fail
      refine HN.out.mono ?_
      rintro e w2 ⟨⟨p1, q1, rfl⟩, hb2⟩
      have HB2 := Lib.hid (hBw.trans (hb2.mono hBw.size))
      have HL2 := Lib.hid (HV.out.1.below hb2)
      clear hb2 hBw
      obtain ⟨cf, cnt2, D2, l2, hcall, hR2, hc2, h10, hf⟩ := issue_all L M cnt D l n o a x tw w2 HL2.out HV.out.2.1 HD1.out.1 (by omega) HV.out.2.2.1
      rw [← hs1] at hf
      obtain ⟨s2, hs2⟩ : ∃ s, s = Maps.size D2 := ⟨_, rfl⟩
      rw [← hs2] at hf h10
      have HCALL := Lib.hid hcall
      have HR2 := Lib.hid hR2
      have HF := Lib.hid hf
      have HS2 := Lib.hid hs2
      have H10 := Lib.hid h10
      obtain ⟨⟨r0, r1, r2, r3⟩, r4, r5, r6, r7⟩ := HC.out w2 HB2.out
      have b1 : s1 ≤ 10 := by rw [hs1]; exact HV.out.2.2.1
      clear hcall hR2 hf hs2 h10 hs1
      go_wp2_with fail
      refine HCALL.out.mono ?_
      rintro e w3 ⟨rfl, hl3, hch⟩
      have HB3 := Lib.hid (HB2.out.trans (hch.1 w0.heap.size HMW.out HB2.out.size))
      have hcN := nonces_any L M 10 cnt2 D2 w3 hl3 (by have := H10.out; have := HS2.out; omega)
      rw [← HS2.out] at hcN
      have HN2 := Lib.hid hcN
      have HL3 := Lib.hid hl3
      clear hcN hl3 hch r0 r1 r2 r3 r4 r5 r6 r7
      go_wp2_with fail
      refine HN2.out.mono ?_
      rintro e w4 ⟨⟨p2, q2, rfl⟩, hb4⟩
      have HB4 := Lib.hid (HB3.out.trans (hb4.mono HB3.out.size))
      have HL4 := Lib.hid (HL3.out.below hb4)
      clear hb4
      obtain ⟨cg, D3, hcall, hg⟩ := spend_len L M cnt2 D2 l2 tn tu ta tw w4 HL4.out HR2.out HD2.out.1
      rw [← HS2.out] at hg
      obtain ⟨s3, hs3⟩ : ∃ s, s = Maps.size D3 := ⟨_, rfl⟩
      rw [← hs3] at hg
      have HCALL2 := Lib.hid hcall
      have HS3 := Lib.hid hs3
      have tt : decide ((s2 : Int) > 10) = false := by rw [decide_eq_false_iff_not]; have := H10.out; omega
      have hf' : (((cf : Int) == 0) = true ∧ ((s2 : Int) == (s1 : Int) + 1) = true ∧ ((cf : Int) != 0) = false ∧ ((s2 : Int) != (s1 : Int)) = true) ∨ (((cf : Int) == 0) = false ∧ ((s2 : Int) == (s1 : Int) + 1) = false ∧ ((cf : Int) != 0) = true ∧ ((s2 : Int) != (s1 : Int)) = false) := by
        rcases HF.out with ⟨e1, e2⟩ | ⟨e1, e2⟩
        · left
          simp only [beq_iff_eq, bne_iff_ne, bne_eq_false_iff_eq]
          omega
        · right
          simp only [beq_eq_false_iff_ne, bne_iff_ne, bne_eq_false_iff_eq]
          omega
      have hg' : (((cg : Int) == 0) = true ∧ ((s3 : Int) + 1 == (s2 : Int)) = true ∧ ((s3 : Int) == (s2 : Int)) = false) ∨ (((cg : Int) == 0) = false ∧ ((s3 : Int) + 1 == (s2 : Int)) = false ∧ ((s3 : Int) == (s2 : Int)) = true) := by
        rcases hg with ⟨e1, e2⟩ | ⟨e1, e2⟩
        · left
          simp only [beq_iff_eq, beq_eq_false_iff_ne]
          omega
        · right
          simp only [beq_iff_eq, beq_eq_false_iff_ne]
          omega
      obtain ⟨⟨r0, r1, r2, r3⟩, r4, r5, r6, r7⟩ := HC.out w4 HB4.out
      have HS3' : Hid (Maps.size D3 ≤ 12) := by simp only [Hid]; have := H10.out; rcases hg with ⟨e1, e2⟩ | ⟨e1, e2⟩ <;> omega
      have b2 : s2 ≤ 10 := H10.out
      have b3 : s3 ≤ 12 := by rw [HS3.out]; exact HS3'.out
      clear hcall hg hs3
      rcases hf' with ⟨f1, f2, f3, f4⟩ | ⟨f1, f2, f3, f4⟩ <;> rcases hg' with ⟨g1, g2, g3⟩ | ⟨g1, g2, g3⟩
      all_goals
        go_wp2_with fail
        refine HCALL2.out.mono ?_
        rintro e w5 ⟨rfl, hl5, hch⟩
        have HB5 := Lib.hid (HB4.out.trans (hch.1 w0.heap.size HMW.out HB4.out.size))
        have hcN := nonces_any L M 10 cnt2 D3 w5 hl5 HS3'.out
        rw [← HS3.out] at hcN
        have HN3 := Lib.hid hcN
        clear hcN hl5 hch r0 r1 r2 r3 r4 r5 r6 r7
        go_wp2_with fail
        refine HN3.out.mono ?_
        rintro e w6 ⟨⟨p3, q3, rfl⟩, hb6⟩
        have HB6 := Lib.hid (HB5.out.trans (hb6.mono HB5.out.size))
        clear hb6
        go_wp2_with fail
        refine (lawake w6).mono ?_
        rintro e w7 ⟨rfl, hb7⟩
        have HB7 := Lib.hid (HB6.out.trans (hb7.mono HB6.out.size))
        clear hb7
        go_wp2
        go_ret
        exact ⟨rfl, HB0.out.trans (HB7.out.mono HB0.out.size)⟩
end Go.Proofs.Yticegnbdpihdpaa
