/- Ledger: LedgerRuns' walk. -/
import Derived.Test.YticegnbdpihdpaaLO
namespace Go.Proofs.Yticegnbdpihdpaa
open Go.RowKit Go.Maps
set_option maxRecDepth 20000
set_option linter.unusedVariables false
set_option linter.unusedSimpArgs false
theorem chm_cells {M X t : Nat} {w w' : World} {L : Nat} {most : Int} {E : List Ent} {cs : Array Value} (hc : ChM M w w') (hl : Ls w L M most E) (h : w.heap[X]? = some (.cells cs t (0, 0))) : w'.heap[X]? = some (.cells cs t (0, 0)) := by
  obtain ⟨es, cl, hm⟩ := hl.map
  exact (hc.2.1 X (lt_of_block h) (fun e => by rw [e, hm] at h; cases h)).trans h

set_option maxHeartbeats 16000000 in
theorem runs_walk (conns : Int) (A0 : Option Addr) (c0 : Nat) (l : List Ac) (w : World) (hA : As w w.heap.size A0 l) (hl : l.length ≤ 9223372036854775807) (hR : ∀ e ∈ l, Ra e) (hc : -9223372036854775808 ≤ conns ∧ conns ≤ 9223372036854775807) :
    Calls Try.prog 3 #[.int .i64 conns, .slice A0 l.length c0] w fun r w' => r = .returned (.bool true) ∧ Below w.heap.size w w' := by
  obtain ⟨nn, hn⟩ : ∃ n, n = l.length := ⟨_, rfl⟩
  rw [← hn] at hl ⊢
  have HA := Lib.hid hA
  have HR := Lib.hid hR
  have HN := Lib.hid hn
  have HAW : Hid (∀ W, Calls Try.prog 24 #[] W fun r w' => r = .returned (.bool true) ∧ Below W.heap.size W w') := fun W => lawake W
  clear hA hR hn
  by_cases h30 : 30 < conns
  · go_enter Try.func3, Try.ntmps3
    go_wp2
    go_ret
    exact ⟨rfl, Below.refl _ _⟩
  by_cases h60 : 60 < nn
  · go_enter Try.func3, Try.ntmps3
    go_wp2
    go_ret
    exact ⟨rfl, Below.refl _ _⟩
  have HNW := Lib.hid (new_max conns w)
  go_enter Try.func3, Try.ntmps3
  go_wp2_with fail
  refine HNW.out.mono ?_
  rintro r w1 ⟨rfl, h1, hb1⟩
  obtain ⟨L, hL⟩ : ∃ L, L = w.heap.size + 1 := ⟨_, rfl⟩
  obtain ⟨M, hM⟩ : ∃ M, M = w.heap.size := ⟨_, rfl⟩
  obtain ⟨most, hmo⟩ : ∃ most, most = max 0 conns := ⟨_, rfl⟩
  rw [← hL, ← hmo] at h1
  have HS : Hid (St w L M most [] none 0 w1) := ⟨by rw [hM]; exact h1, List.Pairwise.nil, rfl, by decide, (fun e he => by cases he), Ds.nil w1, by rw [hM]; exact Nat.le_refl _, hb1⟩
  have HMO : Hid (most ≤ 30) := by simp only [Hid]; rw [hmo]; omega
  have HMM := Lib.hid hmo
  rw [← hL]
  clear h1 hb1 hL hM hmo
  go_wp2_with fail
  go_loopw [6, 7] (fun u i wr => ∃ (k : Nat) (E : List Ent) (A : Option Addr) (m c : Nat), k ≤ nn ∧ u = .slice A m c ∧ i = .int .i64 (k : Int) ∧ Hid (St w L M most E A m wr)) (fun _ i _ => nn - (intOf i).toNat)
  case atStart => exact ⟨0, [], none, 0, 0, Nat.zero_le _, rfl, rfl, HS.out⟩
  case round =>
    obtain ⟨k, E, A, m, c, hk, rfl, rfl, HS0⟩ := hrel
    by_cases hlt : k < nn
    · obtain ⟨⟨d, ⟨n, o, a, x⟩, now⟩, hy⟩ : ∃ e, l[k]? = some e := ⟨l[k]'(by rw [← HN.out]; exact hlt), List.getElem?_eq_getElem _⟩
      obtain ⟨hd, ⟨hn, -, -, -, -⟩, hnow1, hnow2⟩ := HR.out _ (List.mem_of_getElem? hy)
      simp only at hd hn
      obtain ⟨b1, o1, rfl, hb1, ha1⟩ := HA.out (by have := HN.out; omega)
      obtain ⟨e0, e1, e2, e3, e4, e5⟩ := ha1 k _ hy
      have g9 := HS0.out.bel
      have d0 := (g9.cell (p := ⟨b1, _, none⟩) hb1).trans e0
      have d1 := (g9.cell (p := ⟨b1, _, none⟩) hb1).trans e1
      have d2 := (g9.cell (p := ⟨b1, _, none⟩) hb1).trans e2
      have d3 := (g9.cell (p := ⟨b1, _, none⟩) hb1).trans e3
      have d4 := (g9.cell (p := ⟨b1, _, none⟩) hb1).trans e4
      have d5 := (g9.cell (p := ⟨b1, _, none⟩) hb1).trans e5
      simp only at d0 d1 d2 d3 d4 d5
      obtain ⟨X, hX⟩ : ∃ X, X = wr.heap.size := ⟨_, rfl⟩
      obtain ⟨v1, hv1⟩ : ∃ v1, v1 = wr.alloc (.cells #[.int .u8 (d : Int), .int .u64 (n : Int), .int .u32 (o : Int), .int .u32 (a : Int), .int .i64 x, .int .i64 now] 31) := ⟨_, rfl⟩
      have hbv1 : Below wr.heap.size wr v1 := by rw [hv1]; exact (Below.refl _ _).alloc (Nat.le_refl _) _
      have hqv1 : v1.heap[X]? = some (.cells #[.int .u8 (d : Int), .int .u64 (n : Int), .int .u32 (o : Int), .int .u32 (a : Int), .int .i64 x, .int .i64 now] 31 (0, 0)) := by rw [hv1, hX]; exact heap_alloc_new wr _
      have HS1 : Hid (St w L M most E A m v1) := HS0.out.below hbv1
      have HXC : Hid (∀ W : World, W.heap[X]? = some (.cells #[.int .u8 (d : Int), .int .u64 (n : Int), .int .u32 (o : Int), .int .u32 (a : Int), .int .i64 x, .int .i64 now] 31 (0, 0)) → W.cell? ⟨X, 0, none⟩ = some (.int .u8 (d : Int)) ∧ W.cell? ⟨X, 1, none⟩ = some (.int .u64 (n : Int)) ∧ W.cell? ⟨X, 2, none⟩ = some (.int .u32 (o : Int)) ∧ W.cell? ⟨X, 3, none⟩ = some (.int .u32 (a : Int)) ∧ W.cell? ⟨X, 4, none⟩ = some (.int .i64 x) ∧ W.cell? ⟨X, 5, none⟩ = some (.int .i64 now)) := fun W e => ⟨cell_of_row W _ 0 _ _ _ e, cell_of_row W _ 1 _ _ _ e, cell_of_row W _ 2 _ _ _ e, cell_of_row W _ 3 _ _ _ e, cell_of_row W _ 4 _ _ _ e, cell_of_row W _ 5 _ _ _ e⟩
      have HXW : Hid (∀ W, Below v1.heap.size v1 W → W.heap[X]? = some (.cells #[.int .u8 (d : Int), .int .u64 (n : Int), .int .u32 (o : Int), .int .u32 (a : Int), .int .i64 x, .int .i64 now] 31 (0, 0))) := fun W hW => (hW.block X (lt_of_block hqv1)).trans hqv1
      have HBN := Lib.hid hn
      have HV1 := Lib.hid hv1
      have HXX := Lib.hid hX
      clear hy ha1 hb1 e0 e1 e2 e3 e4 e5 g9 hv1 hbv1 hqv1 hX hnow1 hnow2 hn
      obtain ⟨q, hq⟩ : ∃ q, q = anyN E n := ⟨_, rfl⟩
      obtain ⟨ge, hge⟩ : ∃ ge, ge = getE E n := ⟨_, rfl⟩
      have HG1 := Lib.hid (get_ls L M n most E v1 HS1.out.ls HS1.out.srt HBN.out)
      have HG2 : Hid (∀ W, Below v1.heap.size v1 W → _) := fun W hW => rget_any A m c n E W HS1.out.len (HS1.out.below hW).ds HS1.out.srt (by have h1 := HS1.out.le; omega)
      rw [← hq, ← hge] at HG1
      simp only [← hq, ← hge] at HG2
      obtain ⟨n', o', a', x'⟩ := ge
      have HOWN1 : Hid (∀ W, Calls Try.prog 14 #[eV n' o' a' x'] W fun r w' => r = .returned (eV n' o' a' x') ∧ Below W.heap.size W w') := fun W => own_any (n', o', a', x') W
      have HOWN2 : Hid (∀ W, Calls Try.prog 14 #[eV n o a x] W fun r w' => r = .returned (eV n o a x) ∧ Below W.heap.size W w') := fun W => own_any (n, o, a, x) W
      have HQ := Lib.hid hq
      clear hq hge
      go_upto_region 11 with (fail)
      rw [← HV1.out, ← HXX.out]
      clear d0 d1 d2 d3 d4 d5
      have t1 := (HXC.out v1 (HXW.out _ (Below.refl _ _))).2.1
      go_wp2_with fail
      refine HG1.out.mono ?_
      rintro r w1 ⟨rfl, hb1⟩
      obtain ⟨G1, hG1⟩ : ∃ G, G = w1.heap.size := ⟨_, rfl⟩
      obtain ⟨w2, hw2⟩ : ∃ w2, w2 = w1.alloc (.cells #[.int .u64 (n' : Int), .int .u32 (o' : Int), .int .u32 (a' : Int), .int .i64 x'] 33) := ⟨_, rfl⟩
      have hb2 : Below v1.heap.size v1 w2 := by rw [hw2]; exact hb1.alloc hb1.size _
      have hq2 : w2.heap[G1]? = some (.cells #[.int .u64 (n' : Int), .int .u32 (o' : Int), .int .u32 (a' : Int), .int .i64 x'] 33 (0, 0)) := by rw [hw2, hG1]; exact heap_alloc_new w1 _
      have HB2 := Lib.hid hb2
      have HQ2 := Lib.hid hq2
      have HW2 := Lib.hid hw2
      have HGG1 := Lib.hid hG1
      clear hb1 hb2 hq2 hw2 hG1 t1
      go_upto_region 13 with (fail)
      rw [← HW2.out, ← HGG1.out]
      have t1 := (HXC.out w2 (HXW.out _ HB2.out)).2.1
      go_wp2_with fail
      refine (HG2.out w2 HB2.out).mono ?_
      rintro r w3 ⟨rfl, hb3⟩
      obtain ⟨G2, hG2⟩ : ∃ G, G = w3.heap.size := ⟨_, rfl⟩
      obtain ⟨w4, hw4⟩ : ∃ w4, w4 = w3.alloc (.cells #[.int .u64 (n' : Int), .int .u32 (o' : Int), .int .u32 (a' : Int), .int .i64 x'] 29) := ⟨_, rfl⟩
      have hb4 : Below w2.heap.size w2 w4 := by rw [hw4]; exact hb3.alloc hb3.size _
      have hq4 : w4.heap[G2]? = some (.cells #[.int .u64 (n' : Int), .int .u32 (o' : Int), .int .u32 (a' : Int), .int .i64 x'] 29 (0, 0)) := by rw [hw4, hG2]; exact heap_alloc_new w3 _
      have HB4 : Hid (Below v1.heap.size v1 w4) := HB2.out.trans (hb4.mono HB2.out.size)
      have HS14 : Hid (∀ W, Below w4.heap.size w4 W → (fun W : World => (W.cell? ⟨G1, 0, none⟩ = some (.int .u64 (n' : Int)) ∧ W.cell? ⟨G1, 1, none⟩ = some (.int .u32 (o' : Int)) ∧ W.cell? ⟨G1, 2, none⟩ = some (.int .u32 (a' : Int)) ∧ W.cell? ⟨G1, 3, none⟩ = some (.int .i64 x')) ∧ W.cell? ⟨G2, 0, none⟩ = some (.int .u64 (n' : Int)) ∧ W.cell? ⟨G2, 1, none⟩ = some (.int .u32 (o' : Int)) ∧ W.cell? ⟨G2, 2, none⟩ = some (.int .u32 (a' : Int)) ∧ W.cell? ⟨G2, 3, none⟩ = some (.int .i64 x')) W) := fun W hW => by
        have e := (hW.block G2 (lt_of_block hq4)).trans hq4
        have e' := ((hb4.trans (hW.mono hb4.size)).block G1 (lt_of_block HQ2.out)).trans HQ2.out
        exact ⟨⟨cell_of_row W _ 0 _ _ _ e', cell_of_row W _ 1 _ _ _ e', cell_of_row W _ 2 _ _ _ e', cell_of_row W _ 3 _ _ _ e'⟩, cell_of_row W _ 0 _ _ _ e, cell_of_row W _ 1 _ _ _ e, cell_of_row W _ 2 _ _ _ e, cell_of_row W _ 3 _ _ _ e⟩
      have HR44 : Hid (Below w4.heap.size w4 w4) := Below.refl _ _
      have HW4 := Lib.hid hw4
      have HGG2 := Lib.hid hG2
      clear hb3 hb4 hq4 hw4 hG2 t1
      go_upto_region 14 with (fail)
      rw [← HW4.out, ← HGG2.out]
      have HDg : Hid (Below w4.heap.size w4 w4.drew) := HR44.out.drew
      refine wp_region_held_drew (S := fun W : World => (W.cell? ⟨G1, 0, none⟩ = some (.int .u64 (n' : Int)) ∧ W.cell? ⟨G1, 1, none⟩ = some (.int .u32 (o' : Int)) ∧ W.cell? ⟨G1, 2, none⟩ = some (.int .u32 (a' : Int)) ∧ W.cell? ⟨G1, 3, none⟩ = some (.int .i64 x')) ∧ W.cell? ⟨G2, 0, none⟩ = some (.int .u64 (n' : Int)) ∧ W.cell? ⟨G2, 1, none⟩ = some (.int .u32 (o' : Int)) ∧ W.cell? ⟨G2, 2, none⟩ = some (.int .u32 (a' : Int)) ∧ W.cell? ⟨G2, 3, none⟩ = some (.int .i64 x')) (by kernel_rfl) (HS14.out _ (HDg.out)) (fun hHeld => ?_)
      obtain ⟨Wg0, hW0⟩ : ∃ W0, W0 = w4.drew := ⟨_, rfl⟩
      rw [← hW0] at hHeld HDg ⊢
      clear hW0
      refine wpAnyH_take (i := 0) (oi := ?oi0g) (v := ?v0g) ?hi0g ?hs0g ?hf0g ?hr0g ?hQ0g ?hy0g ?hS0g ?h0g
      case hi0g => exact (by simp only [List.getElem?_toArray, List.getElem?_cons_zero]; rfl)
      case hs0g => kernel_rfl
      case hf0g => kernel_rfl
      case hr0g => kernel_rfl
      case hQ0g => exact fun _ _ _ h => h
      case hy0g =>
        refine Or.inl ⟨rfl, ?_⟩
        intro W hSw
        obtain ⟨⟨y1, y2, y3, y4⟩, y5, y6, y7, y8⟩ := hSw
        go_simp
        try with_reducible rfl
      case hS0g => assumption
      try simp only [Act.put, List.setIfInBounds_toArray, List.set_cons_zero, List.set_cons_succ]
      refine wpAnyH_take (i := 1) (oi := ?oi1g) (v := ?v1g) ?hi1g ?hs1g ?hf1g ?hr1g ?hQ1g ?hy1g ?hS1g ?h1g
      case hi1g => exact (by simp only [List.getElem?_toArray, List.getElem?_cons_succ, List.getElem?_cons_zero]; rfl)
      case hs1g => kernel_rfl
      case hf1g => kernel_rfl
      case hr1g => kernel_rfl
      case hQ1g => exact fun _ _ _ h => h
      case hy1g =>
        refine Or.inl ⟨rfl, ?_⟩
        intro W hSw
        obtain ⟨⟨y1, y2, y3, y4⟩, y5, y6, y7, y8⟩ := hSw
        go_simp
        try with_reducible rfl
      case hS1g => assumption
      try simp only [Act.put, List.setIfInBounds_toArray, List.set_cons_zero, List.set_cons_succ]
      refine wpAnyH_take (i := 2) (oi := ?oi2g) (v := (.bool false)) ?hi2g ?hs2g ?hf2g ?hr2g ?hQ2g ?hy2g ?hS2g ?h2g
      case hi2g => exact (by simp only [List.getElem?_toArray, List.getElem?_cons_succ, List.getElem?_cons_zero]; rfl)
      case hs2g => kernel_rfl
      case hf2g => kernel_rfl
      case hr2g => kernel_rfl
      case hQ2g => exact fun _ _ _ h => h
      case hy2g =>
        refine Or.inl ⟨rfl, ?_⟩
        intro W hSw
        obtain ⟨⟨y1, y2, y3, y4⟩, y5, y6, y7, y8⟩ := hSw
        go_simp
        try simp
      case hS2g => assumption
      try simp only [Act.put, List.setIfInBounds_toArray, List.set_cons_zero, List.set_cons_succ]
      refine wpAnyH_take (i := 3) (oi := ?oi3g) (v := ?v3g) ?hi3g ?hs3g ?hf3g ?hr3g ?hQ3g ?hy3g ?hS3g ?h3g
      case hi3g => exact (by simp only [List.getElem?_toArray, List.getElem?_cons_succ, List.getElem?_cons_zero]; rfl)
      case hs3g => kernel_rfl
      case hf3g => kernel_rfl
      case hr3g => kernel_rfl
      case hQ3g => exact fun _ _ _ h => h
      case hy3g =>
        refine Or.inl ⟨rfl, ?_⟩
        intro W hSw
        obtain ⟨⟨y1, y2, y3, y4⟩, y5, y6, y7, y8⟩ := hSw
        go_simp
        try with_reducible rfl
      case hS3g => assumption
      try simp only [Act.put, List.setIfInBounds_toArray, List.set_cons_zero, List.set_cons_succ]
      refine wpAnyH_take (i := 4) (oi := ?oi4g) (v := ?v4g) ?hi4g ?hs4g ?hf4g ?hr4g ?hQ4g ?hy4g ?hS4g ?h4g
      case hi4g => exact (by simp only [List.getElem?_toArray, List.getElem?_cons_succ, List.getElem?_cons_zero]; rfl)
      case hs4g => kernel_rfl
      case hf4g => kernel_rfl
      case hr4g => kernel_rfl
      case hQ4g => exact fun _ _ _ h => h
      case hy4g =>
        refine Or.inl ⟨rfl, ?_⟩
        intro W hSw
        obtain ⟨⟨y1, y2, y3, y4⟩, y5, y6, y7, y8⟩ := hSw
        go_simp
        try with_reducible rfl
      case hS4g => assumption
      try simp only [Act.put, List.setIfInBounds_toArray, List.set_cons_zero, List.set_cons_succ]
      refine wpAnyH_take (i := 5) (oi := ?oi5g) (v := ?v5g) ?hi5g ?hs5g ?hf5g ?hr5g ?hQ5g ?hy5g ?hS5g ?h5g
      case hi5g => exact (by simp only [List.getElem?_toArray, List.getElem?_cons_succ, List.getElem?_cons_zero]; rfl)
      case hs5g => kernel_rfl
      case hf5g => kernel_rfl
      case hr5g => kernel_rfl
      case hQ5g => exact fun _ _ _ h => h
      case hy5g =>
        refine Or.inl ⟨rfl, ?_⟩
        intro W hSw
        obtain ⟨⟨y1, y2, y3, y4⟩, y5, y6, y7, y8⟩ := hSw
        go_simp
        try with_reducible rfl
      case hS5g => assumption
      try simp only [Act.put, List.setIfInBounds_toArray, List.set_cons_zero, List.set_cons_succ]
      refine wpAnyH_ready (rs := [6]) (by kernel_rfl) (by simp) ?_
      refine AllReadyH.cons (o := _) rfl (fun K hK => ?_) AllReadyH.nil
      go_simp
      refine ((HOWN1.out Wg0)).mono ?_
      rintro r Wg1 ⟨rfl, hbq⟩
      have HBg1 := Lib.hid (HDg.out.trans (hbq.mono HDg.out.size))
      clear hbq
      refine hK.out _ _ (HS14.out _ (HBg1.out)) (fun hHeld => ?_)
      clear hK K
      try simp only [Act.put, List.setIfInBounds_toArray, List.set_cons_zero, List.set_cons_succ]
      refine wpAnyH_take (i := 7) (oi := ?oi7g) (v := (.bool false)) ?hi7g ?hs7g ?hf7g ?hr7g ?hQ7g ?hy7g ?hS7g ?h7g
      case hi7g => exact (by simp only [List.getElem?_toArray, List.getElem?_cons_succ, List.getElem?_cons_zero]; rfl)
      case hs7g => kernel_rfl
      case hf7g => kernel_rfl
      case hr7g => kernel_rfl
      case hQ7g => exact fun _ _ _ h => h
      case hy7g =>
        refine Or.inl ⟨rfl, ?_⟩
        intro W hSw
        obtain ⟨⟨y1, y2, y3, y4⟩, y5, y6, y7, y8⟩ := hSw
        go_simp
        try simp
      case hS7g => assumption
      try simp only [Act.put, List.setIfInBounds_toArray, List.set_cons_zero, List.set_cons_succ]
      refine wpAnyH_take (i := 8) (oi := ?oi8g) (v := ?v8g) ?hi8g ?hs8g ?hf8g ?hr8g ?hQ8g ?hy8g ?hS8g ?h8g
      case hi8g => exact (by simp only [List.getElem?_toArray, List.getElem?_cons_succ, List.getElem?_cons_zero]; rfl)
      case hs8g => kernel_rfl
      case hf8g => kernel_rfl
      case hr8g => kernel_rfl
      case hQ8g => exact fun _ _ _ h => h
      case hy8g =>
        refine Or.inl ⟨rfl, ?_⟩
        intro W hSw
        obtain ⟨⟨y1, y2, y3, y4⟩, y5, y6, y7, y8⟩ := hSw
        go_simp
        try with_reducible rfl
      case hS8g => assumption
      try simp only [Act.put, List.setIfInBounds_toArray, List.set_cons_zero, List.set_cons_succ]
      refine wpAnyH_done (by kernel_rfl) ?_ _
      obtain ⟨wd, hwd⟩ : ∃ wd, wd = Wg1 := ⟨_, rfl⟩
      rw [← hwd]
      have HBD : Hid (Below v1.heap.size v1 wd) := by rw [hwd]; exact HB4.out.trans (HBg1.out.mono HB4.out.size)
      have HST : Hid (St w L M most E A m wd) := HS1.out.below HBD.out
      have HRDD : Hid (Below wd.heap.size wd wd) := Below.refl _ _
      have HXD : Hid (∀ W, Below wd.heap.size wd W → W.heap[X]? = some (.cells #[.int .u8 (d : Int), .int .u64 (n : Int), .int .u32 (o : Int), .int .u32 (a : Int), .int .i64 x, .int .i64 now] 31 (0, 0))) := fun W hW => HXW.out W (HBD.out.trans (hW.mono HBD.out.size))
      obtain ⟨e0, e1, e2, e3, e4, e5⟩ := HXC.out wd (HXD.out _ HRDD.out)
      clear hwd
      go_upto_block 2 with (fail)
      go_cut [6, 9, 10] (fun vr ve vn wx => ∃ (E2 : List Ent) (A2 : Option Addr) (m2 c2 : Nat) (er : Int), vr = .slice A2 m2 c2 ∧ ve = .int .i64 er ∧ vn = .int .i64 er ∧ Hid (St w L M most E2 A2 m2 wx))
      case first =>
        have hcs : d = 0 ∨ d = 1 ∨ d = 2 ∨ d = 3 ∨ 4 ≤ d := by omega
        rcases hcs with rfl | rfl | rfl | rfl | h5
        · obtain ⟨E2, hE2⟩ : ∃ E2, E2 = (issE most E (n, o, a, x) now).1 := ⟨_, rfl⟩
          obtain ⟨er, her⟩ : ∃ er : Int, er = (issE most E (n, o, a, x) now).2 := ⟨_, rfl⟩
          have HI : Hid (∀ W, Below wd.heap.size wd W → Calls Try.prog 15 #[gp L, eV n o a x, .int .i64 now] W fun r w' => r = .returned (.int .i64 er) ∧ Ls w' L M most E2 ∧ ChM M W w') := fun W hW => by
            rw [hE2, her]
            exact issue_ls L M most E (n, o, a, x) now W (HST.out.below hW).ls HST.out.srt HBN.out (by have h1 := HST.out.len; have h2 := HST.out.le; omega)
          have HRI : Hid (∀ W, Ds W A E → Calls Try.prog 16 #[.slice A m c, .int .i64 (max 0 conns), eV n o a x, .int .i64 now] W (RA2 E2 er W)) := fun W hW => by
            rw [hE2, her]
            exact by rw [← HMM.out]; exact rissue_any A m c most now (n, o, a, x) E W HST.out.len hW HST.out.srt (by have h1 := HST.out.len; have h2 := HST.out.le; omega)
          have HE2 : Hid (Srt E2 ∧ (E2.length : Int) ≤ 30 ∧ ∀ y ∈ E2, y.1 < 18446744073709551616) := by
            rw [hE2]
            exact ⟨iss_srt HST.out.srt, iss_le HMO.out (by have h1 := HST.out.len; have h2 := HST.out.le; omega), iss_bd HST.out.bd HBN.out⟩
          clear hE2 her
          go_upto_region 18 with (fail)
          clear e0 e1 e2 e3 e4 e5
          have HDh : Hid (Below wd.heap.size wd wd.drew) := HRDD.out.drew
          refine wp_region_held_drew (S := fun W : World => W.cell? ⟨X, 0, none⟩ = some (.int .u8 0) ∧ W.cell? ⟨X, 1, none⟩ = some (.int .u64 (n : Int)) ∧ W.cell? ⟨X, 2, none⟩ = some (.int .u32 (o : Int)) ∧ W.cell? ⟨X, 3, none⟩ = some (.int .u32 (a : Int)) ∧ W.cell? ⟨X, 4, none⟩ = some (.int .i64 x) ∧ W.cell? ⟨X, 5, none⟩ = some (.int .i64 now)) (by kernel_rfl) (HXC.out _ (HXD.out _ (HDh.out))) (fun hHeld => ?_)
          obtain ⟨Wh0, hW0⟩ : ∃ W0, W0 = wd.drew := ⟨_, rfl⟩
          rw [← hW0] at hHeld HDh ⊢
          clear hW0
          refine wpAnyH_take (i := 0) (oi := ?oi0h) (v := ?v0h) ?hi0h ?hs0h ?hf0h ?hr0h ?hQ0h ?hy0h ?hS0h ?h0h
          case hi0h => exact (by simp only [List.getElem?_toArray, List.getElem?_cons_zero]; rfl)
          case hs0h => kernel_rfl
          case hf0h => kernel_rfl
          case hr0h => kernel_rfl
          case hQ0h => exact fun _ _ _ h => h
          case hy0h =>
            refine Or.inl ⟨rfl, ?_⟩
            intro W hSw
            obtain ⟨y0, y1, y2, y3, y4, y5⟩ := hSw
            go_simp
            try with_reducible rfl
          case hS0h => assumption
          try simp only [Act.put, List.setIfInBounds_toArray, List.set_cons_zero, List.set_cons_succ]
          refine wpAnyH_take (i := 1) (oi := ?oi1h) (v := ?v1h) ?hi1h ?hs1h ?hf1h ?hr1h ?hQ1h ?hy1h ?hS1h ?h1h
          case hi1h => exact (by simp only [List.getElem?_toArray, List.getElem?_cons_succ, List.getElem?_cons_zero]; rfl)
          case hs1h => kernel_rfl
          case hf1h => kernel_rfl
          case hr1h => kernel_rfl
          case hQ1h => exact fun _ _ _ h => h
          case hy1h =>
            refine Or.inl ⟨rfl, ?_⟩
            intro W hSw
            obtain ⟨y0, y1, y2, y3, y4, y5⟩ := hSw
            go_simp
            try with_reducible rfl
          case hS1h => assumption
          try simp only [Act.put, List.setIfInBounds_toArray, List.set_cons_zero, List.set_cons_succ]
          refine wpAnyH_take (i := 2) (oi := ?oi2h) (v := ?v2h) ?hi2h ?hs2h ?hf2h ?hr2h ?hQ2h ?hy2h ?hS2h ?h2h
          case hi2h => exact (by simp only [List.getElem?_toArray, List.getElem?_cons_succ, List.getElem?_cons_zero]; rfl)
          case hs2h => kernel_rfl
          case hf2h => kernel_rfl
          case hr2h => kernel_rfl
          case hQ2h => exact fun _ _ _ h => h
          case hy2h =>
            refine Or.inl ⟨rfl, ?_⟩
            intro W hSw
            obtain ⟨y0, y1, y2, y3, y4, y5⟩ := hSw
            go_simp
            try with_reducible rfl
          case hS2h => assumption
          try simp only [Act.put, List.setIfInBounds_toArray, List.set_cons_zero, List.set_cons_succ]
          refine wpAnyH_take (i := 4) (oi := ?oi4h) (v := ?v4h) ?hi4h ?hs4h ?hf4h ?hr4h ?hQ4h ?hy4h ?hS4h ?h4h
          case hi4h => exact (by simp only [List.getElem?_toArray, List.getElem?_cons_succ, List.getElem?_cons_zero]; rfl)
          case hs4h => kernel_rfl
          case hf4h => kernel_rfl
          case hr4h => kernel_rfl
          case hQ4h => exact fun _ _ _ h => h
          case hy4h =>
            refine Or.inl ⟨rfl, ?_⟩
            intro W hSw
            obtain ⟨y0, y1, y2, y3, y4, y5⟩ := hSw
            go_simp
            try with_reducible rfl
          case hS4h => assumption
          try simp only [Act.put, List.setIfInBounds_toArray, List.set_cons_zero, List.set_cons_succ]
          refine wpAnyH_take (i := 5) (oi := ?oi5h) (v := ?v5h) ?hi5h ?hs5h ?hf5h ?hr5h ?hQ5h ?hy5h ?hS5h ?h5h
          case hi5h => exact (by simp only [List.getElem?_toArray, List.getElem?_cons_succ, List.getElem?_cons_zero]; rfl)
          case hs5h => kernel_rfl
          case hf5h => kernel_rfl
          case hr5h => kernel_rfl
          case hQ5h => exact fun _ _ _ h => h
          case hy5h =>
            refine Or.inl ⟨rfl, ?_⟩
            intro W hSw
            obtain ⟨y0, y1, y2, y3, y4, y5⟩ := hSw
            go_simp
            try with_reducible rfl
          case hS5h => assumption
          try simp only [Act.put, List.setIfInBounds_toArray, List.set_cons_zero, List.set_cons_succ]
          refine wpAnyH_ready (rs := [3]) (by kernel_rfl) (by simp) ?_
          refine AllReadyH.cons (o := _) rfl (fun K hK => ?_) AllReadyH.nil
          go_simp
          refine ((HOWN2.out Wh0)).mono ?_
          rintro r Wh1 ⟨rfl, hbq⟩
          have HBh1 := Lib.hid (HDh.out.trans (hbq.mono HDh.out.size))
          clear hbq
          refine hK.out _ _ (HXC.out _ (HXD.out _ (HBh1.out))) (fun hHeld => ?_)
          clear hK K
          try simp only [Act.put, List.setIfInBounds_toArray, List.set_cons_zero, List.set_cons_succ]
          refine wpAnyH_ready (rs := [6]) (by kernel_rfl) (by simp) ?_
          refine AllReadyH.cons (o := _) rfl (fun K hK => ?_) AllReadyH.nil
          go_simp
          refine (HI.out Wh1 HBh1.out).mono ?_
          rintro r w5 ⟨rfl, hl5, hc5⟩
          have HL5 := Lib.hid hl5
          have HC5 := Lib.hid hc5
          have HX5 : Hid (w5.heap[X]? = some (.cells #[.int .u8 0, .int .u64 (n : Int), .int .u32 (o : Int), .int .u32 (a : Int), .int .i64 x, .int .i64 now] 31 (0, 0))) := chm_cells hc5 (HST.out.below HBh1.out).ls (HXD.out _ HBh1.out)
          clear hl5 hc5
          refine hK.out _ _ (HXC.out _ HX5.out) (fun hHeld => ?_)
          clear hK K
          try simp only [Act.put, List.setIfInBounds_toArray, List.set_cons_zero, List.set_cons_succ]
          refine wpAnyH_take (i := 7) (oi := ?oi7h) (v := ?v7h) ?hi7h ?hs7h ?hf7h ?hr7h ?hQ7h ?hy7h ?hS7h ?h7h
          case hi7h => exact (by simp only [List.getElem?_toArray, List.getElem?_cons_succ, List.getElem?_cons_zero]; rfl)
          case hs7h => kernel_rfl
          case hf7h => kernel_rfl
          case hr7h => kernel_rfl
          case hQ7h => exact fun _ _ _ h => h
          case hy7h =>
            refine Or.inl ⟨rfl, ?_⟩
            intro W hSw
            obtain ⟨y0, y1, y2, y3, y4, y5⟩ := hSw
            go_simp
            try with_reducible rfl
          case hS7h => assumption
          try simp only [Act.put, List.setIfInBounds_toArray, List.set_cons_zero, List.set_cons_succ]
          refine wpAnyH_done (by kernel_rfl) ?_ _
          have HDS : Hid (Ds w5 A E) := (HST.out.below HBh1.out).mid HC5.out
          obtain ⟨u0, u1, u2, u3, u4, u5⟩ := HXC.out _ HX5.out
          go_wp2_with fail
          refine (HRI.out _ HDS.out).mono ?_
          rintro r w6 ⟨A2, m2, c2, rfl, hm2, hd2, hb2⟩
          have HFIN : Hid (St w L M most E2 A2 m2 w6) := (HST.out.below HBh1.out).act HL5.out HC5.out hd2 hb2 hm2 HE2.out.1 (by rw [hm2]; exact HE2.out.2.1) HE2.out.2.2
          clear hm2 hd2 hb2 u0 u1 u2 u3 u4 u5
          go_wp2_with fail
          go_meet
          exact ⟨E2, A2, m2, c2, er, rfl, rfl, rfl, HFIN.out⟩
        · obtain ⟨E2, hE2⟩ : ∃ E2, E2 = (speE E n o a now).1 := ⟨_, rfl⟩
          obtain ⟨er, her⟩ : ∃ er : Int, er = (speE E n o a now).2 := ⟨_, rfl⟩
          have HI : Hid (∀ W, Below wd.heap.size wd W → Calls Try.prog 17 #[gp L, .int .u64 (n : Int), .int .u32 (o : Int), .int .u32 (a : Int), .int .i64 now] W fun r w' => r = .returned (.int .i64 er) ∧ Ls w' L M most E2 ∧ ChM M W w') := fun W hW => by
            rw [hE2, her]
            exact spend_ls L M n o a most E now W (HST.out.below hW).ls HST.out.srt HBN.out
          have HRI : Hid (∀ W, Ds W A E → Calls Try.prog 18 #[.slice A m c, .int .u64 (n : Int), .int .u32 (o : Int), .int .u32 (a : Int), .int .i64 now] W (RA2 E2 er W)) := fun W hW => by
            rw [hE2, her]
            exact rspend_any A m c n o a now E W HST.out.len hW HST.out.srt (by have h1 := HST.out.len; have h2 := HST.out.le; omega)
          have HE2 : Hid (Srt E2 ∧ (E2.length : Int) ≤ 30 ∧ ∀ y ∈ E2, y.1 < 18446744073709551616) := by
            rw [hE2]
            exact ⟨spe_of Srt HST.out.srt (delE_srt HST.out.srt), spe_of (fun l => (l.length : Int) ≤ 30) (by have h1 := HST.out.len; have h2 := HST.out.le; show (E.length : Int) ≤ 30; omega) (by have h1 := HST.out.len; have h2 := HST.out.le; have h3 := delE_le n E; show ((delE n E).length : Int) ≤ 30; omega), spe_of (fun l => ∀ y ∈ l, y.1 < 18446744073709551616) HST.out.bd (fun y hy => HST.out.bd y (del_mem hy))⟩
          clear hE2 her
          go_wp2_with fail
          refine (HI.out wd HRDD.out).mono ?_
          rintro r w5 ⟨rfl, hl5, hc5⟩
          have HL5 := Lib.hid hl5
          have HC5 := Lib.hid hc5
          have HX5 : Hid (w5.heap[X]? = some (.cells #[.int .u8 1, .int .u64 (n : Int), .int .u32 (o : Int), .int .u32 (a : Int), .int .i64 x, .int .i64 now] 31 (0, 0))) := chm_cells hc5 HST.out.ls (HXD.out _ HRDD.out)
          clear hl5 hc5 e0 e1 e2 e3 e4 e5
          have HDS : Hid (Ds w5 A E) := HST.out.mid HC5.out
          obtain ⟨u0, u1, u2, u3, u4, u5⟩ := HXC.out _ HX5.out
          go_wp2_with fail
          refine (HRI.out _ HDS.out).mono ?_
          rintro r w6 ⟨A2, m2, c2, rfl, hm2, hd2, hb2⟩
          have HFIN : Hid (St w L M most E2 A2 m2 w6) := HST.out.act HL5.out HC5.out hd2 hb2 hm2 HE2.out.1 (by rw [hm2]; exact HE2.out.2.1) HE2.out.2.2
          clear hm2 hd2 hb2 u0 u1 u2 u3 u4 u5
          go_wp2_with fail
          go_meet
          exact ⟨E2, A2, m2, c2, er, rfl, rfl, rfl, HFIN.out⟩
        · cases q with
          | true =>
            have HI : Hid (Calls Try.prog 19 #[gp L, .slice (some ⟨wd.heap.size, 0, none⟩) 2 2] (wd.alloc (.cells #[.int .u64 (n : Int), .int .u64 (n : Int)] 26)) fun r w' => r = .returned (.int .i64 1) ∧ Ls w' L M most (delE n E) ∧ ChM M (wd.alloc (.cells #[.int .u64 (n : Int), .int .u64 (n : Int)] 26)) w') := by
              have hb : Below wd.heap.size wd (wd.alloc (.cells #[.int .u64 (n : Int), .int .u64 (n : Int)] 26)) := (Below.refl _ _).alloc (Nat.le_refl _) _
              have hq := heap_alloc_new wd (.cells #[.int .u64 (n : Int), .int .u64 (n : Int)] 26)
              obtain ⟨es, cl, hmap⟩ := HST.out.ls.map
              have h := revoke_ls L M wd.heap.size 0 n most E (wd.alloc (.cells #[.int .u64 (n : Int), .int .u64 (n : Int)] 26)) (HST.out.below hb).ls HST.out.srt HBN.out (by have h1 := HST.out.len; have h2 := HST.out.le; omega) (by simp) (by have := lt_of_block hmap; omega) (by simp) (by simp)
              rw [← HQ.out] at h
              exact h
            go_wp2_with fail
            refine HI.out.mono ?_
            rintro r w5 ⟨rfl, hl5, hc5⟩
            have HST1 : Hid (St w L M most E A m (wd.alloc (.cells #[.int .u64 (n : Int), .int .u64 (n : Int)] 26))) := HST.out.below ((Below.refl _ _).alloc (Nat.le_refl _) _)
            have HL5 := Lib.hid hl5
            have HC5 := Lib.hid hc5
            have HX5 : Hid (w5.heap[X]? = some (.cells #[.int .u8 2, .int .u64 (n : Int), .int .u32 (o : Int), .int .u32 (a : Int), .int .i64 x, .int .i64 now] 31 (0, 0))) := chm_cells hc5 HST1.out.ls (HXD.out _ ((Below.refl _ _).alloc (Nat.le_refl _) _))
            have HRI : Hid (Calls Try.prog 20 #[.slice A m c, .int .u64 (n : Int)] w5 fun r w' => ∃ B m' c', r = .returned (.slice B m' c') ∧ m' = (delE n E).length ∧ Ds w' B (delE n E) ∧ Below w5.heap.size w5 w') := rwithout_any A m c n E w5 HST.out.len (HST1.out.mid hc5) (by have h1 := HST.out.len; have h2 := HST.out.le; omega)
            clear hl5 hc5 e0 e1 e2 e3 e4 e5
            obtain ⟨u0, u1, u2, u3, u4, u5⟩ := HXC.out _ HX5.out
            go_wp2_with fail
            refine HRI.out.mono ?_
            rintro r w6 ⟨A2, m2, c2, rfl, hm2, hd2, hb2⟩
            have HFIN : Hid (St w L M most (delE n E) A2 m2 w6) := HST1.out.act HL5.out HC5.out hd2 hb2 hm2 (delE_srt HST.out.srt) (by have h1 := HST.out.len; have h2 := HST.out.le; have h3 := delE_le n E; omega) (fun y hy => HST.out.bd y (del_mem hy))
            clear hm2 hd2 hb2 u0 u1 u2 u3 u4 u5
            go_wp2_with fail
            go_meet
            exact ⟨_, A2, m2, c2, 0, rfl, rfl, rfl, HFIN.out⟩
          | false =>
            have HI : Hid (Calls Try.prog 19 #[gp L, .slice (some ⟨wd.heap.size, 0, none⟩) 2 2] (wd.alloc (.cells #[.int .u64 (n : Int), .int .u64 (n : Int)] 26)) fun r w' => r = .returned (.int .i64 0) ∧ Ls w' L M most (delE n E) ∧ ChM M (wd.alloc (.cells #[.int .u64 (n : Int), .int .u64 (n : Int)] 26)) w') := by
              have hb : Below wd.heap.size wd (wd.alloc (.cells #[.int .u64 (n : Int), .int .u64 (n : Int)] 26)) := (Below.refl _ _).alloc (Nat.le_refl _) _
              have hq := heap_alloc_new wd (.cells #[.int .u64 (n : Int), .int .u64 (n : Int)] 26)
              obtain ⟨es, cl, hmap⟩ := HST.out.ls.map
              have h := revoke_ls L M wd.heap.size 0 n most E (wd.alloc (.cells #[.int .u64 (n : Int), .int .u64 (n : Int)] 26)) (HST.out.below hb).ls HST.out.srt HBN.out (by have h1 := HST.out.len; have h2 := HST.out.le; omega) (by simp) (by have := lt_of_block hmap; omega) (by simp) (by simp)
              rw [← HQ.out] at h
              exact h
            go_wp2_with fail
            refine HI.out.mono ?_
            rintro r w5 ⟨rfl, hl5, hc5⟩
            have HST1 : Hid (St w L M most E A m (wd.alloc (.cells #[.int .u64 (n : Int), .int .u64 (n : Int)] 26))) := HST.out.below ((Below.refl _ _).alloc (Nat.le_refl _) _)
            have HL5 := Lib.hid hl5
            have HC5 := Lib.hid hc5
            have HX5 : Hid (w5.heap[X]? = some (.cells #[.int .u8 2, .int .u64 (n : Int), .int .u32 (o : Int), .int .u32 (a : Int), .int .i64 x, .int .i64 now] 31 (0, 0))) := chm_cells hc5 HST1.out.ls (HXD.out _ ((Below.refl _ _).alloc (Nat.le_refl _) _))
            have HRI : Hid (Calls Try.prog 20 #[.slice A m c, .int .u64 (n : Int)] w5 fun r w' => ∃ B m' c', r = .returned (.slice B m' c') ∧ m' = (delE n E).length ∧ Ds w' B (delE n E) ∧ Below w5.heap.size w5 w') := rwithout_any A m c n E w5 HST.out.len (HST1.out.mid hc5) (by have h1 := HST.out.len; have h2 := HST.out.le; omega)
            clear hl5 hc5 e0 e1 e2 e3 e4 e5
            obtain ⟨u0, u1, u2, u3, u4, u5⟩ := HXC.out _ HX5.out
            go_wp2_with fail
            refine HRI.out.mono ?_
            rintro r w6 ⟨A2, m2, c2, rfl, hm2, hd2, hb2⟩
            have HFIN : Hid (St w L M most (delE n E) A2 m2 w6) := HST1.out.act HL5.out HC5.out hd2 hb2 hm2 (delE_srt HST.out.srt) (by have h1 := HST.out.len; have h2 := HST.out.le; have h3 := delE_le n E; omega) (fun y hy => HST.out.bd y (del_mem hy))
            clear hm2 hd2 hb2 u0 u1 u2 u3 u4 u5
            go_wp2_with fail
            go_meet
            exact ⟨_, A2, m2, c2, 0, rfl, rfl, rfl, HFIN.out⟩
        · obtain ⟨m2, hm2⟩ : ∃ m2, m2 = (swE now E).length := ⟨_, rfl⟩
          have HI : Hid (Calls Try.prog 21 #[gp L, .int .i64 now] wd fun r w' => r = .returned (.int .i64 ((m : Int) - (m2 : Int))) ∧ Ls w' L M most (swE now E) ∧ ChM M wd w') := by
            rw [HST.out.len, hm2]
            exact sweep_ls L M most now E wd HST.out.ls HST.out.srt (by have h1 := HST.out.len; have h2 := HST.out.le; omega)
          have HRI : Hid (∀ W, Ds W A E → Calls Try.prog 22 #[.slice A m c, .int .i64 now] W fun r w' => ∃ B c', r = .returned (.slice B m2 c') ∧ Ds w' B (swE now E) ∧ Below W.heap.size W w') := fun W hW => (rsweep_any A m c now E W HST.out.len hW (by have h1 := HST.out.len; have h2 := HST.out.le; omega)).mono fun r w' ⟨B, m', c', h1, h2, h3, h4⟩ => ⟨B, c', by rw [hm2, ← h2]; exact h1, h3, h4⟩
          have hm3 : m2 ≤ m := by rw [hm2, HST.out.len]; exact swE_le now E
          have hm4 : m ≤ 30 := by have := HST.out.le; omega
          have HM2 := Lib.hid hm2
          clear hm2
          go_wp2_with fail
          refine HI.out.mono ?_
          rintro r w5 ⟨rfl, hl5, hc5⟩
          have HL5 := Lib.hid hl5
          have HC5 := Lib.hid hc5
          have HX5 : Hid (w5.heap[X]? = some (.cells #[.int .u8 3, .int .u64 (n : Int), .int .u32 (o : Int), .int .u32 (a : Int), .int .i64 x, .int .i64 now] 31 (0, 0))) := chm_cells hc5 HST.out.ls (HXD.out _ HRDD.out)
          have HDS : Hid (Ds w5 A E) := HST.out.mid hc5
          clear hl5 hc5 e0 e1 e2 e3 e4 e5
          obtain ⟨u0, u1, u2, u3, u4, u5⟩ := HXC.out _ HX5.out
          go_wp2_with fail
          refine (HRI.out _ HDS.out).mono ?_
          rintro r w6 ⟨A2, c2, rfl, hd2, hb2⟩
          have HFIN : Hid (St w L M most (swE now E) A2 m2 w6) := HST.out.act HL5.out HC5.out hd2 hb2 HM2.out (swE_srt HST.out.srt) (by have h2 := HST.out.le; omega) (fun y hy => HST.out.bd y (sw_mem hy))
          clear hd2 hb2 u0 u1 u2 u3 u4 u5
          go_wp2_with fail
          go_meet
          exact ⟨_, A2, m2, c2, 0, rfl, rfl, rfl, HFIN.out⟩
        · have n0 : ¬ d = 0 := by omega
          have n1 : ¬ d = 1 := by omega
          have n2 : ¬ d = 2 := by omega
          have n3 : ¬ d = 3 := by omega
          go_wp2_with fail
          go_meet
          exact ⟨E, A, m, c, 0, rfl, rfl, rfl, HST.out⟩
      case rest =>
        clear e0 e1 e2 e3 e4 e5
        obtain ⟨E2, A2, m2, c2, er, rfl, rfl, rfl, HF⟩ := hcut
        have HLK := Lib.hid (like_any L M most E2 A2 m2 c2 wc HF.out.ls HF.out.srt HF.out.len HF.out.ds (by have := HF.out.le; omega) HF.out.bd)
        go_wp2_with fail
        refine HLK.out.mono ?_
        rintro r w9 ⟨rfl, hb9⟩
        have HF9 := Lib.hid (HF.out.below hb9)
        clear hb9
        go_wp2_with fail
        go_roundw
        case rel => exact ⟨k + 1, E2, A2, m2, c2, by omega, rfl, by go_num, HF9.out⟩
        case measure => simp [intOf] <;> omega
    · obtain rfl : k = nn := by omega
      have HBF := Lib.hid HS0.out.bel
      go_wp2_with fail
      refine (HAW.out wr).mono ?_
      rintro r w9 ⟨rfl, hb⟩
      have HB9 := Lib.hid (HBF.out.trans (hb.mono HBF.out.size))
      clear hb
      go_wp2
      go_ret
      exact ⟨rfl, HB9.out⟩
theorem runs_all (conns : Int) (A0 : Option Addr) (c0 : Nat) (l : List Ac) (w : World) (hc : -9223372036854775808 ≤ conns ∧ conns ≤ 9223372036854775807) (hA : As w w.heap.size A0 l) (hl : l.length ≤ 9223372036854775807) (hR : ∀ e ∈ l, Ra e) :
    Calls Try.prog 3 #[.int .i64 conns, .slice A0 l.length c0] w fun r w' => r = .returned (.bool true) ∧ Below w.heap.size w w' := runs_walk conns A0 c0 l w hA hl hR hc
end Go.Proofs.Yticegnbdpihdpaa
