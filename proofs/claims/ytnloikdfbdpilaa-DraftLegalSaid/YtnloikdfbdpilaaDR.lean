/- Draft: DraftWaits' walk. -/
import Derived.Test.YtnloikdfbdpilaaDQ
namespace Go.Proofs.Ytnloikdfbdpilaa
open Go.RowKit
set_option maxRecDepth 20000
set_option linter.unusedVariables false

theorem find_sizes {m : Mo} {now : Int} {l : List Tk} {r : List Int × List Int} (h : findP m now l = some r) : r.1.length ≤ 16 ∧ r.2.length ≤ 16 := by
  obtain ⟨_, hl, s, _, hs, _, hp⟩ := find_get h
  obtain ⟨A, B⟩ := r
  obtain ⟨way, _, _, rfl, rfl⟩ := part_get hp
  have h1 := hs.length_le
  rw [entsP_len] at h1
  have h2 := sA_len way s.length s
  have h3 := sB_len way s.length s
  simp only [List.length_map]
  omega
theorem find_all {m : Mo} {now : Int} {l : List Tk} {r : List Int × List Int} {s : List En} (hs : s.Sublist (entsP m now l)) (hp : partP m.k s = some r) (hl : l.length ≤ 16) : allP r.1 r.2 16 = s.map (·.p) := by
  refine all_places (A := r.1) (B := r.2) hp ((ents_up m now l).sublist hs) fun e he => ?_
  obtain ⟨i, t, hi, rfl⟩ := ents_mem (hs.subset he)
  have := (List.getElem?_eq_some_iff.1 hi).1
  show (0 : Int) ≤ (i : Int) ∧ (i : Int) < 16
  omega

set_option linter.unusedSimpArgs false in
set_option maxHeartbeats 16000000 in
theorem waits_walk (m : Mo) (x y : Int) (A : Option Addr) (c : Nat) (l : List Tk) (w : World) (hx : In64 x) (hy : In64 y) (hE : Tr w w.heap.size A l) (hl : l.length ≤ 9223372036854775807) (hs : ∀ t ∈ l, In64 t.r ∧ In64 t.s) :
    Calls Try.prog 8 #[m.v, .agg #[.int .i64 x, .int .i64 y], .slice A l.length c] w fun r w' => r = .returned (.bool true) ∧ Below w.heap.size w w' := by
  obtain ⟨w0, hw0⟩ : ∃ w0, w0 = (w.alloc (.cells m.cells 23)).alloc (.cells #[.int .i64 x, .int .i64 y] 58) := ⟨_, rfl⟩
  have hb0 : Below w.heap.size w w0 := by rw [hw0]; exact ((Below.refl _ _).alloc (Nat.le_refl _) _).alloc (by simp) _
  have hq0 : w0.heap[w.heap.size]? = some (.cells m.cells 23 (0, 0)) := by rw [hw0]; exact (Below.heap_alloc _ _ _ (by simp)).trans (heap_alloc_new w _)
  have hr0 : w0.heap[w.heap.size + 1]? = some (.cells #[.int .i64 x, .int .i64 y] 58 (0, 0)) := by
    have := heap_alloc_new (w.alloc (.cells m.cells 23)) (.cells #[.int .i64 x, .int .i64 y] 58)
    rw [World.size_alloc] at this
    rw [hw0]; exact this
  have HCE : Hid (∀ W, Below w0.heap.size w0 W → W.cell? ⟨w.heap.size, 0, none⟩ = some (.int .i64 m.k) ∧ W.cell? ⟨w.heap.size, 1, none⟩ = some (.int .i64 m.b) ∧ W.cell? ⟨w.heap.size, 2, none⟩ = some (.int .i64 m.s) ∧ W.cell? ⟨w.heap.size, 3, none⟩ = some (.int .i64 m.c) ∧ W.cell? ⟨w.heap.size, 4, none⟩ = some (.int .i64 m.e)) := fun W hW => by
    have e2 := (hW.block _ (lt_of_block hq0)).trans hq0
    exact ⟨cell_of_row W _ 0 _ _ _ e2, cell_of_row W _ 1 _ _ _ e2, cell_of_row W _ 2 _ _ _ e2, cell_of_row W _ 3 _ _ _ e2, cell_of_row W _ 4 _ _ _ e2⟩
  have HCX : Hid (∀ W, Below w0.heap.size w0 W → W.cell? ⟨w.heap.size + 1, 0, none⟩ = some (.int .i64 x) ∧ W.cell? ⟨w.heap.size + 1, 1, none⟩ = some (.int .i64 y)) := fun W hW => by
    have e2 := (hW.block _ (lt_of_block hr0)).trans hr0
    exact ⟨cell_of_row W _ 0 _ _ _ e2, cell_of_row W _ 1 _ _ _ e2⟩
  obtain ⟨n, hn⟩ : ∃ n, n = l.length := ⟨_, rfl⟩
  have HE0 := Lib.hid (hE.later hb0 (Nat.le_refl _))
  have H0 := Lib.hid hw0
  have HB0 := Lib.hid hb0
  have HN := Lib.hid hn
  have HS := Lib.hid hs
  have HAW : Hid (∀ W, Calls Try.prog 16 #[] W fun r w' => r = .returned (.bool true) ∧ Below W.heap.size W w') := fun W => dawake W
  have HMO : Hid (∀ W, Calls Try.prog 13 #[m.v] W fun r w' => r = .returned m.v ∧ Below W.heap.size W w') := fun W => mo_any m W
  obtain ⟨a, ha⟩ : ∃ a, a = min x y := ⟨_, rfl⟩
  obtain ⟨b, hb⟩ : ∃ b, b = max x y := ⟨_, rfl⟩
  have HMN : Hid ((if y < x then y else x) = a) := by simp only [Hid]; rw [ha]; split <;> omega
  have HMX : Hid ((if x < y then y else x) = b) := by simp only [Hid]; rw [hb]; split <;> omega
  have HAB : Hid (a ≤ b ∧ In64 a ∧ In64 b) := by
    unfold In64 at hx hy
    simp only [Hid, In64]
    omega
  rw [← hn] at hl ⊢
  clear hw0 hb0 hq0 hr0 hn hE hs hx hy ha hb
  by_cases h20 : 10 < n
  · go_enter Try.func8, Try.ntmps8
    go_upto_region 1 with (fail)
    rw [← H0.out]
    go_wp2
    go_ret
    exact ⟨rfl, HB0.out⟩
  · have HSM := Lib.hid (small_any A n c l w0 HN.out HE0.out.ts (by omega))
    go_enter Try.func8, Try.ntmps8
    go_upto_region 1 with (fail)
    rw [← H0.out]
    go_wp2_with fail
    refine HSM.out.mono ?_
    rintro r w' ⟨⟨t, rfl, ht⟩, rfl⟩
    cases t
    · clear ht
      go_wp2
      go_ret
      exact ⟨rfl, HB0.out⟩
    · have HSN : Hid (Sm l) := fun t h => ⟨ht.1 rfl t h, (HS.out t h).2⟩
      have HOW : Hid (∀ W, Below w'.heap.size w' W → Calls Try.prog 14 #[.slice A n c] W fun r w' => (∃ A' c', r = .returned (.slice A' n c') ∧ Ts w' w'.heap.size A' l) ∧ Below W.heap.size W w') := fun W hW => own_any A n c l W HN.out (HE0.out.later hW (Nat.le_refl _)) (by omega) (fun t h => (HSN.out t h).1)
      have HBS : Hid (Below w'.heap.size w' w') := Below.refl _ _
      clear ht
      go_upto_region 3 with (fail)
      have HDp : Hid (Below w'.heap.size w' w'.drew) := HBS.out.drew
      refine wp_region_held_drew (S := fun W : World => W.cell? ⟨w.heap.size + 1, 0, none⟩ = some (.int .i64 x) ∧ W.cell? ⟨w.heap.size + 1, 1, none⟩ = some (.int .i64 y)) (by kernel_rfl) (HCX.out _ HDp.out) (fun hHeld => ?_)
      obtain ⟨Wp0, hW0⟩ : ∃ W0, W0 = w'.drew := ⟨_, rfl⟩
      rw [← hW0] at hHeld HDp ⊢
      clear hW0
      refine wpAnyH_take (i := 0) (oi := ?oi0p) (v := ?v0p) ?hi0p ?hs0p ?hf0p ?hr0p ?hQ0p ?hy0p ?hS0p ?h0p
      case hi0p => exact (by simp only [List.getElem?_toArray, List.getElem?_cons_zero]; rfl)
      case hs0p => kernel_rfl
      case hf0p => kernel_rfl
      case hr0p => kernel_rfl
      case hQ0p => exact fun _ _ _ h => h
      case hy0p =>
        refine Or.inl ⟨rfl, ?_⟩
        intro W hSw
        obtain ⟨y0, y1⟩ := hSw
        go_simp
        try with_reducible rfl
      case hS0p => assumption
      try simp only [Act.put, List.setIfInBounds_toArray, List.set_cons_zero, List.set_cons_succ]
      refine wpAnyH_take (i := 1) (oi := ?oi1p) (v := ?v1p) ?hi1p ?hs1p ?hf1p ?hr1p ?hQ1p ?hy1p ?hS1p ?h1p
      case hi1p => exact (by simp only [List.getElem?_toArray, List.getElem?_cons_succ, List.getElem?_cons_zero]; rfl)
      case hs1p => kernel_rfl
      case hf1p => kernel_rfl
      case hr1p => kernel_rfl
      case hQ1p => exact fun _ _ _ h => h
      case hy1p =>
        refine Or.inl ⟨rfl, ?_⟩
        intro W hSw
        obtain ⟨y0, y1⟩ := hSw
        go_simp
        try with_reducible rfl
      case hS1p => assumption
      try simp only [Act.put, List.setIfInBounds_toArray, List.set_cons_zero, List.set_cons_succ]
      refine wpAnyH_take (i := 2) (oi := ?oi2p) (v := ?v2p) ?hi2p ?hs2p ?hf2p ?hr2p ?hQ2p ?hy2p ?hS2p ?h2p
      case hi2p => exact (by simp only [List.getElem?_toArray, List.getElem?_cons_succ, List.getElem?_cons_zero]; rfl)
      case hs2p => kernel_rfl
      case hf2p => kernel_rfl
      case hr2p => kernel_rfl
      case hQ2p => exact fun _ _ _ h => h
      case hy2p =>
        refine Or.inl ⟨rfl, ?_⟩
        intro W hSw
        obtain ⟨y0, y1⟩ := hSw
        go_simp
        try with_reducible rfl
      case hS2p => assumption
      try simp only [Act.put, List.setIfInBounds_toArray, List.set_cons_zero, List.set_cons_succ]
      refine wpAnyH_take (i := 3) (oi := ?oi3p) (v := ?v3p) ?hi3p ?hs3p ?hf3p ?hr3p ?hQ3p ?hy3p ?hS3p ?h3p
      case hi3p => exact (by simp only [List.getElem?_toArray, List.getElem?_cons_succ, List.getElem?_cons_zero]; rfl)
      case hs3p => kernel_rfl
      case hf3p => kernel_rfl
      case hr3p => kernel_rfl
      case hQ3p => exact fun _ _ _ h => h
      case hy3p =>
        refine Or.inl ⟨rfl, ?_⟩
        intro W hSw
        obtain ⟨y0, y1⟩ := hSw
        go_simp
        try with_reducible rfl
      case hS3p => assumption
      try simp only [Act.put, List.setIfInBounds_toArray, List.set_cons_zero, List.set_cons_succ]
      refine wpAnyH_take (i := 4) (oi := ?oi4p) (v := (.int .i64 a)) ?hi4p ?hs4p ?hf4p ?hr4p ?hQ4p ?hy4p ?hS4p ?h4p
      case hi4p => exact (by simp only [List.getElem?_toArray, List.getElem?_cons_succ, List.getElem?_cons_zero]; rfl)
      case hs4p => kernel_rfl
      case hf4p => kernel_rfl
      case hr4p => kernel_rfl
      case hQ4p => exact fun _ _ _ h => h
      case hy4p =>
        refine Or.inl ⟨rfl, ?_⟩
        intro W hSw
        obtain ⟨y0, y1⟩ := hSw
        have z1 := HMN.out
        go_simp
        all_goals first | with_reducible rfl | (simp; done) | (simp; omega) | omega
      case hS4p => assumption
      try simp only [Act.put, List.setIfInBounds_toArray, List.set_cons_zero, List.set_cons_succ]
      refine wpAnyH_take (i := 5) (oi := ?oi5p) (v := ?v5p) ?hi5p ?hs5p ?hf5p ?hr5p ?hQ5p ?hy5p ?hS5p ?h5p
      case hi5p => exact (by simp only [List.getElem?_toArray, List.getElem?_cons_succ, List.getElem?_cons_zero]; rfl)
      case hs5p => kernel_rfl
      case hf5p => kernel_rfl
      case hr5p => kernel_rfl
      case hQ5p => exact fun _ _ _ h => h
      case hy5p =>
        refine Or.inl ⟨rfl, ?_⟩
        intro W hSw
        obtain ⟨y0, y1⟩ := hSw
        go_simp
        try with_reducible rfl
      case hS5p => assumption
      try simp only [Act.put, List.setIfInBounds_toArray, List.set_cons_zero, List.set_cons_succ]
      refine wpAnyH_take (i := 6) (oi := ?oi6p) (v := ?v6p) ?hi6p ?hs6p ?hf6p ?hr6p ?hQ6p ?hy6p ?hS6p ?h6p
      case hi6p => exact (by simp only [List.getElem?_toArray, List.getElem?_cons_succ, List.getElem?_cons_zero]; rfl)
      case hs6p => kernel_rfl
      case hf6p => kernel_rfl
      case hr6p => kernel_rfl
      case hQ6p => exact fun _ _ _ h => h
      case hy6p =>
        refine Or.inl ⟨rfl, ?_⟩
        intro W hSw
        obtain ⟨y0, y1⟩ := hSw
        go_simp
        try with_reducible rfl
      case hS6p => assumption
      try simp only [Act.put, List.setIfInBounds_toArray, List.set_cons_zero, List.set_cons_succ]
      refine wpAnyH_take (i := 7) (oi := ?oi7p) (v := ?v7p) ?hi7p ?hs7p ?hf7p ?hr7p ?hQ7p ?hy7p ?hS7p ?h7p
      case hi7p => exact (by simp only [List.getElem?_toArray, List.getElem?_cons_succ, List.getElem?_cons_zero]; rfl)
      case hs7p => kernel_rfl
      case hf7p => kernel_rfl
      case hr7p => kernel_rfl
      case hQ7p => exact fun _ _ _ h => h
      case hy7p =>
        refine Or.inl ⟨rfl, ?_⟩
        intro W hSw
        obtain ⟨y0, y1⟩ := hSw
        go_simp
        try with_reducible rfl
      case hS7p => assumption
      try simp only [Act.put, List.setIfInBounds_toArray, List.set_cons_zero, List.set_cons_succ]
      refine wpAnyH_take (i := 8) (oi := ?oi8p) (v := ?v8p) ?hi8p ?hs8p ?hf8p ?hr8p ?hQ8p ?hy8p ?hS8p ?h8p
      case hi8p => exact (by simp only [List.getElem?_toArray, List.getElem?_cons_succ, List.getElem?_cons_zero]; rfl)
      case hs8p => kernel_rfl
      case hf8p => kernel_rfl
      case hr8p => kernel_rfl
      case hQ8p => exact fun _ _ _ h => h
      case hy8p =>
        refine Or.inl ⟨rfl, ?_⟩
        intro W hSw
        obtain ⟨y0, y1⟩ := hSw
        go_simp
        try with_reducible rfl
      case hS8p => assumption
      try simp only [Act.put, List.setIfInBounds_toArray, List.set_cons_zero, List.set_cons_succ]
      refine wpAnyH_take (i := 9) (oi := ?oi9p) (v := (.int .i64 b)) ?hi9p ?hs9p ?hf9p ?hr9p ?hQ9p ?hy9p ?hS9p ?h9p
      case hi9p => exact (by simp only [List.getElem?_toArray, List.getElem?_cons_succ, List.getElem?_cons_zero]; rfl)
      case hs9p => kernel_rfl
      case hf9p => kernel_rfl
      case hr9p => kernel_rfl
      case hQ9p => exact fun _ _ _ h => h
      case hy9p =>
        refine Or.inl ⟨rfl, ?_⟩
        intro W hSw
        obtain ⟨y0, y1⟩ := hSw
        have z1 := HMX.out
        go_simp
        all_goals first | with_reducible rfl | (simp; done) | (simp; omega) | omega
      case hS9p => assumption
      try simp only [Act.put, List.setIfInBounds_toArray, List.set_cons_zero, List.set_cons_succ]
      refine wpAnyH_take (i := 10) (oi := ?oi10p) (v := ?v10p) ?hi10p ?hs10p ?hf10p ?hr10p ?hQ10p ?hy10p ?hS10p ?h10p
      case hi10p => exact (by simp only [List.getElem?_toArray, List.getElem?_cons_succ, List.getElem?_cons_zero]; rfl)
      case hs10p => kernel_rfl
      case hf10p => kernel_rfl
      case hr10p => kernel_rfl
      case hQ10p => exact fun _ _ _ h => h
      case hy10p =>
        refine Or.inl ⟨rfl, ?_⟩
        intro W hSw
        obtain ⟨y0, y1⟩ := hSw
        go_simp
        try with_reducible rfl
      case hS10p => assumption
      try simp only [Act.put, List.setIfInBounds_toArray, List.set_cons_zero, List.set_cons_succ]
      refine wpAnyH_take (i := 11) (oi := ?oi11p) (v := ?v11p) ?hi11p ?hs11p ?hf11p ?hr11p ?hQ11p ?hy11p ?hS11p ?h11p
      case hi11p => exact (by simp only [List.getElem?_toArray, List.getElem?_cons_succ, List.getElem?_cons_zero]; rfl)
      case hs11p => kernel_rfl
      case hf11p => kernel_rfl
      case hr11p => kernel_rfl
      case hQ11p => exact fun _ _ _ h => h
      case hy11p =>
        refine Or.inl ⟨rfl, ?_⟩
        intro W hSw
        obtain ⟨y0, y1⟩ := hSw
        go_simp
        try with_reducible rfl
      case hS11p => assumption
      try simp only [Act.put, List.setIfInBounds_toArray, List.set_cons_zero, List.set_cons_succ]
      refine wpAnyH_done (by kernel_rfl) ?_ _
      go_wp2_with fail
      refine (HOW.out _ HDp.out).mono ?_
      rintro r w2 ⟨⟨A9, c9, rfl, hts⟩, hb⟩
      have HTS := Lib.hid hts
      have HB2 : Hid (Below w'.heap.size w' w2) := HDp.out.trans (hb.mono HDp.out.size)
      clear hts hb HOW HSM
      have HBW : Hid (∀ W, Below w2.heap.size w2 W → Below w'.heap.size w' W) := fun W hW => HB2.out.trans (hW.mono HB2.out.size)
      have HRW : Hid (∀ W, Below w2.heap.size w2 W → Below w.heap.size w W) := fun W hW => HB0.out.trans ((HBW.out W hW).mono HB0.out.size)
      have HB22 : Hid (Below w2.heap.size w2 w2) := Below.refl _ _
      have HFI : Hid (∀ (now : Int) W, In64 now → Below w2.heap.size w2 W → Calls Try.prog 12 #[m.v, .int .i64 now, .slice A9 n c9] W fun r w' => (∃ t : Bool, r = .returned (.bool t) ∧ (t = true ↔ m.wr = [] ∧ Fit (entsP m now l))) ∧ Below W.heap.size W w') := fun now W h hW => fits_any m now A9 n c9 l W HN.out (HTS.out.later hW (Nat.le_refl _)) (by omega) h HSN.out
      have HFD : Hid (∀ (now : Int) W, In64 now → Below w2.heap.size w2 W → Calls Try.prog 20 #[m.v, .int .i64 now, .slice A9 n c9] W fun r w' => (∃ v, r = .returned v ∧ Spl w' W.heap.size v (findP m now l)) ∧ Below W.heap.size W w') := fun now W h hW => find_any m now A9 n c9 l W HN.out (HTS.out.later hW (Nat.le_refl _)) (by omega) h HSN.out
      obtain ⟨z0, z1, z2, z3, z4⟩ := HCE.out w2 (HBW.out w2 HB22.out)
      go_wp2_with fail
      refine (HMO.out _).mono ?_
      rintro r w3 ⟨rfl, hb⟩
      have HB3 := Lib.hid (HB22.out.trans (hb.mono HB22.out.size))
      clear hb z0 z1 z2 z3 z4
      go_wp2_with fail
      refine (HFI.out a w3 HAB.out.2.1 HB3.out).mono ?_
      rintro r w4 ⟨⟨t, rfl, ht⟩, hb⟩
      have HB4 := Lib.hid (HB3.out.trans (hb.mono HB3.out.size))
      have HT1 := Lib.hid ht
      clear hb ht
      cases t
      · obtain ⟨z0, z1, z2, z3, z4⟩ := HCE.out w4 (HBW.out w4 HB4.out)
        go_wp2_with fail
        refine (HMO.out _).mono ?_
        rintro r w7 ⟨rfl, hb⟩
        have HB7 := Lib.hid (HB4.out.trans (hb.mono HB4.out.size))
        clear hb z0 z1 z2 z3 z4
        go_wp2_with fail
        refine (HFD.out a w7 HAB.out.2.1 HB7.out).mono ?_
        rintro r w8 ⟨⟨v, rfl, hS⟩, hb⟩
        have HB8 := Lib.hid (HB7.out.trans (hb.mono HB7.out.size))
        clear hb
        obtain ⟨o, ho⟩ : ∃ o, o = findP m a l := ⟨_, rfl⟩
        rw [← ho] at hS
        have HO := Lib.hid ho
        obtain ⟨A1, c1, A2, c2, rfl, hz1, hz2⟩ := hS.form
        have HZ1 := Lib.hid hz1
        have HZ2 := Lib.hid hz2
        obtain ⟨n1, hn1⟩ : ∃ n1, n1 = (o.getD ([], [])).1.length := ⟨_, rfl⟩
        obtain ⟨n2, hn2⟩ : ∃ n2, n2 = (o.getD ([], [])).2.length := ⟨_, rfl⟩
        rw [← hn1, ← hn2]
        have HN1 := Lib.hid hn1
        have HN2 := Lib.hid hn2
        obtain ⟨i1, hi1⟩ : ∃ i1, i1 = o.isSome := ⟨_, rfl⟩
        rw [← hi1]
        obtain ⟨w9, hw9⟩ : ∃ w9, w9 = w8.alloc (.cells #[.slice A1 n1 c1, .slice A2 n2 c2] 40) := ⟨_, rfl⟩
        obtain ⟨P, hP⟩ : ∃ P, P = w8.heap.size := ⟨_, rfl⟩
        have hq9 : w9.heap[P]? = some (.cells #[.slice A1 n1 c1, .slice A2 n2 c2] 40 (0, 0)) := by rw [hw9, hP]; exact heap_alloc_new w8 _
        have hb9 : Below w8.heap.size w8 w9 := by rw [hw9]; exact (Below.refl _ _).alloc (Nat.le_refl _) _
        have HB9 := Lib.hid (HB8.out.trans (hb9.mono HB8.out.size))
        have HB89 := Lib.hid hb9
        have HQ9 := Lib.hid hq9
        have H9 := Lib.hid hw9
        have HPE := Lib.hid hP
        clear ho hS hz1 hz2 hn1 hn2 hw9 hP hq9 hb9
        go_upto_region 8 with (fail)
        rw [← H9.out]
        rw [← HPE.out]
        obtain ⟨z0, z1, z2, z3, z4⟩ := HCE.out w9 (HBW.out w9 HB9.out)
        go_wp2_with fail
        refine (HMO.out _).mono ?_
        rintro r w10 ⟨rfl, hb⟩
        have HBM : Hid (Below w9.heap.size w9 w10) := hb
        have HB10 := Lib.hid (HB9.out.trans (hb.mono HB9.out.size))
        clear hb z0 z1 z2 z3 z4
        go_wp2_with fail
        refine (HFD.out b w10 HAB.out.2.2 HB10.out).mono ?_
        rintro r w11 ⟨⟨v, rfl, hS⟩, hb⟩
        have HB11 := Lib.hid (HB10.out.trans (hb.mono HB10.out.size))
        have HB911 : Hid (Below w9.heap.size w9 w11) := HBM.out.trans (hb.mono HBM.out.size)
        clear hb
        obtain ⟨o2, ho2⟩ : ∃ o2, o2 = findP m b l := ⟨_, rfl⟩
        rw [← ho2] at hS
        have HO2 := Lib.hid ho2
        obtain ⟨A3, c3, A4, c4, rfl, hz3, hz4⟩ := hS.form
        have HZ3 := Lib.hid hz3
        have HZ4 := Lib.hid hz4
        obtain ⟨n3, hn3⟩ : ∃ n3, n3 = (o2.getD ([], [])).1.length := ⟨_, rfl⟩
        obtain ⟨n4, hn4⟩ : ∃ n4, n4 = (o2.getD ([], [])).2.length := ⟨_, rfl⟩
        rw [← hn3, ← hn4]
        have HN3 := Lib.hid hn3
        have HN4 := Lib.hid hn4
        obtain ⟨i2, hi2⟩ : ∃ i2, i2 = o2.isSome := ⟨_, rfl⟩
        rw [← hi2]
        obtain ⟨w12, hw12⟩ : ∃ w12, w12 = w11.alloc (.cells #[.slice A3 n3 c3, .slice A4 n4 c4] 40) := ⟨_, rfl⟩
        obtain ⟨Q, hQ⟩ : ∃ Q, Q = w11.heap.size := ⟨_, rfl⟩
        have hq12 : w12.heap[Q]? = some (.cells #[.slice A3 n3 c3, .slice A4 n4 c4] 40 (0, 0)) := by rw [hw12, hQ]; exact heap_alloc_new w11 _
        have hb12 : Below w11.heap.size w11 w12 := by rw [hw12]; exact (Below.refl _ _).alloc (Nat.le_refl _) _
        have HB12 := Lib.hid (HB11.out.trans (hb12.mono HB11.out.size))
        have hp12 : w12.heap[P]? = some (.cells #[.slice A1 n1 c1, .slice A2 n2 c2] 40 (0, 0)) := ((HB911.out.trans (hb12.mono HB911.out.size)).block _ (lt_of_block HQ9.out)).trans HQ9.out
        have HB812 : Hid (Below w8.heap.size w8 w12) := HB89.out.trans ((HB911.out.trans (hb12.mono HB911.out.size)).mono HB89.out.size)
        have HB1112 := Lib.hid hb12
        have HCS : Hid (∀ W, Below w12.heap.size w12 W → W.cell? ⟨P, 0, none⟩ = some (.slice A1 n1 c1) ∧ W.cell? ⟨P, 1, none⟩ = some (.slice A2 n2 c2) ∧ W.cell? ⟨Q, 0, none⟩ = some (.slice A3 n3 c3) ∧ W.cell? ⟨Q, 1, none⟩ = some (.slice A4 n4 c4)) := fun W hW => by
          have e1 := (hW.block _ (lt_of_block hp12)).trans hp12
          have e2 := (hW.block _ (lt_of_block hq12)).trans hq12
          exact ⟨cell_of_row W _ 0 _ _ _ e1, cell_of_row W _ 1 _ _ _ e1, cell_of_row W _ 0 _ _ _ e2, cell_of_row W _ 1 _ _ _ e2⟩
        have H12 := Lib.hid hw12
        have HQE := Lib.hid hQ
        clear ho2 hS hz3 hz4 hn3 hn4 hw12 hQ hq12 hb12 hp12
        go_upto_region 9 with (fail)
        rw [← H12.out]
        rw [← HQE.out]
        cases o with
        | none =>
          have e1 : i1 = false := hi1
          subst e1
          clear hi1
          go_wp2_with fail
          refine (HAW.out _).mono ?_
          rintro r w13 ⟨rfl, hb⟩
          go_wp2
          go_ret
          exact ⟨rfl, HRW.out _ (HB12.out.trans (hb.mono HB12.out.size))⟩
        | some q =>
          have e1 : i1 = true := hi1
          subst e1
          clear hi1
          obtain ⟨s, s', q', hf2, ⟨hs1, hs2⟩, ⟨hs3, hs4⟩, hah⟩ := waits_facts m a b HAB.out.1 l q HO.out.symm
          have e2 : o2 = some q' := HO2.out.trans hf2
          subst e2
          have e3 : i2 = true := hi2
          subst e3
          clear hi2
          have hln : l.length ≤ 16 := by have := HN.out; omega
          have HX1 := Lib.hid (find_all hs1 hs2 hln)
          have HX2 := Lib.hid (find_all hs3 hs4 hln)
          have hz1 := find_sizes HO.out.symm
          have hz2 := find_sizes hf2
          have HAH : Hid (aheadP (allP q.1 q.2 16) (allP q'.1 q'.2 16) = false) := by simp only [Hid]; rw [HX1.out, HX2.out]; exact hah
          simp only [Option.getD_some] at HZ1 HZ2 HZ3 HZ4 HN1 HN2 HN3 HN4
          have HL1 : Hid (∀ W, Below w12.heap.size w12 W → Calls Try.prog 25 #[.agg #[.slice A1 n1 c1, .slice A2 n2 c2]] W fun r w' => (∃ A' c', r = .returned (.slice A' (allP q.1 q.2 16).length c') ∧ Zs w' w'.heap.size A' (allP q.1 q.2 16)) ∧ Below W.heap.size W w') := fun W hW =>
            all_any A1 A2 n1 c1 n2 c2 q.1 q.2 W HN1.out HN2.out (HZ1.out.later (HB812.out.trans (hW.mono HB812.out.size)) (Nat.le_refl _)) (HZ2.out.later (HB812.out.trans (hW.mono HB812.out.size)) (Nat.le_refl _)) (by rw [HN1.out]; exact hz1.1) (by rw [HN2.out]; exact hz1.2)
          have HL2 : Hid (∀ W, Below w12.heap.size w12 W → Calls Try.prog 25 #[.agg #[.slice A3 n3 c3, .slice A4 n4 c4]] W fun r w' => (∃ A' c', r = .returned (.slice A' (allP q'.1 q'.2 16).length c') ∧ Zs w' w'.heap.size A' (allP q'.1 q'.2 16)) ∧ Below W.heap.size W w') := fun W hW =>
            all_any A3 A4 n3 c3 n4 c4 q'.1 q'.2 W HN3.out HN4.out (HZ3.out.later (HB1112.out.trans (hW.mono HB1112.out.size)) (Nat.le_refl _)) (HZ4.out.later (HB1112.out.trans (hW.mono HB1112.out.size)) (Nat.le_refl _)) (by rw [HN3.out]; exact hz2.1) (by rw [HN4.out]; exact hz2.2)
          have hle1 : (allP q.1 q.2 16).length ≤ 1000 := by have := allP_len q.1 q.2 16; have h1 := hz1.1; have h2 := hz1.2; omega
          have hle2 : (allP q'.1 q'.2 16).length ≤ 1000 := by have := allP_len q'.1 q'.2 16; have h1 := hz2.1; have h2 := hz2.2; omega
          obtain ⟨X, hX⟩ : ∃ X, X = allP q.1 q.2 16 := ⟨_, rfl⟩
          obtain ⟨Y, hY⟩ : ∃ Y, Y = allP q'.1 q'.2 16 := ⟨_, rfl⟩
          rw [← hX] at HAH HL1 hle1
          rw [← hY] at HAH HL2 hle2
          have HBT : Hid (Below w12.heap.size w12 w12) := Below.refl _ _
          clear hX hY hf2 hs1 hs2 hs3 hs4 hah hln hz1 hz2 HX1 HX2 HZ1 HZ2 HZ3 HZ4 HN1 HN2 HN3 HN4 HO HO2
          obtain ⟨nX, hnX⟩ : ∃ nX, nX = X.length := ⟨_, rfl⟩
          obtain ⟨nY, hnY⟩ : ∃ nY, nY = Y.length := ⟨_, rfl⟩
          rw [← hnX] at HL1 hle1
          rw [← hnY] at HL2 hle2
          have HNX := Lib.hid hnX
          have HNY := Lib.hid hnY
          clear hnX hnY
          go_upto_region 11 with (fail)
          have HDq : Hid (Below w12.heap.size w12 w12.drew) := HBT.out.drew
          refine wp_region_held_drew (S := fun W : World => W.cell? ⟨P, 0, none⟩ = some (.slice A1 n1 c1) ∧ W.cell? ⟨P, 1, none⟩ = some (.slice A2 n2 c2) ∧ W.cell? ⟨Q, 0, none⟩ = some (.slice A3 n3 c3) ∧ W.cell? ⟨Q, 1, none⟩ = some (.slice A4 n4 c4)) (by kernel_rfl) (HCS.out _ (HDq.out)) (fun hHeld => ?_)
          obtain ⟨Wq0, hW0⟩ : ∃ W0, W0 = w12.drew := ⟨_, rfl⟩
          rw [← hW0] at hHeld HDq ⊢
          clear hW0
          refine wpAnyH_take (i := 0) (oi := ?oi0q) (v := ?v0q) ?hi0q ?hs0q ?hf0q ?hr0q ?hQ0q ?hy0q ?hS0q ?h0q
          case hi0q => exact (by simp only [List.getElem?_toArray, List.getElem?_cons_zero]; rfl)
          case hs0q => kernel_rfl
          case hf0q => kernel_rfl
          case hr0q => kernel_rfl
          case hQ0q => exact fun _ _ _ h => h
          case hy0q =>
            refine Or.inl ⟨rfl, ?_⟩
            intro W hSw
            obtain ⟨y0, y1, y2, y3⟩ := hSw
            go_simp
            try with_reducible rfl
          case hS0q => assumption
          try simp only [Act.put, List.setIfInBounds_toArray, List.set_cons_zero, List.set_cons_succ]
          refine wpAnyH_take (i := 2) (oi := ?oi2q) (v := ?v2q) ?hi2q ?hs2q ?hf2q ?hr2q ?hQ2q ?hy2q ?hS2q ?h2q
          case hi2q => exact (by simp only [List.getElem?_toArray, List.getElem?_cons_succ, List.getElem?_cons_zero]; rfl)
          case hs2q => kernel_rfl
          case hf2q => kernel_rfl
          case hr2q => kernel_rfl
          case hQ2q => exact fun _ _ _ h => h
          case hy2q =>
            refine Or.inl ⟨rfl, ?_⟩
            intro W hSw
            obtain ⟨y0, y1, y2, y3⟩ := hSw
            go_simp
            try with_reducible rfl
          case hS2q => assumption
          try simp only [Act.put, List.setIfInBounds_toArray, List.set_cons_zero, List.set_cons_succ]
          refine wpAnyH_ready (rs := [1]) (by kernel_rfl) (by simp) ?_
          refine AllReadyH.cons (o := _) rfl (fun K hK => ?_) AllReadyH.nil
          go_simp
          refine (HL1.out Wq0 HDq.out).mono ?_
          rintro r Wq1 ⟨⟨AX, cX, rfl, hzx⟩, hbq⟩
          have HBq1 := Lib.hid (HDq.out.trans (hbq.mono HDq.out.size))
          clear hbq
          have HZX := Lib.hid hzx
          clear hzx
          refine hK.out _ _ (HCS.out _ (HBq1.out)) (fun hHeld => ?_)
          clear hK K
          try simp only [Act.put, List.setIfInBounds_toArray, List.set_cons_zero, List.set_cons_succ]
          refine wpAnyH_ready (rs := [3]) (by kernel_rfl) (by simp) ?_
          refine AllReadyH.cons (o := _) rfl (fun K hK => ?_) AllReadyH.nil
          go_simp
          refine (HL2.out Wq1 HBq1.out).mono ?_
          rintro r Wq2 ⟨⟨AY, cY, rfl, hzy⟩, hbq⟩
          have hbqq := Lib.hid hbq
          have HBq2 := Lib.hid (HBq1.out.trans (hbq.mono HBq1.out.size))
          clear hbq
          have HZY := Lib.hid hzy
          have HZX2 := Lib.hid (HZX.out.later hbqq.out (Nat.le_refl _))
          clear hzy
          refine hK.out _ _ (HCS.out _ (HBq2.out)) (fun hHeld => ?_)
          clear hK K
          try simp only [Act.put, List.setIfInBounds_toArray, List.set_cons_zero, List.set_cons_succ]
          refine wpAnyH_take (i := 4) (oi := ?oi4q) (v := ?v4q) ?hi4q ?hs4q ?hf4q ?hr4q ?hQ4q ?hy4q ?hS4q ?h4q
          case hi4q => exact (by simp only [List.getElem?_toArray, List.getElem?_cons_succ, List.getElem?_cons_zero]; rfl)
          case hs4q => kernel_rfl
          case hf4q => kernel_rfl
          case hr4q => kernel_rfl
          case hQ4q => exact fun _ _ _ h => h
          case hy4q =>
            refine Or.inl ⟨rfl, ?_⟩
            intro W hSw
            obtain ⟨y0, y1, y2, y3⟩ := hSw
            go_simp
            try with_reducible rfl
          case hS4q => assumption
          try simp only [Act.put, List.setIfInBounds_toArray, List.set_cons_zero, List.set_cons_succ]
          refine wpAnyH_take (i := 5) (oi := ?oi5q) (v := ?v5q) ?hi5q ?hs5q ?hf5q ?hr5q ?hQ5q ?hy5q ?hS5q ?h5q
          case hi5q => exact (by simp only [List.getElem?_toArray, List.getElem?_cons_succ, List.getElem?_cons_zero]; rfl)
          case hs5q => kernel_rfl
          case hf5q => kernel_rfl
          case hr5q => kernel_rfl
          case hQ5q => exact fun _ _ _ h => h
          case hy5q =>
            refine Or.inl ⟨rfl, ?_⟩
            intro W hSw
            obtain ⟨y0, y1, y2, y3⟩ := hSw
            go_simp
            try with_reducible rfl
          case hS5q => assumption
          try simp only [Act.put, List.setIfInBounds_toArray, List.set_cons_zero, List.set_cons_succ]
          refine wpAnyH_done (by kernel_rfl) ?_ _
          have HAD := Lib.hid (ahead_any AX AY nX cX nY cY X Y _ HNX.out HNY.out HZX2.out HZY.out hle1 hle2)
          rw [HAH.out] at HAD
          go_wp2_with fail
          refine HAD.out.mono ?_
          rintro r w13 ⟨rfl, hb⟩
          have HB13 := Lib.hid (HBq2.out.trans (hb.mono HBq2.out.size))
          clear hb
          go_wp2_with fail
          refine (HAW.out _).mono ?_
          rintro r w14 ⟨rfl, hb⟩
          go_wp2
          go_ret
          exact ⟨rfl, HRW.out _ (HB12.out.trans ((HB13.out.trans (hb.mono HB13.out.size)).mono HB12.out.size))⟩
      · obtain ⟨z0, z1, z2, z3, z4⟩ := HCE.out w4 (HBW.out w4 HB4.out)
        go_wp2_with fail
        refine (HMO.out _).mono ?_
        rintro r w5 ⟨rfl, hb⟩
        have HB5 := Lib.hid (HB4.out.trans (hb.mono HB4.out.size))
        clear hb z0 z1 z2 z3 z4
        go_wp2_with fail
        refine (HFI.out b w5 HAB.out.2.2 HB5.out).mono ?_
        rintro r w6 ⟨⟨t, rfl, ht⟩, hb⟩
        have HB6 := Lib.hid (HB5.out.trans (hb.mono HB5.out.size))
        have e5 : t = true := ht.2 ⟨(HT1.out.1 (by first | rfl | trivial)).1, fit_later_all HAB.out.1 l (HT1.out.1 (by first | rfl | trivial)).2⟩
        subst e5
        clear hb ht
        obtain ⟨z0, z1, z2, z3, z4⟩ := HCE.out w6 (HBW.out w6 HB6.out)
        go_wp2_with fail
        refine (HMO.out _).mono ?_
        rintro r w7 ⟨rfl, hb⟩
        have HB7 := Lib.hid (HB6.out.trans (hb.mono HB6.out.size))
        clear hb z0 z1 z2 z3 z4
        go_wp2_with fail
        refine (HFD.out a w7 HAB.out.2.1 HB7.out).mono ?_
        rintro r w8 ⟨⟨v, rfl, hS⟩, hb⟩
        have HB8 := Lib.hid (HB7.out.trans (hb.mono HB7.out.size))
        clear hb
        obtain ⟨o, ho⟩ : ∃ o, o = findP m a l := ⟨_, rfl⟩
        rw [← ho] at hS
        have HO := Lib.hid ho
        obtain ⟨A1, c1, A2, c2, rfl, hz1, hz2⟩ := hS.form
        have HZ1 := Lib.hid hz1
        have HZ2 := Lib.hid hz2
        obtain ⟨n1, hn1⟩ : ∃ n1, n1 = (o.getD ([], [])).1.length := ⟨_, rfl⟩
        obtain ⟨n2, hn2⟩ : ∃ n2, n2 = (o.getD ([], [])).2.length := ⟨_, rfl⟩
        rw [← hn1, ← hn2]
        have HN1 := Lib.hid hn1
        have HN2 := Lib.hid hn2
        obtain ⟨i1, hi1⟩ : ∃ i1, i1 = o.isSome := ⟨_, rfl⟩
        rw [← hi1]
        obtain ⟨w9, hw9⟩ : ∃ w9, w9 = w8.alloc (.cells #[.slice A1 n1 c1, .slice A2 n2 c2] 40) := ⟨_, rfl⟩
        obtain ⟨P, hP⟩ : ∃ P, P = w8.heap.size := ⟨_, rfl⟩
        have hq9 : w9.heap[P]? = some (.cells #[.slice A1 n1 c1, .slice A2 n2 c2] 40 (0, 0)) := by rw [hw9, hP]; exact heap_alloc_new w8 _
        have hb9 : Below w8.heap.size w8 w9 := by rw [hw9]; exact (Below.refl _ _).alloc (Nat.le_refl _) _
        have HB9 := Lib.hid (HB8.out.trans (hb9.mono HB8.out.size))
        have HB89 := Lib.hid hb9
        have HQ9 := Lib.hid hq9
        have H9 := Lib.hid hw9
        have HPE := Lib.hid hP
        clear ho hS hz1 hz2 hn1 hn2 hw9 hP hq9 hb9
        go_upto_region 8 with (fail)
        rw [← H9.out]
        rw [← HPE.out]
        obtain ⟨z0, z1, z2, z3, z4⟩ := HCE.out w9 (HBW.out w9 HB9.out)
        go_wp2_with fail
        refine (HMO.out _).mono ?_
        rintro r w10 ⟨rfl, hb⟩
        have HBM : Hid (Below w9.heap.size w9 w10) := hb
        have HB10 := Lib.hid (HB9.out.trans (hb.mono HB9.out.size))
        clear hb z0 z1 z2 z3 z4
        go_wp2_with fail
        refine (HFD.out b w10 HAB.out.2.2 HB10.out).mono ?_
        rintro r w11 ⟨⟨v, rfl, hS⟩, hb⟩
        have HB11 := Lib.hid (HB10.out.trans (hb.mono HB10.out.size))
        have HB911 : Hid (Below w9.heap.size w9 w11) := HBM.out.trans (hb.mono HBM.out.size)
        clear hb
        obtain ⟨o2, ho2⟩ : ∃ o2, o2 = findP m b l := ⟨_, rfl⟩
        rw [← ho2] at hS
        have HO2 := Lib.hid ho2
        obtain ⟨A3, c3, A4, c4, rfl, hz3, hz4⟩ := hS.form
        have HZ3 := Lib.hid hz3
        have HZ4 := Lib.hid hz4
        obtain ⟨n3, hn3⟩ : ∃ n3, n3 = (o2.getD ([], [])).1.length := ⟨_, rfl⟩
        obtain ⟨n4, hn4⟩ : ∃ n4, n4 = (o2.getD ([], [])).2.length := ⟨_, rfl⟩
        rw [← hn3, ← hn4]
        have HN3 := Lib.hid hn3
        have HN4 := Lib.hid hn4
        obtain ⟨i2, hi2⟩ : ∃ i2, i2 = o2.isSome := ⟨_, rfl⟩
        rw [← hi2]
        obtain ⟨w12, hw12⟩ : ∃ w12, w12 = w11.alloc (.cells #[.slice A3 n3 c3, .slice A4 n4 c4] 40) := ⟨_, rfl⟩
        obtain ⟨Q, hQ⟩ : ∃ Q, Q = w11.heap.size := ⟨_, rfl⟩
        have hq12 : w12.heap[Q]? = some (.cells #[.slice A3 n3 c3, .slice A4 n4 c4] 40 (0, 0)) := by rw [hw12, hQ]; exact heap_alloc_new w11 _
        have hb12 : Below w11.heap.size w11 w12 := by rw [hw12]; exact (Below.refl _ _).alloc (Nat.le_refl _) _
        have HB12 := Lib.hid (HB11.out.trans (hb12.mono HB11.out.size))
        have hp12 : w12.heap[P]? = some (.cells #[.slice A1 n1 c1, .slice A2 n2 c2] 40 (0, 0)) := ((HB911.out.trans (hb12.mono HB911.out.size)).block _ (lt_of_block HQ9.out)).trans HQ9.out
        have HB812 : Hid (Below w8.heap.size w8 w12) := HB89.out.trans ((HB911.out.trans (hb12.mono HB911.out.size)).mono HB89.out.size)
        have HB1112 := Lib.hid hb12
        have HCS : Hid (∀ W, Below w12.heap.size w12 W → W.cell? ⟨P, 0, none⟩ = some (.slice A1 n1 c1) ∧ W.cell? ⟨P, 1, none⟩ = some (.slice A2 n2 c2) ∧ W.cell? ⟨Q, 0, none⟩ = some (.slice A3 n3 c3) ∧ W.cell? ⟨Q, 1, none⟩ = some (.slice A4 n4 c4)) := fun W hW => by
          have e1 := (hW.block _ (lt_of_block hp12)).trans hp12
          have e2 := (hW.block _ (lt_of_block hq12)).trans hq12
          exact ⟨cell_of_row W _ 0 _ _ _ e1, cell_of_row W _ 1 _ _ _ e1, cell_of_row W _ 0 _ _ _ e2, cell_of_row W _ 1 _ _ _ e2⟩
        have H12 := Lib.hid hw12
        have HQE := Lib.hid hQ
        clear ho2 hS hz3 hz4 hn3 hn4 hw12 hQ hq12 hb12 hp12
        go_upto_region 9 with (fail)
        rw [← H12.out]
        rw [← HQE.out]
        cases o with
        | none =>
          have e1 : i1 = false := hi1
          subst e1
          clear hi1
          go_wp2_with fail
          refine (HAW.out _).mono ?_
          rintro r w13 ⟨rfl, hb⟩
          go_wp2
          go_ret
          exact ⟨rfl, HRW.out _ (HB12.out.trans (hb.mono HB12.out.size))⟩
        | some q =>
          have e1 : i1 = true := hi1
          subst e1
          clear hi1
          obtain ⟨s, s', q', hf2, ⟨hs1, hs2⟩, ⟨hs3, hs4⟩, hah⟩ := waits_facts m a b HAB.out.1 l q HO.out.symm
          have e2 : o2 = some q' := HO2.out.trans hf2
          subst e2
          have e3 : i2 = true := hi2
          subst e3
          clear hi2
          have hln : l.length ≤ 16 := by have := HN.out; omega
          have HX1 := Lib.hid (find_all hs1 hs2 hln)
          have HX2 := Lib.hid (find_all hs3 hs4 hln)
          have hz1 := find_sizes HO.out.symm
          have hz2 := find_sizes hf2
          have HAH : Hid (aheadP (allP q.1 q.2 16) (allP q'.1 q'.2 16) = false) := by simp only [Hid]; rw [HX1.out, HX2.out]; exact hah
          simp only [Option.getD_some] at HZ1 HZ2 HZ3 HZ4 HN1 HN2 HN3 HN4
          have HL1 : Hid (∀ W, Below w12.heap.size w12 W → Calls Try.prog 25 #[.agg #[.slice A1 n1 c1, .slice A2 n2 c2]] W fun r w' => (∃ A' c', r = .returned (.slice A' (allP q.1 q.2 16).length c') ∧ Zs w' w'.heap.size A' (allP q.1 q.2 16)) ∧ Below W.heap.size W w') := fun W hW =>
            all_any A1 A2 n1 c1 n2 c2 q.1 q.2 W HN1.out HN2.out (HZ1.out.later (HB812.out.trans (hW.mono HB812.out.size)) (Nat.le_refl _)) (HZ2.out.later (HB812.out.trans (hW.mono HB812.out.size)) (Nat.le_refl _)) (by rw [HN1.out]; exact hz1.1) (by rw [HN2.out]; exact hz1.2)
          have HL2 : Hid (∀ W, Below w12.heap.size w12 W → Calls Try.prog 25 #[.agg #[.slice A3 n3 c3, .slice A4 n4 c4]] W fun r w' => (∃ A' c', r = .returned (.slice A' (allP q'.1 q'.2 16).length c') ∧ Zs w' w'.heap.size A' (allP q'.1 q'.2 16)) ∧ Below W.heap.size W w') := fun W hW =>
            all_any A3 A4 n3 c3 n4 c4 q'.1 q'.2 W HN3.out HN4.out (HZ3.out.later (HB1112.out.trans (hW.mono HB1112.out.size)) (Nat.le_refl _)) (HZ4.out.later (HB1112.out.trans (hW.mono HB1112.out.size)) (Nat.le_refl _)) (by rw [HN3.out]; exact hz2.1) (by rw [HN4.out]; exact hz2.2)
          have hle1 : (allP q.1 q.2 16).length ≤ 1000 := by have := allP_len q.1 q.2 16; have h1 := hz1.1; have h2 := hz1.2; omega
          have hle2 : (allP q'.1 q'.2 16).length ≤ 1000 := by have := allP_len q'.1 q'.2 16; have h1 := hz2.1; have h2 := hz2.2; omega
          obtain ⟨X, hX⟩ : ∃ X, X = allP q.1 q.2 16 := ⟨_, rfl⟩
          obtain ⟨Y, hY⟩ : ∃ Y, Y = allP q'.1 q'.2 16 := ⟨_, rfl⟩
          rw [← hX] at HAH HL1 hle1
          rw [← hY] at HAH HL2 hle2
          have HBT : Hid (Below w12.heap.size w12 w12) := Below.refl _ _
          clear hX hY hf2 hs1 hs2 hs3 hs4 hah hln hz1 hz2 HX1 HX2 HZ1 HZ2 HZ3 HZ4 HN1 HN2 HN3 HN4 HO HO2
          obtain ⟨nX, hnX⟩ : ∃ nX, nX = X.length := ⟨_, rfl⟩
          obtain ⟨nY, hnY⟩ : ∃ nY, nY = Y.length := ⟨_, rfl⟩
          rw [← hnX] at HL1 hle1
          rw [← hnY] at HL2 hle2
          have HNX := Lib.hid hnX
          have HNY := Lib.hid hnY
          clear hnX hnY
          go_upto_region 11 with (fail)
          have HDs : Hid (Below w12.heap.size w12 w12.drew) := HBT.out.drew
          refine wp_region_held_drew (S := fun W : World => W.cell? ⟨P, 0, none⟩ = some (.slice A1 n1 c1) ∧ W.cell? ⟨P, 1, none⟩ = some (.slice A2 n2 c2) ∧ W.cell? ⟨Q, 0, none⟩ = some (.slice A3 n3 c3) ∧ W.cell? ⟨Q, 1, none⟩ = some (.slice A4 n4 c4)) (by kernel_rfl) (HCS.out _ (HDs.out)) (fun hHeld => ?_)
          obtain ⟨Ws0, hW0⟩ : ∃ W0, W0 = w12.drew := ⟨_, rfl⟩
          rw [← hW0] at hHeld HDs ⊢
          clear hW0
          refine wpAnyH_take (i := 0) (oi := ?oi0s) (v := ?v0s) ?hi0s ?hs0s ?hf0s ?hr0s ?hQ0s ?hy0s ?hS0s ?h0s
          case hi0s => exact (by simp only [List.getElem?_toArray, List.getElem?_cons_zero]; rfl)
          case hs0s => kernel_rfl
          case hf0s => kernel_rfl
          case hr0s => kernel_rfl
          case hQ0s => exact fun _ _ _ h => h
          case hy0s =>
            refine Or.inl ⟨rfl, ?_⟩
            intro W hSw
            obtain ⟨y0, y1, y2, y3⟩ := hSw
            go_simp
            try with_reducible rfl
          case hS0s => assumption
          try simp only [Act.put, List.setIfInBounds_toArray, List.set_cons_zero, List.set_cons_succ]
          refine wpAnyH_take (i := 2) (oi := ?oi2s) (v := ?v2s) ?hi2s ?hs2s ?hf2s ?hr2s ?hQ2s ?hy2s ?hS2s ?h2s
          case hi2s => exact (by simp only [List.getElem?_toArray, List.getElem?_cons_succ, List.getElem?_cons_zero]; rfl)
          case hs2s => kernel_rfl
          case hf2s => kernel_rfl
          case hr2s => kernel_rfl
          case hQ2s => exact fun _ _ _ h => h
          case hy2s =>
            refine Or.inl ⟨rfl, ?_⟩
            intro W hSw
            obtain ⟨y0, y1, y2, y3⟩ := hSw
            go_simp
            try with_reducible rfl
          case hS2s => assumption
          try simp only [Act.put, List.setIfInBounds_toArray, List.set_cons_zero, List.set_cons_succ]
          refine wpAnyH_ready (rs := [1]) (by kernel_rfl) (by simp) ?_
          refine AllReadyH.cons (o := _) rfl (fun K hK => ?_) AllReadyH.nil
          go_simp
          refine (HL1.out Ws0 HDs.out).mono ?_
          rintro r Ws1 ⟨⟨AX, cX, rfl, hzx⟩, hbq⟩
          have HBs1 := Lib.hid (HDs.out.trans (hbq.mono HDs.out.size))
          clear hbq
          have HZX := Lib.hid hzx
          clear hzx
          refine hK.out _ _ (HCS.out _ (HBs1.out)) (fun hHeld => ?_)
          clear hK K
          try simp only [Act.put, List.setIfInBounds_toArray, List.set_cons_zero, List.set_cons_succ]
          refine wpAnyH_ready (rs := [3]) (by kernel_rfl) (by simp) ?_
          refine AllReadyH.cons (o := _) rfl (fun K hK => ?_) AllReadyH.nil
          go_simp
          refine (HL2.out Ws1 HBs1.out).mono ?_
          rintro r Ws2 ⟨⟨AY, cY, rfl, hzy⟩, hbq⟩
          have hbqq := Lib.hid hbq
          have HBs2 := Lib.hid (HBs1.out.trans (hbq.mono HBs1.out.size))
          clear hbq
          have HZY := Lib.hid hzy
          have HZX2 := Lib.hid (HZX.out.later hbqq.out (Nat.le_refl _))
          clear hzy
          refine hK.out _ _ (HCS.out _ (HBs2.out)) (fun hHeld => ?_)
          clear hK K
          try simp only [Act.put, List.setIfInBounds_toArray, List.set_cons_zero, List.set_cons_succ]
          refine wpAnyH_take (i := 4) (oi := ?oi4s) (v := ?v4s) ?hi4s ?hs4s ?hf4s ?hr4s ?hQ4s ?hy4s ?hS4s ?h4s
          case hi4s => exact (by simp only [List.getElem?_toArray, List.getElem?_cons_succ, List.getElem?_cons_zero]; rfl)
          case hs4s => kernel_rfl
          case hf4s => kernel_rfl
          case hr4s => kernel_rfl
          case hQ4s => exact fun _ _ _ h => h
          case hy4s =>
            refine Or.inl ⟨rfl, ?_⟩
            intro W hSw
            obtain ⟨y0, y1, y2, y3⟩ := hSw
            go_simp
            try with_reducible rfl
          case hS4s => assumption
          try simp only [Act.put, List.setIfInBounds_toArray, List.set_cons_zero, List.set_cons_succ]
          refine wpAnyH_take (i := 5) (oi := ?oi5s) (v := ?v5s) ?hi5s ?hs5s ?hf5s ?hr5s ?hQ5s ?hy5s ?hS5s ?h5s
          case hi5s => exact (by simp only [List.getElem?_toArray, List.getElem?_cons_succ, List.getElem?_cons_zero]; rfl)
          case hs5s => kernel_rfl
          case hf5s => kernel_rfl
          case hr5s => kernel_rfl
          case hQ5s => exact fun _ _ _ h => h
          case hy5s =>
            refine Or.inl ⟨rfl, ?_⟩
            intro W hSw
            obtain ⟨y0, y1, y2, y3⟩ := hSw
            go_simp
            try with_reducible rfl
          case hS5s => assumption
          try simp only [Act.put, List.setIfInBounds_toArray, List.set_cons_zero, List.set_cons_succ]
          refine wpAnyH_done (by kernel_rfl) ?_ _
          have HAD := Lib.hid (ahead_any AX AY nX cX nY cY X Y _ HNX.out HNY.out HZX2.out HZY.out hle1 hle2)
          rw [HAH.out] at HAD
          go_wp2_with fail
          refine HAD.out.mono ?_
          rintro r w13 ⟨rfl, hb⟩
          have HB13 := Lib.hid (HBs2.out.trans (hb.mono HBs2.out.size))
          clear hb
          go_wp2_with fail
          refine (HAW.out _).mono ?_
          rintro r w14 ⟨rfl, hb⟩
          go_wp2
          go_ret
          exact ⟨rfl, HRW.out _ (HB12.out.trans ((HB13.out.trans (hb.mono HB13.out.size)).mono HB12.out.size))⟩
end Go.Proofs.Ytnloikdfbdpilaa
