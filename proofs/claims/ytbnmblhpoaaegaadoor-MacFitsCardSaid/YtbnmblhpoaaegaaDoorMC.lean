/- The tag of any key and any parts: MacTags returns true for every input. -/
import Derived.Test.YtbnmblhpoaaegaaDoorMB
import Derived.Test.YtbnmblhpoaaegaaDoorM9
namespace Go.Proofs.YtbnmblhpoaaegaaDoor
open Go.RowKit

theorem range_keep {w W : World} {R : Nat} {xs : List Value} (h : w.rangeAt R 0 xs) (hb : Below w.heap.size w W) (hR : R < w.heap.size) : W.rangeAt R 0 xs :=
  fun j u hu => (hb.cell (p := ⟨R, 0 + j, none⟩) hR).trans (h j u hu)

set_option linter.unusedSimpArgs false in
set_option maxHeartbeats 4000000 in
set_option maxRecDepth 4000 in
theorem mtags_walk (v u : Value) (key : List UInt8) (ps : List (List UInt8)) (w : World) (hv : Pb w v key) (hp : Pbs w u ps) (hk : Kt w) (hf : Ft w) (h1 : 1 < w.heap.size) (hkl : key.length ≤ 9223372036854775807) (hpl : ps.length ≤ 9223372036854775807) (hql : ∀ p ∈ ps, p.length ≤ 9223372036854775807) :
    Calls Tryd.prog 8 #[v, u] w fun e w' => e = .returned (.bool true) ∧ Below w.heap.size w w' := by
  obtain ⟨A, c, rfl, _, _⟩ := id hv
  obtain ⟨A2, c2, rfl, _, _⟩ := id hp
  have hfew := mfew_any _ ps w hp hpl hql
  obtain ⟨fb, hfb⟩ : ∃ fb, fb = mfewB ps := ⟨_, rfl⟩
  rw [← hfb] at hfew
  obtain ⟨n, hn⟩ : ∃ n, n = key.length := ⟨_, rfl⟩
  rw [← hn] at hv hkl ⊢
  have HN := Lib.hid hn
  have HFEW := Lib.hid hfew
  have HFB := Lib.hid hfb
  have HV := Lib.hid hv
  have HP := Lib.hid hp
  have HK := Lib.hid hk
  have HF := Lib.hid hf
  have H1 := Lib.hid h1
  clear hfew hfb hv hp hk hf hql hn h1
  go_enter Tryd.func8, Tryd.ntmps8
  by_cases hbig : 200 < n
  · have t : decide ((n : Int) > 200) = true := by rw [decide_eq_true_iff]; omega
    go_wp2_with fail
    go_ret
    exact ⟨rfl, Below.refl _ _⟩
  have t : decide ((n : Int) > 200) = false := by rw [decide_eq_false_iff_not]; omega
  go_wp2_with fail
  refine HFEW.out.mono ?_
  rintro e w0 ⟨rfl, rfl⟩
  clear HFEW
  cases fb with
  | false =>
    go_wp2_with fail
    go_ret
    exact ⟨rfl, Below.refl _ _⟩
  | true =>
    have hfl := mfew_flat HFB.out.symm
    have HNK := Lib.hid (show key.length ≤ 200 by rw [← HN.out]; omega)
    have hall := all_any _ ps w HP.out hpl (by omega)
    have HALL := Lib.hid hall
    clear hall hbig
    go_wp2_with fail
    refine HALL.out.mono ?_
    rintro e w1 ⟨A3, n3, c3, rfl, hown1, hb1⟩
    have hrt := rtag_any _ _ key ps.flatten w1 (HV.out.below hb1) (own_pb hown1) (by have := HNK.out; omega) (by omega)
    obtain ⟨T, hT⟩ : ∃ T, T = tagP key ps.flatten := ⟨_, rfl⟩
    have hTl : T.length = 32 := by rw [hT, tagP_length]
    rw [← hT] at hrt
    have I30 := Lib.hid (show (Tryd.prog.info? 30).map (·.size) = some ((bv T).toArray.size) by
      rw [Tryd.size30]
      simp [bv, hTl])
    have S30 := Lib.hid (show z32.size = (bv T).toArray.size by
      simp only [bv, List.size_toArray, List.length_map, hTl]
      rfl)
    have J30 := Lib.hid (show (Tryd.prog.info? 30).map (·.size) = some (bv T).length by
      rw [Tryd.size30]
      simp [bv, hTl])
    have HT := Lib.hid hT
    have HTL := Lib.hid hTl
    have HB1 := Lib.hid hb1
    have HRT := Lib.hid hrt
    clear hrt hT hTl hb1 hown1 HALL
    go_wp2_with fail
    refine HRT.out.mono ?_
    rintro e w2 ⟨rfl, hb2⟩
    have HB2 := Lib.hid (HB1.out.trans (hb2.mono HB1.out.size))
    clear hb2 HB1 HRT
    go_upto_region 5 with (refine wpList_store_row rfl 30 (.tmp 5) (.tmp 18) rfl w2.heap.size (bv T).toArray rfl rfl 30 z32 (heap_alloc_new w2 _) I30.out S30.out (bv_one _) ?_; rw [World.setRow_alloc_new])
    obtain ⟨w3, hw3⟩ : ∃ w3, w3 = w2.alloc (.cells (bv T).toArray 30) := ⟨_, rfl⟩
    obtain ⟨R, hR⟩ : ∃ R, R = w2.heap.size := ⟨_, rfl⟩
    rw [← hw3, ← hR]
    have hr3 : w3.heap[R]? = some (.cells (bv T).toArray 30 (0, 0)) := by rw [hw3, hR]; exact heap_alloc_new w2 _
    have HB3 := Lib.hid (show Below w.heap.size w w3 by rw [hw3]; exact HB2.out.alloc HB2.out.size _)
    have HR3 := Lib.hid hr3
    have hra : w3.drew.rangeAt R 0 (bv T) := fun j u hu => by
      rw [cell_of_row w3.drew _ (0 + j) _ _ _ (show w3.drew.heap[R]? = _ from hr3), Nat.zero_add, List.getElem?_toArray, hu]
    have HRA := Lib.hid hra
    have HRZ := Lib.hid (show R < w3.heap.size from lt_of_block' hr3)
    clear hr3 hw3 hR hra HB2
    refine wp_region_held_drew (S := fun W => W.rangeAt R 0 (bv T)) (by kernel_rfl) HRA.out (fun hHeld => ?_)
    obtain ⟨W0, hW0⟩ : ∃ W0, W0 = w3.drew := ⟨_, rfl⟩
    have HB0w := Lib.hid (show Below w.heap.size w W0 by rw [hW0]; exact HB3.out.drew)
    have HZ0 := Lib.hid (show R < W0.heap.size by rw [hW0]; exact HRZ.out)
    rw [← hW0] at hHeld ⊢
    clear hW0
    have heq := fun W => eq_bytes T HTL.out W
    obtain ⟨Z, hZ⟩ : ∃ Z : List UInt8, Z = List.replicate 32 0 := ⟨_, rfl⟩
    have heqz := fun W => eq_zero Z hZ W
    have hnil := fun w v => ktag_nil v w
    rw [← hZ] at hnil
    have HNIL := Lib.hid hnil
    clear hZ hnil
    obtain ⟨bl, hbl⟩ : ∃ bl, bl = blockP key := ⟨_, rfl⟩
    have hte : sumP (mixP 92 bl ++ sumP (mixP 54 bl ++ ps.flatten)) = T := by rw [HT.out, hbl]; rfl
    have hmt := fun (w1 : World) (hb : Below w.heap.size w w1) => mtag_any _ _ key ps w1 (HV.out.below hb) (HP.out.below hb) (HK.out.below hb (by have := H1.out; omega)) (HF.out.below hb H1.out) (Nat.lt_of_lt_of_le H1.out hb.size) (by have := HNK.out; omega) (by omega) hpl
    rw [← HT.out] at hmt
    have hmk := fun (w1 : World) (hb : Below w.heap.size w w1) => make_any _ key w1 (HV.out.below hb) (HK.out.below hb (by have := H1.out; omega)) (HF.out.below hb H1.out) (Nat.lt_of_lt_of_le H1.out hb.size) (by have := HNK.out; omega)
    rw [← hbl] at hmk
    have hkt := fun (w1 : World) (K : Nat) (hb : Below w.heap.size w w1) (hk1 : IsK w1 K bl) => ktag_any K bl _ ps w1 hk1 (HP.out.below hb) (HK.out.below hb (by have := H1.out; omega)) (HF.out.below hb H1.out) (Nat.lt_of_lt_of_le H1.out hb.size) (by omega) hpl
    rw [hte] at hkt
    have haw := fun (w1 : World) (hb : Below w.heap.size w w1) => mawake_any w1 (HK.out.below hb (by have := H1.out; omega)) (HF.out.below hb H1.out) (Nat.lt_of_lt_of_le H1.out hb.size)
    have HMT := Lib.hid hmt
    have HMK := Lib.hid hmk
    have HKT := Lib.hid hkt
    have HAW := Lib.hid haw
    clear hmt hmk hkt haw hte hbl
    refine wpAnyH_take (i := 0) (oi := ?oi0) (v := ?v0) ?hi0 ?hs0 ?hf0 ?hr0 ?hQ0 ?hy0 ?hS0 ?h0
    case hi0 => exact (by simp only [List.getElem?_toArray, List.getElem?_cons_zero]; rfl)
    case hs0 => kernel_rfl
    case hf0 => kernel_rfl
    case hr0 => kernel_rfl
    case hQ0 => exact fun _ _ _ h => h
    case hy0 =>
      refine Or.inl ⟨rfl, ?_⟩
      intro W hSw
      go_simp
      try with_reducible rfl
    case hS0 => assumption
    try simp only [Act.put, List.setIfInBounds_toArray, List.set_cons_zero, List.set_cons_succ]
    refine wpAnyH_take (i := 1) (oi := ?oi1) (v := ?v1) ?hi1 ?hs1 ?hf1 ?hr1 ?hQ1 ?hy1 ?hS1 ?h1
    case hi1 => exact (by simp only [List.getElem?_toArray, List.getElem?_cons_succ, List.getElem?_cons_zero]; rfl)
    case hs1 => kernel_rfl
    case hf1 => kernel_rfl
    case hr1 => kernel_rfl
    case hQ1 => exact fun _ _ _ h => h
    case hy1 =>
      refine Or.inl ⟨rfl, ?_⟩
      intro W hSw
      go_simp
      try with_reducible rfl
    case hS1 => assumption
    try simp only [Act.put, List.setIfInBounds_toArray, List.set_cons_zero, List.set_cons_succ]
    refine wpAnyH_take (i := 3) (oi := ?oi3) (v := .agg (bv T).toArray) ?hi3 ?hs3 ?hf3 ?hr3 ?hQ3 ?hy3 ?hS3 ?h3
    case hi3 => exact (by simp only [List.getElem?_toArray, List.getElem?_cons_succ, List.getElem?_cons_zero]; rfl)
    case hs3 => kernel_rfl
    case hf3 => kernel_rfl
    case hr3 => kernel_rfl
    case hQ3 => exact fun _ _ _ h => h
    case hy3 =>
      exact yieldsIf_load_mid rfl 30 (.tmp 5) rfl R 0 rfl (bv T) _ (fun (W : World) (h : W.rangeAt R 0 (bv T)) => h) Tryd.underlying30 rfl J30.out
    case hS3 => assumption
    try simp only [Act.put, List.setIfInBounds_toArray, List.set_cons_zero, List.set_cons_succ]
    refine wpAnyH_ready (rs := [2]) (by kernel_rfl) (by simp) ?_
    refine AllReadyH.cons (o := _) rfl (fun K hK => ?_) AllReadyH.nil
    go_simp
    refine (HMT.out W0 HB0w.out).mono ?_
    intro e W1 hp
    obtain ⟨rfl, hc1⟩ := hp
    have hkeep1 : W1.rangeAt R 0 (bv T) := range_keep hHeld hc1 HZ0.out
    have HB1 := Lib.hid (HB0w.out.trans (hc1.mono HB0w.out.size))
    have HB1w := HB1
    have HZ1 := Lib.hid (Nat.lt_of_lt_of_le HZ0.out hc1.size)
    clear hc1 hHeld
    refine hK.out _ _ hkeep1 (fun hHeld => ?_)
    clear hK K
    try simp only [Act.put, List.setIfInBounds_toArray, List.set_cons_zero, List.set_cons_succ]
    refine wpAnyH_take (i := 4) (oi := ?oi4) (v := ?v4) ?hi4 ?hs4 ?hf4 ?hr4 ?hQ4 ?hy4 ?hS4 ?h4
    case hi4 => exact (by simp only [List.getElem?_toArray, List.getElem?_cons_succ, List.getElem?_cons_zero]; rfl)
    case hs4 => kernel_rfl
    case hf4 => kernel_rfl
    case hr4 => kernel_rfl
    case hQ4 => exact fun _ _ _ h => h
    case hy4 =>
      refine Or.inl ⟨rfl, ?_⟩
      intro W hSw
      go_simp
      try with_reducible rfl
    case hS4 => assumption
    try simp only [Act.put, List.setIfInBounds_toArray, List.set_cons_zero, List.set_cons_succ]
    refine wpAnyH_take (i := 5) (oi := ?oi5) (v := ?v5) ?hi5 ?hs5 ?hf5 ?hr5 ?hQ5 ?hy5 ?hS5 ?h5
    case hi5 => exact (by simp only [List.getElem?_toArray, List.getElem?_cons_succ, List.getElem?_cons_zero]; rfl)
    case hs5 => kernel_rfl
    case hf5 => kernel_rfl
    case hr5 => kernel_rfl
    case hQ5 => exact fun _ _ _ h => h
    case hy5 =>
      refine Or.inl ⟨rfl, ?_⟩
      intro W hSw
      go_simp
      try with_reducible rfl
    case hS5 => assumption
    try simp only [Act.put, List.setIfInBounds_toArray, List.set_cons_zero, List.set_cons_succ]
    refine wpAnyH_take (i := 6) (oi := ?oi6) (v := ?v6) ?hi6 ?hs6 ?hf6 ?hr6 ?hQ6 ?hy6 ?hS6 ?h6
    case hi6 => exact (by simp only [List.getElem?_toArray, List.getElem?_cons_succ, List.getElem?_cons_zero]; rfl)
    case hs6 => kernel_rfl
    case hf6 => kernel_rfl
    case hr6 => kernel_rfl
    case hQ6 => exact fun _ _ _ h => h
    case hy6 =>
      refine Or.inl ⟨rfl, ?_⟩
      intro W hSw
      go_simp
      try with_reducible rfl
    case hS6 => assumption
    try simp only [Act.put, List.setIfInBounds_toArray, List.set_cons_zero, List.set_cons_succ]
    refine wpAnyH_take (i := 8) (oi := ?oi8) (v := ?v8) ?hi8 ?hs8 ?hf8 ?hr8 ?hQ8 ?hy8 ?hS8 ?h8
    case hi8 => exact (by simp only [List.getElem?_toArray, List.getElem?_cons_succ, List.getElem?_cons_zero]; rfl)
    case hs8 => kernel_rfl
    case hf8 => kernel_rfl
    case hr8 => kernel_rfl
    case hQ8 => exact fun _ _ _ h => h
    case hy8 =>
      refine Or.inl ⟨rfl, ?_⟩
      intro W hSw
      go_simp
      try with_reducible rfl
    case hS8 => assumption
    try simp only [Act.put, List.setIfInBounds_toArray, List.set_cons_zero, List.set_cons_succ]
    refine wpAnyH_take (i := 10) (oi := ?oi10) (v := .agg (bv T).toArray) ?hi10 ?hs10 ?hf10 ?hr10 ?hQ10 ?hy10 ?hS10 ?h10
    case hi10 => exact (by simp only [List.getElem?_toArray, List.getElem?_cons_succ, List.getElem?_cons_zero]; rfl)
    case hs10 => kernel_rfl
    case hf10 => kernel_rfl
    case hr10 => kernel_rfl
    case hQ10 => exact fun _ _ _ h => h
    case hy10 =>
      exact yieldsIf_load_mid rfl 30 (.tmp 5) rfl R 0 rfl (bv T) _ (fun (W : World) (h : W.rangeAt R 0 (bv T)) => h) Tryd.underlying30 rfl J30.out
    case hS10 => assumption
    try simp only [Act.put, List.setIfInBounds_toArray, List.set_cons_zero, List.set_cons_succ]
    refine wpAnyH_ready (rs := [7]) (by kernel_rfl) (by simp) ?_
    refine AllReadyH.cons (o := _) rfl (fun K hK => ?_) AllReadyH.nil
    go_simp
    refine (HMK.out W1 HB1w.out).mono ?_
    intro e W2 hp
    obtain ⟨rfl, hk2, hc2⟩ := hp
    have hkeep2 : W2.rangeAt R 0 (bv T) := range_keep hHeld hc2 HZ1.out
    have HB2 := Lib.hid (HB1w.out.trans (hc2.mono HB1w.out.size))
    have HB2w := HB2
    have HZ2 := Lib.hid (Nat.lt_of_lt_of_le HZ1.out hc2.size)
    have HK2 := Lib.hid hk2
    clear hk2
    clear hc2 hHeld
    refine hK.out _ _ hkeep2 (fun hHeld => ?_)
    clear hK K
    try simp only [Act.put, List.setIfInBounds_toArray, List.set_cons_zero, List.set_cons_succ]
    refine wpAnyH_ready (rs := [9]) (by kernel_rfl) (by simp) ?_
    refine AllReadyH.cons (o := _) rfl (fun K hK => ?_) AllReadyH.nil
    go_simp
    refine (HKT.out W2 _ HB2w.out HK2.out).mono ?_
    intro e W3 hp
    obtain ⟨rfl, hc3⟩ := hp
    have hkeep3 : W3.rangeAt R 0 (bv T) := range_keep hHeld hc3 HZ2.out
    have HB3 := Lib.hid (HB2w.out.trans (hc3.mono HB2w.out.size))
    have HB3w := HB3
    have HZ3 := Lib.hid (Nat.lt_of_lt_of_le HZ2.out hc3.size)
    clear hc3 hHeld
    refine hK.out _ _ hkeep3 (fun hHeld => ?_)
    clear hK K
    try simp only [Act.put, List.setIfInBounds_toArray, List.set_cons_zero, List.set_cons_succ]
    refine wpAnyH_take (i := 11) (oi := ?oi11) (v := ?v11) ?hi11 ?hs11 ?hf11 ?hr11 ?hQ11 ?hy11 ?hS11 ?h11
    case hi11 => exact (by simp only [List.getElem?_toArray, List.getElem?_cons_succ, List.getElem?_cons_zero]; rfl)
    case hs11 => kernel_rfl
    case hf11 => kernel_rfl
    case hr11 => kernel_rfl
    case hQ11 => exact fun _ _ _ h => h
    case hy11 =>
      refine Or.inl ⟨rfl, ?_⟩
      intro W hSw
      go_simp
      try with_reducible rfl
    case hS11 => assumption
    try simp only [Act.put, List.setIfInBounds_toArray, List.set_cons_zero, List.set_cons_succ]
    refine wpAnyH_take (i := 12) (oi := ?oi12) (v := ?v12) ?hi12 ?hs12 ?hf12 ?hr12 ?hQ12 ?hy12 ?hS12 ?h12
    case hi12 => exact (by simp only [List.getElem?_toArray, List.getElem?_cons_succ, List.getElem?_cons_zero]; rfl)
    case hs12 => kernel_rfl
    case hf12 => kernel_rfl
    case hr12 => kernel_rfl
    case hQ12 => exact fun _ _ _ h => h
    case hy12 =>
      refine Or.inl ⟨rfl, ?_⟩
      intro W hSw
      go_simp
      try with_reducible rfl
    case hS12 => assumption
    try simp only [Act.put, List.setIfInBounds_toArray, List.set_cons_zero, List.set_cons_succ]
    refine wpAnyH_take (i := 13) (oi := ?oi13) (v := ?v13) ?hi13 ?hs13 ?hf13 ?hr13 ?hQ13 ?hy13 ?hS13 ?h13
    case hi13 => exact (by simp only [List.getElem?_toArray, List.getElem?_cons_succ, List.getElem?_cons_zero]; rfl)
    case hs13 => kernel_rfl
    case hf13 => kernel_rfl
    case hr13 => kernel_rfl
    case hQ13 => exact fun _ _ _ h => h
    case hy13 =>
      refine Or.inl ⟨rfl, ?_⟩
      intro W hSw
      go_simp
      try with_reducible rfl
    case hS13 => assumption
    try simp only [Act.put, List.setIfInBounds_toArray, List.set_cons_zero, List.set_cons_succ]
    refine wpAnyH_take (i := 14) (oi := ?oi14) (v := ?v14) ?hi14 ?hs14 ?hf14 ?hr14 ?hQ14 ?hy14 ?hS14 ?h14
    case hi14 => exact (by simp only [List.getElem?_toArray, List.getElem?_cons_succ, List.getElem?_cons_zero]; rfl)
    case hs14 => kernel_rfl
    case hf14 => kernel_rfl
    case hr14 => kernel_rfl
    case hQ14 => exact fun _ _ _ h => h
    case hy14 =>
      refine Or.inl ⟨rfl, ?_⟩
      intro W hSw
      go_simp
      try with_reducible rfl
    case hS14 => assumption
    try simp only [Act.put, List.setIfInBounds_toArray, List.set_cons_zero, List.set_cons_succ]
    refine wpAnyH_take (i := 15) (oi := ?oi15) (v := ?v15) ?hi15 ?hs15 ?hf15 ?hr15 ?hQ15 ?hy15 ?hS15 ?h15
    case hi15 => exact (by simp only [List.getElem?_toArray, List.getElem?_cons_succ, List.getElem?_cons_zero]; rfl)
    case hs15 => kernel_rfl
    case hf15 => kernel_rfl
    case hr15 => kernel_rfl
    case hQ15 => exact fun _ _ _ h => h
    case hy15 =>
      refine Or.inl ⟨rfl, ?_⟩
      intro W hSw
      go_simp
      try with_reducible rfl
    case hS15 => assumption
    try simp only [Act.put, List.setIfInBounds_toArray, List.set_cons_zero, List.set_cons_succ]
    refine wpAnyH_take (i := 17) (oi := ?oi17) (v := ?v17) ?hi17 ?hs17 ?hf17 ?hr17 ?hQ17 ?hy17 ?hS17 ?h17
    case hi17 => exact (by simp only [List.getElem?_toArray, List.getElem?_cons_succ, List.getElem?_cons_zero]; rfl)
    case hs17 => kernel_rfl
    case hf17 => kernel_rfl
    case hr17 => kernel_rfl
    case hQ17 => exact fun _ _ _ h => h
    case hy17 =>
      refine Or.inl ⟨rfl, ?_⟩
      intro W hSw
      go_simp
      try with_reducible rfl
    case hS17 => assumption
    try simp only [Act.put, List.setIfInBounds_toArray, List.set_cons_zero, List.set_cons_succ]
    refine wpAnyH_ready (rs := [16]) (by kernel_rfl) (by simp) ?_
    refine AllReadyH.cons (o := _) rfl (fun K hK => ?_) AllReadyH.nil
    go_simp
    refine (HNIL.out W3 _).mono ?_
    intro e W4 hp
    obtain ⟨rfl, hc4⟩ := hp
    have hkeep4 : W4.rangeAt R 0 (bv T) := range_keep hHeld hc4 HZ3.out
    have HB4 := Lib.hid (HB3w.out.trans (hc4.mono HB3w.out.size))
    have HB4w := HB4
    have HZ4 := Lib.hid (Nat.lt_of_lt_of_le HZ3.out hc4.size)
    clear hc4 hHeld
    refine hK.out _ _ hkeep4 (fun hHeld => ?_)
    clear hK K
    try simp only [Act.put, List.setIfInBounds_toArray, List.set_cons_zero, List.set_cons_succ]
    refine wpAnyH_take (i := 18) (oi := ?oi18) (v := ?v18) ?hi18 ?hs18 ?hf18 ?hr18 ?hQ18 ?hy18 ?hS18 ?h18
    case hi18 => exact (by simp only [List.getElem?_toArray, List.getElem?_cons_succ, List.getElem?_cons_zero]; rfl)
    case hs18 => kernel_rfl
    case hf18 => kernel_rfl
    case hr18 => kernel_rfl
    case hQ18 => exact fun _ _ _ h => h
    case hy18 =>
      refine Or.inl ⟨rfl, ?_⟩
      intro W hSw
      go_simp
      try with_reducible rfl
    case hS18 => assumption
    try simp only [Act.put, List.setIfInBounds_toArray, List.set_cons_zero, List.set_cons_succ]
    refine wpAnyH_take (i := 19) (oi := ?oi19) (v := ?v19) ?hi19 ?hs19 ?hf19 ?hr19 ?hQ19 ?hy19 ?hS19 ?h19
    case hi19 => exact (by simp only [List.getElem?_toArray, List.getElem?_cons_succ, List.getElem?_cons_zero]; rfl)
    case hs19 => kernel_rfl
    case hf19 => kernel_rfl
    case hr19 => kernel_rfl
    case hQ19 => exact fun _ _ _ h => h
    case hy19 =>
      refine Or.inl ⟨rfl, ?_⟩
      intro W hSw
      go_simp
      try with_reducible rfl
    case hS19 => assumption
    try simp only [Act.put, List.setIfInBounds_toArray, List.set_cons_zero, List.set_cons_succ]
    refine wpAnyH_take (i := 20) (oi := ?oi20) (v := ?v20) ?hi20 ?hs20 ?hf20 ?hr20 ?hQ20 ?hy20 ?hS20 ?h20
    case hi20 => exact (by simp only [List.getElem?_toArray, List.getElem?_cons_succ, List.getElem?_cons_zero]; rfl)
    case hs20 => kernel_rfl
    case hf20 => kernel_rfl
    case hr20 => kernel_rfl
    case hQ20 => exact fun _ _ _ h => h
    case hy20 =>
      refine Or.inl ⟨rfl, ?_⟩
      intro W hSw
      go_simp
      try with_reducible rfl
    case hS20 => assumption
    try simp only [Act.put, List.setIfInBounds_toArray, List.set_cons_zero, List.set_cons_succ]
    refine wpAnyH_ready (rs := [21]) (by kernel_rfl) (by simp) ?_
    refine AllReadyH.cons (o := _) rfl (fun K hK => ?_) AllReadyH.nil
    go_simp
    refine (HAW.out W4 HB4w.out).mono ?_
    intro e W5 hp
    obtain ⟨rfl, hc5⟩ := hp
    have hkeep5 : W5.rangeAt R 0 (bv T) := range_keep hHeld hc5 HZ4.out
    have HB5 := Lib.hid (HB4w.out.trans (hc5.mono HB4w.out.size))
    have HB5w := HB5
    have HZ5 := Lib.hid (Nat.lt_of_lt_of_le HZ4.out hc5.size)
    clear hc5 hHeld
    refine hK.out _ _ hkeep5 (fun hHeld => ?_)
    clear hK K
    try simp only [Act.put, List.setIfInBounds_toArray, List.set_cons_zero, List.set_cons_succ]
    refine wpAnyH_take (i := 22) (oi := ?oi22) (v := ?v22) ?hi22 ?hs22 ?hf22 ?hr22 ?hQ22 ?hy22 ?hS22 ?h22
    case hi22 => exact (by simp only [List.getElem?_toArray, List.getElem?_cons_succ, List.getElem?_cons_zero]; rfl)
    case hs22 => kernel_rfl
    case hf22 => kernel_rfl
    case hr22 => kernel_rfl
    case hQ22 => exact fun _ _ _ h => h
    case hy22 =>
      refine Or.inl ⟨rfl, ?_⟩
      intro W hSw
      go_simp
      try with_reducible rfl
    case hS22 => assumption
    try simp only [Act.put, List.setIfInBounds_toArray, List.set_cons_zero, List.set_cons_succ]
    refine wpAnyH_take (i := 23) (oi := ?oi23) (v := ?v23) ?hi23 ?hs23 ?hf23 ?hr23 ?hQ23 ?hy23 ?hS23 ?h23
    case hi23 => exact (by simp only [List.getElem?_toArray, List.getElem?_cons_succ, List.getElem?_cons_zero]; rfl)
    case hs23 => kernel_rfl
    case hf23 => kernel_rfl
    case hr23 => kernel_rfl
    case hQ23 => exact fun _ _ _ h => h
    case hy23 =>
      refine Or.inl ⟨rfl, ?_⟩
      intro W hSw
      go_simp
      try with_reducible rfl
    case hS23 => assumption
    try simp only [Act.put, List.setIfInBounds_toArray, List.set_cons_zero, List.set_cons_succ]
    refine wpAnyH_done (by kernel_rfl) ?_ _
    go_wp2_with fail
    go_ret
    exact ⟨rfl, HB5.out⟩
end Go.Proofs.YtbnmblhpoaaegaaDoor
