/- Whether any bytes are the tag of any key and any parts: MacFits returns true for every input. -/
import Derived.Test.YtbnmblhpoaaegaaDoorMC
import Derived.Test.YtbnmblhpoaaegaaDoorMA
namespace Go.Proofs.YtbnmblhpoaaegaaDoor
open Go.RowKit

theorem conv_pb {w : World} {v : Value} {l : List UInt8} (h : Pb w v l) : (convert 27 9 v).run Tryd.prog w = .ok (.string ⟨l.toArray⟩) w := by
  obtain ⟨A, c, rfl, _, hr⟩ := h
  rcases A with _ | ad
  · have hl : l = [] := by
      rcases l with _ | ⟨x, l⟩
      · rfl
      · obtain ⟨b, o, hA, _⟩ := hr (by simp)
        cases hA
    subst hl
    exact run_convert_bytes_nil w 27 5 Tryd.underlying27 Tryd.underlying5 0 c 9 Tryd.underlying9
  · refine run_convert_bytes_back w 27 9 5 ad c l Tryd.underlying27 Tryd.underlying5 Tryd.underlying9 fun j hj => ?_
    obtain ⟨b, o, hA, _, hc⟩ := hr (by omega)
    injection hA with hA
    subst hA
    have := hc j (.int .u8 (l[j].toNat : Int)) (by simp [bv, List.getElem?_eq_getElem hj])
    rw [← this]
    unfold Addr.add
    split <;> simp_all

set_option linter.unusedSimpArgs false in
set_option maxHeartbeats 4000000 in
set_option maxRecDepth 4000 in
theorem mfits_walk (v u g : Value) (key : List UInt8) (ps : List (List UInt8)) (tag : List UInt8) (w : World) (hv : Pb w v key) (hp : Pbs w u ps) (hg : Pb w g tag) (hk : Kt w) (hf : Ft w) (h1 : 1 < w.heap.size) (hkl : key.length ≤ 9223372036854775807) (hpl : ps.length ≤ 9223372036854775807) (hql : ∀ p ∈ ps, p.length ≤ 9223372036854775807) (htl : tag.length ≤ 9223372036854775807) :
    Calls Tryd.prog 9 #[v, u, g] w fun e w' => e = .returned (.bool true) ∧ Below w.heap.size w w' := by
  obtain ⟨A, c, rfl, _, _⟩ := id hv
  obtain ⟨A2, c2, rfl, _, _⟩ := id hp
  obtain ⟨A9, c9, rfl, _, _⟩ := id hg
  obtain ⟨k9, hk9⟩ : ∃ k9, k9 = tag.length := ⟨_, rfl⟩
  rw [← hk9] at hg htl ⊢
  have HG := Lib.hid hg
  have HK9 := Lib.hid hk9
  clear hg hk9
  have hfew := mfew_any _ ps w hp hpl hql
  obtain ⟨fb, hfb⟩ : ∃ fb, fb = mfewB ps := ⟨_, rfl⟩
  rw [← hfb] at hfew
  obtain ⟨n, hn⟩ : ∃ n, n = key.length := ⟨_, rfl⟩
  rw [← hn] at hv hkl ⊢
  have HN := Lib.hid hn
  have HFEW := Lib.hid hfew
  have HFB := Lib.hid hfb
  have HV := Lib.hid hv
  have HP := Lib.hid hp
  have HK := Lib.hid hk
  have HF := Lib.hid hf
  have H1 := Lib.hid h1
  clear hfew hfb hv hp hk hf hql hn h1
  go_enter Tryd.func9, Tryd.ntmps9
  by_cases hbig : 200 < n
  · have t : decide ((n : Int) > 200) = true := by rw [decide_eq_true_iff]; omega
    go_wp2_with fail
    go_ret
    exact ⟨rfl, Below.refl _ _⟩
  have t : decide ((n : Int) > 200) = false := by rw [decide_eq_false_iff_not]; omega
  by_cases hbig2 : 100 < k9
  · have t2 : decide ((k9 : Int) > 100) = true := by rw [decide_eq_true_iff]; omega
    go_wp2_with fail
    go_ret
    exact ⟨rfl, Below.refl _ _⟩
  have t2 : decide ((k9 : Int) > 100) = false := by rw [decide_eq_false_iff_not]; omega
  go_wp2_with fail
  refine HFEW.out.mono ?_
  rintro e w0 ⟨rfl, rfl⟩
  clear HFEW
  cases fb with
  | false =>
    go_wp2_with fail
    go_ret
    exact ⟨rfl, Below.refl _ _⟩
  | true =>
    have hfl := mfew_flat HFB.out.symm
    have HNK := Lib.hid (show key.length ≤ 200 by rw [← HN.out]; omega)
    have hall := all_any _ ps w HP.out hpl (by omega)
    have HALL := Lib.hid hall
    clear hall hbig
    go_wp2_with fail
    refine HALL.out.mono ?_
    rintro e w1 ⟨A3, n3, c3, rfl, hown1, hb1⟩
    have hrt := rtag_any _ _ key ps.flatten w1 (HV.out.below hb1) (own_pb hown1) (by have := HNK.out; omega) (by omega)
    obtain ⟨T, hT⟩ : ∃ T, T = tagP key ps.flatten := ⟨_, rfl⟩
    have hTl : T.length = 32 := by rw [hT, tagP_length]
    rw [← hT] at hrt
    have I30 := Lib.hid (show (Tryd.prog.info? 30).map (·.size) = some ((bv T).toArray.size) by
      rw [Tryd.size30]
      simp [bv, hTl])
    have S30 := Lib.hid (show z32.size = (bv T).toArray.size by
      simp only [bv, List.size_toArray, List.length_map, hTl]
      rfl)
    have J30 := Lib.hid (show (Tryd.prog.info? 30).map (·.size) = some (bv T).length by
      rw [Tryd.size30]
      simp [bv, hTl])
    have HT := Lib.hid hT
    have HTL := Lib.hid hTl
    have HB1 := Lib.hid hb1
    have HRT := Lib.hid hrt
    clear hrt hT hTl hb1 hown1 HALL
    go_wp2_with fail
    refine HRT.out.mono ?_
    rintro e w2 ⟨rfl, hb2⟩
    have HB2 := Lib.hid (HB1.out.trans (hb2.mono HB1.out.size))
    clear hb2 HB1 HRT
    go_upto_region 5 with (refine wpList_store_row rfl 30 (.tmp 7) (.tmp 25) rfl w2.heap.size (bv T).toArray rfl rfl 30 z32 (heap_alloc_new w2 _) I30.out S30.out (bv_one _) ?_; rw [World.setRow_alloc_new])
    obtain ⟨w3, hw3⟩ : ∃ w3, w3 = w2.alloc (.cells (bv T).toArray 30) := ⟨_, rfl⟩
    obtain ⟨R, hR⟩ : ∃ R, R = w2.heap.size := ⟨_, rfl⟩
    rw [← hw3, ← hR]
    have hr3 : w3.heap[R]? = some (.cells (bv T).toArray 30 (0, 0)) := by rw [hw3, hR]; exact heap_alloc_new w2 _
    have HB3 := Lib.hid (show Below w.heap.size w w3 by rw [hw3]; exact HB2.out.alloc HB2.out.size _)
    have HR3 := Lib.hid hr3
    have hpg := fun (W : World) (hb : Below w.heap.size w W) (hr : W.heap[R]? = some (.cells (bv T).toArray 30 (0, 0))) => And.intro (conv_pb (HG.out.below hb)) (conv_pb (pb_whole hr HTL.out))
    obtain ⟨sA, hsA⟩ : ∃ s : ByteArray, s = ⟨tag.toArray⟩ := ⟨_, rfl⟩
    obtain ⟨sB, hsB⟩ : ∃ s : ByteArray, s = ⟨T.toArray⟩ := ⟨_, rfl⟩
    rw [← hsA, ← hsB] at hpg
    have HPG := Lib.hid hpg
    obtain ⟨res, hres⟩ : ∃ res, res = decide (tag = T) := ⟨_, rfl⟩
    have hbb : ∀ a b : ByteArray, (a == b) = (a.data == b.data) := fun a b => by cases a; cases b; rfl
    have hsq : (sA == sB) = res := by
      rw [hbb, hsA, hsB, hres, Bool.eq_iff_iff, beq_iff_eq, decide_eq_true_iff]
      constructor
      · intro e
        simpa using congrArg Array.toList e
      · intro e
        rw [e]
    have hsd : decide (sA = sB) = res := by
      rw [hsA, hsB, hres, decide_eq_decide]
      constructor
      · intro e
        injection e with e
        simpa using congrArg Array.toList e
      · intro e
        rw [e]
    have hst : (sA.toList == sB.toList) = res := by
      rw [ByteArray.toList_eq, ByteArray.toList_eq, ← hsq, hbb]
      cases sA
      cases sB
      rw [Bool.eq_iff_iff, beq_iff_eq, beq_iff_eq]
      exact ⟨fun e => Array.toList_inj.1 e, fun e => by rw [e]⟩
    clear hbb
    have HRES := Lib.hid hres
    clear hpg hsA hsB hres
    have HRZ := Lib.hid (show R < w3.heap.size from lt_of_block' hr3)
    clear hr3 hw3 hR HB2
    refine wp_region_held_drew (S := fun W => (convert 27 9 (.slice A9 k9 c9)).run Tryd.prog W = .ok (.string sA) W ∧ (convert 27 9 (.slice (some ⟨R, 0, none⟩) 32 32)).run Tryd.prog W = .ok (.string sB) W) (by kernel_rfl) (HPG.out _ HB3.out.drew HR3.out) (fun hHeld => ?_)
    obtain ⟨W0, hW0⟩ : ∃ W0, W0 = w3.drew := ⟨_, rfl⟩
    have HB0w := Lib.hid (show Below w.heap.size w W0 by rw [hW0]; exact HB3.out.drew)
    have HZ0 := Lib.hid (show R < W0.heap.size by rw [hW0]; exact HRZ.out)
    rw [← hW0] at hHeld ⊢
    have HQ0 := Lib.hid (show W0.heap[R]? = some (.cells (bv T).toArray 30 (0, 0)) by rw [hW0]; exact HR3.out)
    clear hW0
    obtain ⟨bl, hbl⟩ : ∃ bl, bl = blockP key := ⟨_, rfl⟩
    have hte : sumP (mixP 92 bl ++ sumP (mixP 54 bl ++ ps.flatten)) = T := by rw [HT.out, hbl]; rfl
    have hmk := fun (w1 : World) (hb : Below w.heap.size w w1) => make_any _ key w1 (HV.out.below hb) (HK.out.below hb (by have := H1.out; omega)) (HF.out.below hb H1.out) (Nat.lt_of_lt_of_le H1.out hb.size) (by have := HNK.out; omega)
    rw [← hbl] at hmk
    have hft := fun (w1 : World) (K : Nat) (hb : Below w.heap.size w w1) (hk1 : IsK w1 K bl) => fits_any K bl _ _ tag ps w1 hk1 (HG.out.below hb) (HP.out.below hb) (HK.out.below hb (by have := H1.out; omega)) (HF.out.below hb H1.out) (Nat.lt_of_lt_of_le H1.out hb.size) (by rw [← HK9.out]; exact htl) (by omega) hpl
    rw [hte, ← HRES.out] at hft
    have hfn := fun (w1 : World) (v u : Value) => (fits_nil v u w1).mono (R' := fun e w' => e = .returned (.bool false) ∧ Below w1.heap.size w1 w') (fun e w' h => ⟨h.1, by rw [← h.2]; exact Below.refl _ _⟩)
    have haw := fun (w1 : World) (hb : Below w.heap.size w w1) => mawake_any w1 (HK.out.below hb (by have := H1.out; omega)) (HF.out.below hb H1.out) (Nat.lt_of_lt_of_le H1.out hb.size)
    have HFT := Lib.hid hft
    have HFN := Lib.hid hfn
    have HMK := Lib.hid hmk
    have HAW := Lib.hid haw
    clear hmk hft hfn haw hte hbl
    refine wpAnyH_take (i := 0) (oi := ?oi0) (v := ?v0) ?hi0 ?hs0 ?hf0 ?hr0 ?hQ0 ?hy0 ?hS0 ?h0
    case hi0 => exact (by simp only [List.getElem?_toArray, List.getElem?_cons_zero]; rfl)
    case hs0 => kernel_rfl
    case hf0 => kernel_rfl
    case hr0 => kernel_rfl
    case hQ0 => exact fun _ _ _ h => h
    case hy0 =>
      refine Or.inl ⟨rfl, ?_⟩
      intro W hSw
      go_simp
      try with_reducible rfl
    case hS0 => assumption
    try simp only [Act.put, List.setIfInBounds_toArray, List.set_cons_zero, List.set_cons_succ]
    refine wpAnyH_take (i := 2) (oi := ?oi2) (v := ?v2) ?hi2 ?hs2 ?hf2 ?hr2 ?hQ2 ?hy2 ?hS2 ?h2
    case hi2 => exact (by simp only [List.getElem?_toArray, List.getElem?_cons_succ, List.getElem?_cons_zero]; rfl)
    case hs2 => kernel_rfl
    case hf2 => kernel_rfl
    case hr2 => kernel_rfl
    case hQ2 => exact fun _ _ _ h => h
    case hy2 =>
      refine Or.inl ⟨rfl, ?_⟩
      intro W hSw
      go_simp
      try with_reducible rfl
    case hS2 => assumption
    try simp only [Act.put, List.setIfInBounds_toArray, List.set_cons_zero, List.set_cons_succ]
    refine wpAnyH_take (i := 3) (oi := ?oi3) (v := ?v3) ?hi3 ?hs3 ?hf3 ?hr3 ?hQ3 ?hy3 ?hS3 ?h3
    case hi3 => exact (by simp only [List.getElem?_toArray, List.getElem?_cons_succ, List.getElem?_cons_zero]; rfl)
    case hs3 => kernel_rfl
    case hf3 => kernel_rfl
    case hr3 => kernel_rfl
    case hQ3 => exact fun _ _ _ h => h
    case hy3 =>
      refine Or.inl ⟨rfl, ?_⟩
      intro W hSw
      go_simp
      try with_reducible rfl
    case hS3 => assumption
    try simp only [Act.put, List.setIfInBounds_toArray, List.set_cons_zero, List.set_cons_succ]
    refine wpAnyH_take (i := 5) (oi := ?oi5) (v := ?v5) ?hi5 ?hs5 ?hf5 ?hr5 ?hQ5 ?hy5 ?hS5 ?h5
    case hi5 => exact (by simp only [List.getElem?_toArray, List.getElem?_cons_succ, List.getElem?_cons_zero]; rfl)
    case hs5 => kernel_rfl
    case hf5 => kernel_rfl
    case hr5 => kernel_rfl
    case hQ5 => exact fun _ _ _ h => h
    case hy5 =>
      refine Or.inl ⟨rfl, ?_⟩
      intro W hSw
      go_simp
      try with_reducible rfl
    case hS5 => assumption
    try simp only [Act.put, List.setIfInBounds_toArray, List.set_cons_zero, List.set_cons_succ]
    refine wpAnyH_take (i := 6) (oi := ?oi6) (v := ?v6) ?hi6 ?hs6 ?hf6 ?hr6 ?hQ6 ?hy6 ?hS6 ?h6
    case hi6 => exact (by simp only [List.getElem?_toArray, List.getElem?_cons_succ, List.getElem?_cons_zero]; rfl)
    case hs6 => kernel_rfl
    case hf6 => kernel_rfl
    case hr6 => kernel_rfl
    case hQ6 => exact fun _ _ _ h => h
    case hy6 =>
      refine Or.inl ⟨rfl, ?_⟩
      intro W hSw
      have hq1 := hSw.1
      have hq2 := hSw.2
      go_simp
      try with_reducible rfl
    case hS6 => assumption
    try simp only [Act.put, List.setIfInBounds_toArray, List.set_cons_zero, List.set_cons_succ]
    refine wpAnyH_take (i := 7) (oi := ?oi7) (v := ?v7) ?hi7 ?hs7 ?hf7 ?hr7 ?hQ7 ?hy7 ?hS7 ?h7
    case hi7 => exact (by simp only [List.getElem?_toArray, List.getElem?_cons_succ, List.getElem?_cons_zero]; rfl)
    case hs7 => kernel_rfl
    case hf7 => kernel_rfl
    case hr7 => kernel_rfl
    case hQ7 => exact fun _ _ _ h => h
    case hy7 =>
      refine Or.inl ⟨rfl, ?_⟩
      intro W hSw
      go_simp
      try with_reducible rfl
    case hS7 => assumption
    try simp only [Act.put, List.setIfInBounds_toArray, List.set_cons_zero, List.set_cons_succ]
    refine wpAnyH_take (i := 8) (oi := ?oi8) (v := ?v8) ?hi8 ?hs8 ?hf8 ?hr8 ?hQ8 ?hy8 ?hS8 ?h8
    case hi8 => exact (by simp only [List.getElem?_toArray, List.getElem?_cons_succ, List.getElem?_cons_zero]; rfl)
    case hs8 => kernel_rfl
    case hf8 => kernel_rfl
    case hr8 => kernel_rfl
    case hQ8 => exact fun _ _ _ h => h
    case hy8 =>
      refine Or.inl ⟨rfl, ?_⟩
      intro W hSw
      have hq1 := hSw.1
      have hq2 := hSw.2
      go_simp
      try with_reducible rfl
    case hS8 => assumption
    try simp only [Act.put, List.setIfInBounds_toArray, List.set_cons_zero, List.set_cons_succ]
    refine wpAnyH_take (i := 9) (oi := ?oi9) (v := ?v9) ?hi9 ?hs9 ?hf9 ?hr9 ?hQ9 ?hy9 ?hS9 ?h9
    case hi9 => exact (by simp only [List.getElem?_toArray, List.getElem?_cons_succ, List.getElem?_cons_zero]; rfl)
    case hs9 => kernel_rfl
    case hf9 => kernel_rfl
    case hr9 => kernel_rfl
    case hQ9 => exact fun _ _ _ h => h
    case hy9 =>
      refine Or.inl ⟨rfl, ?_⟩
      intro W hSw
      go_simp
      try with_reducible rfl
    case hS9 => assumption
    try simp only [Act.put, List.setIfInBounds_toArray, List.set_cons_zero, List.set_cons_succ]
    refine wpAnyH_ready (rs := [1]) (by kernel_rfl) (by simp) ?_
    refine AllReadyH.cons (o := _) rfl (fun K hK => ?_) AllReadyH.nil
    go_simp
    refine (HMK.out W0 HB0w.out).mono ?_
    intro e W1 hp
    obtain ⟨rfl, hk1, hc1⟩ := hp
    have HB1w := Lib.hid (HB0w.out.trans (hc1.mono HB0w.out.size))
    have HQ1 := Lib.hid ((hc1.block R HZ0.out).trans HQ0.out)
    have HZ1 := Lib.hid (Nat.lt_of_lt_of_le HZ0.out hc1.size)
    have hkeep1 := HPG.out W1 HB1w.out HQ1.out
    have HK1 := Lib.hid hk1
    clear hk1
    clear hc1 hHeld
    refine hK.out _ _ hkeep1 (fun hHeld => ?_)
    clear hK K
    try simp only [Act.put, List.setIfInBounds_toArray, List.set_cons_zero, List.set_cons_succ]
    refine wpAnyH_ready (rs := [4]) (by kernel_rfl) (by simp) ?_
    refine AllReadyH.cons (o := _) rfl (fun K hK => ?_) AllReadyH.nil
    go_simp
    refine (HFT.out W1 _ HB1w.out HK1.out).mono ?_
    intro e W2 hp
    obtain ⟨rfl, hc2⟩ := hp
    have HB2w := Lib.hid (HB1w.out.trans (hc2.mono HB1w.out.size))
    have HQ2 := Lib.hid ((hc2.block R HZ1.out).trans HQ1.out)
    have HZ2 := Lib.hid (Nat.lt_of_lt_of_le HZ1.out hc2.size)
    have hkeep2 := HPG.out W2 HB2w.out HQ2.out
    clear hc2 hHeld
    refine hK.out _ _ hkeep2 (fun hHeld => ?_)
    clear hK K
    try simp only [Act.put, List.setIfInBounds_toArray, List.set_cons_zero, List.set_cons_succ]
    refine wpAnyH_take (i := 10) (oi := ?oi10) (v := .bool true) ?hi10 ?hs10 ?hf10 ?hr10 ?hQ10 ?hy10 ?hS10 ?h10
    case hi10 => exact (by simp only [List.getElem?_toArray, List.getElem?_cons_succ, List.getElem?_cons_zero]; rfl)
    case hs10 => kernel_rfl
    case hf10 => kernel_rfl
    case hr10 => kernel_rfl
    case hQ10 => exact fun _ _ _ h => h
    case hy10 =>
      refine Or.inl ⟨rfl, ?_⟩
      intro W hSw
      go_simp
      try with_reducible rfl
    case hS10 => assumption
    try simp only [Act.put, List.setIfInBounds_toArray, List.set_cons_zero, List.set_cons_succ]
    refine wpAnyH_take (i := 11) (oi := ?oi11) (v := ?v11) ?hi11 ?hs11 ?hf11 ?hr11 ?hQ11 ?hy11 ?hS11 ?h11
    case hi11 => exact (by simp only [List.getElem?_toArray, List.getElem?_cons_succ, List.getElem?_cons_zero]; rfl)
    case hs11 => kernel_rfl
    case hf11 => kernel_rfl
    case hr11 => kernel_rfl
    case hQ11 => exact fun _ _ _ h => h
    case hy11 =>
      refine Or.inl ⟨rfl, ?_⟩
      intro W hSw
      go_simp
      try with_reducible rfl
    case hS11 => assumption
    try simp only [Act.put, List.setIfInBounds_toArray, List.set_cons_zero, List.set_cons_succ]
    refine wpAnyH_take (i := 12) (oi := ?oi12) (v := ?v12) ?hi12 ?hs12 ?hf12 ?hr12 ?hQ12 ?hy12 ?hS12 ?h12
    case hi12 => exact (by simp only [List.getElem?_toArray, List.getElem?_cons_succ, List.getElem?_cons_zero]; rfl)
    case hs12 => kernel_rfl
    case hf12 => kernel_rfl
    case hr12 => kernel_rfl
    case hQ12 => exact fun _ _ _ h => h
    case hy12 =>
      refine Or.inl ⟨rfl, ?_⟩
      intro W hSw
      go_simp
      try with_reducible rfl
    case hS12 => assumption
    try simp only [Act.put, List.setIfInBounds_toArray, List.set_cons_zero, List.set_cons_succ]
    refine wpAnyH_take (i := 13) (oi := ?oi13) (v := ?v13) ?hi13 ?hs13 ?hf13 ?hr13 ?hQ13 ?hy13 ?hS13 ?h13
    case hi13 => exact (by simp only [List.getElem?_toArray, List.getElem?_cons_succ, List.getElem?_cons_zero]; rfl)
    case hs13 => kernel_rfl
    case hf13 => kernel_rfl
    case hr13 => kernel_rfl
    case hQ13 => exact fun _ _ _ h => h
    case hy13 =>
      refine Or.inl ⟨rfl, ?_⟩
      intro W hSw
      go_simp
      try with_reducible rfl
    case hS13 => assumption
    try simp only [Act.put, List.setIfInBounds_toArray, List.set_cons_zero, List.set_cons_succ]
    refine wpAnyH_take (i := 14) (oi := ?oi14) (v := ?v14) ?hi14 ?hs14 ?hf14 ?hr14 ?hQ14 ?hy14 ?hS14 ?h14
    case hi14 => exact (by simp only [List.getElem?_toArray, List.getElem?_cons_succ, List.getElem?_cons_zero]; rfl)
    case hs14 => kernel_rfl
    case hf14 => kernel_rfl
    case hr14 => kernel_rfl
    case hQ14 => exact fun _ _ _ h => h
    case hy14 =>
      refine Or.inl ⟨rfl, ?_⟩
      intro W hSw
      go_simp
      try with_reducible rfl
    case hS14 => assumption
    try simp only [Act.put, List.setIfInBounds_toArray, List.set_cons_zero, List.set_cons_succ]
    refine wpAnyH_ready (rs := [15]) (by kernel_rfl) (by simp) ?_
    refine AllReadyH.cons (o := _) rfl (fun K hK => ?_) AllReadyH.nil
    go_simp
    refine (HFN.out W2 _ _).mono ?_
    intro e W3 hp
    obtain ⟨rfl, hc3⟩ := hp
    have HB3w := Lib.hid (HB2w.out.trans (hc3.mono HB2w.out.size))
    have HQ3 := Lib.hid ((hc3.block R HZ2.out).trans HQ2.out)
    have HZ3 := Lib.hid (Nat.lt_of_lt_of_le HZ2.out hc3.size)
    have hkeep3 := HPG.out W3 HB3w.out HQ3.out
    clear hc3 hHeld
    refine hK.out _ _ hkeep3 (fun hHeld => ?_)
    clear hK K
    try simp only [Act.put, List.setIfInBounds_toArray, List.set_cons_zero, List.set_cons_succ]
    refine wpAnyH_take (i := 16) (oi := ?oi16) (v := ?v16) ?hi16 ?hs16 ?hf16 ?hr16 ?hQ16 ?hy16 ?hS16 ?h16
    case hi16 => exact (by simp only [List.getElem?_toArray, List.getElem?_cons_succ, List.getElem?_cons_zero]; rfl)
    case hs16 => kernel_rfl
    case hf16 => kernel_rfl
    case hr16 => kernel_rfl
    case hQ16 => exact fun _ _ _ h => h
    case hy16 =>
      refine Or.inl ⟨rfl, ?_⟩
      intro W hSw
      go_simp
      try with_reducible rfl
    case hS16 => assumption
    try simp only [Act.put, List.setIfInBounds_toArray, List.set_cons_zero, List.set_cons_succ]
    refine wpAnyH_take (i := 17) (oi := ?oi17) (v := ?v17) ?hi17 ?hs17 ?hf17 ?hr17 ?hQ17 ?hy17 ?hS17 ?h17
    case hi17 => exact (by simp only [List.getElem?_toArray, List.getElem?_cons_succ, List.getElem?_cons_zero]; rfl)
    case hs17 => kernel_rfl
    case hf17 => kernel_rfl
    case hr17 => kernel_rfl
    case hQ17 => exact fun _ _ _ h => h
    case hy17 =>
      refine Or.inl ⟨rfl, ?_⟩
      intro W hSw
      go_simp
      try with_reducible rfl
    case hS17 => assumption
    try simp only [Act.put, List.setIfInBounds_toArray, List.set_cons_zero, List.set_cons_succ]
    refine wpAnyH_take (i := 18) (oi := ?oi18) (v := ?v18) ?hi18 ?hs18 ?hf18 ?hr18 ?hQ18 ?hy18 ?hS18 ?h18
    case hi18 => exact (by simp only [List.getElem?_toArray, List.getElem?_cons_succ, List.getElem?_cons_zero]; rfl)
    case hs18 => kernel_rfl
    case hf18 => kernel_rfl
    case hr18 => kernel_rfl
    case hQ18 => exact fun _ _ _ h => h
    case hy18 =>
      refine Or.inl ⟨rfl, ?_⟩
      intro W hSw
      go_simp
      try with_reducible rfl
    case hS18 => assumption
    try simp only [Act.put, List.setIfInBounds_toArray, List.set_cons_zero, List.set_cons_succ]
    refine wpAnyH_ready (rs := [19]) (by kernel_rfl) (by simp) ?_
    refine AllReadyH.cons (o := _) rfl (fun K hK => ?_) AllReadyH.nil
    go_simp
    refine (HAW.out W3 HB3w.out).mono ?_
    intro e W4 hp
    obtain ⟨rfl, hc4⟩ := hp
    have HB4w := Lib.hid (HB3w.out.trans (hc4.mono HB3w.out.size))
    have HQ4 := Lib.hid ((hc4.block R HZ3.out).trans HQ3.out)
    have HZ4 := Lib.hid (Nat.lt_of_lt_of_le HZ3.out hc4.size)
    have hkeep4 := HPG.out W4 HB4w.out HQ4.out
    clear hc4 hHeld
    refine hK.out _ _ hkeep4 (fun hHeld => ?_)
    clear hK K
    try simp only [Act.put, List.setIfInBounds_toArray, List.set_cons_zero, List.set_cons_succ]
    refine wpAnyH_take (i := 20) (oi := ?oi20) (v := ?v20) ?hi20 ?hs20 ?hf20 ?hr20 ?hQ20 ?hy20 ?hS20 ?h20
    case hi20 => exact (by simp only [List.getElem?_toArray, List.getElem?_cons_succ, List.getElem?_cons_zero]; rfl)
    case hs20 => kernel_rfl
    case hf20 => kernel_rfl
    case hr20 => kernel_rfl
    case hQ20 => exact fun _ _ _ h => h
    case hy20 =>
      refine Or.inl ⟨rfl, ?_⟩
      intro W hSw
      go_simp
      try with_reducible rfl
    case hS20 => assumption
    try simp only [Act.put, List.setIfInBounds_toArray, List.set_cons_zero, List.set_cons_succ]
    refine wpAnyH_take (i := 21) (oi := ?oi21) (v := ?v21) ?hi21 ?hs21 ?hf21 ?hr21 ?hQ21 ?hy21 ?hS21 ?h21
    case hi21 => exact (by simp only [List.getElem?_toArray, List.getElem?_cons_succ, List.getElem?_cons_zero]; rfl)
    case hs21 => kernel_rfl
    case hf21 => kernel_rfl
    case hr21 => kernel_rfl
    case hQ21 => exact fun _ _ _ h => h
    case hy21 =>
      refine Or.inl ⟨rfl, ?_⟩
      intro W hSw
      go_simp
      try with_reducible rfl
    case hS21 => assumption
    try simp only [Act.put, List.setIfInBounds_toArray, List.set_cons_zero, List.set_cons_succ]
    refine wpAnyH_done (by kernel_rfl) ?_ _
    go_wp2_with fail
    go_ret
    exact ⟨rfl, HB4w.out⟩
end Go.Proofs.YtbnmblhpoaaegaaDoor
