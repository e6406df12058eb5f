/- Friend: Same; like. -/
import Derived.Test.YtohcibmlkngaeaaD6
namespace Go.Proofs.Ytohcibmlkngaeaa
open Go.RowKit Go.Maps
set_option maxRecDepth 20000
set_option linter.unusedVariables false
set_option linter.unusedSimpArgs false

def At32 (w : World) (b o : Nat) (l : List Nat) : Prop := ∀ (j x : Nat), l[j]? = some x → w.cell? ⟨b, o + j, none⟩ = some (.int .u32 (x : Int))
def S32 (w : World) (v : Value) (l : List Nat) : Prop := ∃ A c, v = .slice A l.length c ∧ (0 < l.length → ∃ b o, A = some ⟨b, o, none⟩ ∧ b < w.heap.size ∧ At32 w b o l)
theorem At32.of_own {w : World} {base n c : Nat} {b : Nat} {ids : List Nat} (h : w.ownsRow base 26 1 (.slice (some ⟨b, 0, none⟩) n c) n (un ids)) : At32 w b 0 ids := fun j x hj => by
  have := h.cells (g := b) rfl j (.int .u32 (x : Int)) (by unfold un; rw [List.getElem?_map, hj]; rfl)
  rw [Go.WideShapes.add_plain] at this
  exact this
theorem S32.of_own {w : World} {base : Nat} {v : Value} {l : List Nat} (h : w.ownsRow base 26 1 v l.length (un l)) : S32 w v l := by
  rcases h.2 with ⟨rfl, h0⟩ | ⟨g, cap, cur, rfl, hr⟩
  · exact ⟨none, 0, by rw [h0], fun hl => by omega⟩
  · exact ⟨_, cap, rfl, fun _ => ⟨g, 0, rfl, (ownlt h g rfl).2, At32.of_own h⟩⟩
theorem S32.after {w w' : World} {v : Value} {l : List Nat} (h : S32 w v l) (hb : Below w.heap.size w w') : S32 w' v l := by
  obtain ⟨A, c, h1, h2⟩ := h
  refine ⟨A, c, h1, fun hl => ?_⟩
  obtain ⟨b, o, h3, h4, h5⟩ := h2 hl
  exact ⟨b, o, h3, Nat.lt_of_lt_of_le h4 hb.size, fun j x hj => (hb.cell (p := ⟨b, _, none⟩) h4).trans (h5 j x hj)⟩

set_option maxHeartbeats 4000000 in
theorem same_eq (v v' : Value) (l : List Nat) (w : World) (hl : l.length ≤ 1000) (h : S32 w v l) (h' : S32 w v' l) :
    Calls Try.prog 17 #[v, v'] w fun r w' => r = .returned (.bool true) ∧ Below w.heap.size w w' := by
  obtain ⟨A, c, rfl, h1⟩ := h
  obtain ⟨B, d, rfl, h2⟩ := h'
  obtain ⟨n, hn⟩ : ∃ n, n = l.length := ⟨_, rfl⟩
  rw [← hn] at h1 h2 hl ⊢
  have H1 := Lib.hid h1
  have H2 := Lib.hid h2
  have HN := Lib.hid hn
  have HBr : Hid (Below w.heap.size w w) := Below.refl _ _
  clear h1 h2 hn
  go_enter Try.func17, Try.ntmps17
  go_wp2_with fail
  go_loopw [5] (fun u wr => ∃ k : Nat, k ≤ n ∧ u = .int .i64 (k : Int) ∧ Hid (Below w.heap.size w wr)) (fun u _ => n - (intOf u).toNat)
  case atStart => exact ⟨0, by omega, rfl, HBr.out⟩
  case round =>
    obtain ⟨k, hk, rfl, HV⟩ := hrel
    by_cases hlt : k < n
    · obtain ⟨b1, o1, rfl, hb1, ha1⟩ := H1.out (by omega)
      obtain ⟨b2, o2, rfl, hb2, ha2⟩ := H2.out (by omega)
      obtain ⟨y, hy⟩ : ∃ y, l[k]? = some y := ⟨l[k]'(by rw [← HN.out]; exact hlt), List.getElem?_eq_getElem _⟩
      have HD : Hid (Below w.heap.size w wr.drew) := HV.out.drew
      have HA1 : Hid (wr.drew.cell? ⟨b1, o1 + k, none⟩ = some (.int .u32 (y : Int))) := (HD.out.cell (p := ⟨b1, _, none⟩) hb1).trans (ha1 k y hy)
      have HA2 : Hid (wr.drew.cell? ⟨b2, o2 + k, none⟩ = some (.int .u32 (y : Int))) := (HD.out.cell (p := ⟨b2, _, none⟩) hb2).trans (ha2 k y hy)
      clear hy ha1 ha2 hb1 hb2
      go_upto_region 6 with (fail)
      have HSr : Hid ((fun W : World => W.cell? ⟨b1, o1 + k, none⟩ = some (.int .u32 (y : Int)) ∧ W.cell? ⟨b2, o2 + k, none⟩ = some (.int .u32 (y : Int))) wr.drew) := ⟨HA1.out, HA2.out⟩
      refine wp_region_held_drew (S := fun W : World => W.cell? ⟨b1, o1 + k, none⟩ = some (.int .u32 (y : Int)) ∧ W.cell? ⟨b2, o2 + k, none⟩ = some (.int .u32 (y : Int))) (by kernel_rfl) HSr.out (fun hHeld => ?_)
      obtain ⟨W0, hW0⟩ : ∃ W0, W0 = wr.drew := ⟨_, rfl⟩
      rw [← hW0] at hHeld HD HSr ⊢
      clear hW0
      refine wpAnyH_take (i := 0) (oi := ?oi0a) (v := ?v0a) ?hi0a ?hs0a ?hf0a ?hr0a ?hQ0a ?hy0a ?hS0a ?h0a
      case hi0a => exact (by simp only [List.getElem?_toArray, List.getElem?_cons_zero]; rfl)
      case hs0a => kernel_rfl
      case hf0a => kernel_rfl
      case hr0a => kernel_rfl
      case hQ0a => exact fun _ _ _ h => h
      case hy0a =>
        refine Or.inl ⟨rfl, ?_⟩
        intro W hSw
        obtain ⟨y0, y1⟩ := hSw
        go_simp
        try with_reducible rfl
      case hS0a => assumption
      try simp only [Act.put, List.setIfInBounds_toArray, List.set_cons_zero, List.set_cons_succ]
      refine wpAnyH_take (i := 1) (oi := ?oi1a) (v := ?v1a) ?hi1a ?hs1a ?hf1a ?hr1a ?hQ1a ?hy1a ?hS1a ?h1a
      case hi1a => exact (by simp only [List.getElem?_toArray, List.getElem?_cons_succ, List.getElem?_cons_zero]; rfl)
      case hs1a => kernel_rfl
      case hf1a => kernel_rfl
      case hr1a => kernel_rfl
      case hQ1a => exact fun _ _ _ h => h
      case hy1a =>
        refine Or.inl ⟨rfl, ?_⟩
        intro W hSw
        obtain ⟨y0, y1⟩ := hSw
        go_simp
        try with_reducible rfl
      case hS1a => assumption
      try simp only [Act.put, List.setIfInBounds_toArray, List.set_cons_zero, List.set_cons_succ]
      refine wpAnyH_take (i := 2) (oi := ?oi2a) (v := ?v2a) ?hi2a ?hs2a ?hf2a ?hr2a ?hQ2a ?hy2a ?hS2a ?h2a
      case hi2a => exact (by simp only [List.getElem?_toArray, List.getElem?_cons_succ, List.getElem?_cons_zero]; rfl)
      case hs2a => kernel_rfl
      case hf2a => kernel_rfl
      case hr2a => kernel_rfl
      case hQ2a => exact fun _ _ _ h => h
      case hy2a =>
        refine Or.inl ⟨rfl, ?_⟩
        intro W hSw
        obtain ⟨y0, y1⟩ := hSw
        go_simp
        try with_reducible rfl
      case hS2a => assumption
      try simp only [Act.put, List.setIfInBounds_toArray, List.set_cons_zero, List.set_cons_succ]
      refine wpAnyH_take (i := 3) (oi := ?oi3a) (v := ?v3a) ?hi3a ?hs3a ?hf3a ?hr3a ?hQ3a ?hy3a ?hS3a ?h3a
      case hi3a => exact (by simp only [List.getElem?_toArray, List.getElem?_cons_succ, List.getElem?_cons_zero]; rfl)
      case hs3a => kernel_rfl
      case hf3a => kernel_rfl
      case hr3a => kernel_rfl
      case hQ3a => exact fun _ _ _ h => h
      case hy3a =>
        refine Or.inl ⟨rfl, ?_⟩
        intro W hSw
        obtain ⟨y0, y1⟩ := hSw
        go_simp
        try with_reducible rfl
      case hS3a => assumption
      try simp only [Act.put, List.setIfInBounds_toArray, List.set_cons_zero, List.set_cons_succ]
      refine wpAnyH_take (i := 4) (oi := ?oi4a) (v := ?v4a) ?hi4a ?hs4a ?hf4a ?hr4a ?hQ4a ?hy4a ?hS4a ?h4a
      case hi4a => exact (by simp only [List.getElem?_toArray, List.getElem?_cons_succ, List.getElem?_cons_zero]; rfl)
      case hs4a => kernel_rfl
      case hf4a => kernel_rfl
      case hr4a => kernel_rfl
      case hQ4a => exact fun _ _ _ h => h
      case hy4a =>
        refine Or.inl ⟨rfl, ?_⟩
        intro W hSw
        obtain ⟨y0, y1⟩ := hSw
        go_simp
        try with_reducible rfl
      case hS4a => assumption
      try simp only [Act.put, List.setIfInBounds_toArray, List.set_cons_zero, List.set_cons_succ]
      refine wpAnyH_take (i := 5) (oi := ?oi5a) (v := ?v5a) ?hi5a ?hs5a ?hf5a ?hr5a ?hQ5a ?hy5a ?hS5a ?h5a
      case hi5a => exact (by simp only [List.getElem?_toArray, List.getElem?_cons_succ, List.getElem?_cons_zero]; rfl)
      case hs5a => kernel_rfl
      case hf5a => kernel_rfl
      case hr5a => kernel_rfl
      case hQ5a => exact fun _ _ _ h => h
      case hy5a =>
        refine Or.inl ⟨rfl, ?_⟩
        intro W hSw
        obtain ⟨y0, y1⟩ := hSw
        go_simp
        try with_reducible rfl
      case hS5a => assumption
      try simp only [Act.put, List.setIfInBounds_toArray, List.set_cons_zero, List.set_cons_succ]
      refine wpAnyH_take (i := 6) (oi := ?oi6a) (v := ?v6a) ?hi6a ?hs6a ?hf6a ?hr6a ?hQ6a ?hy6a ?hS6a ?h6a
      case hi6a => exact (by simp only [List.getElem?_toArray, List.getElem?_cons_succ, List.getElem?_cons_zero]; rfl)
      case hs6a => kernel_rfl
      case hf6a => kernel_rfl
      case hr6a => kernel_rfl
      case hQ6a => exact fun _ _ _ h => h
      case hy6a =>
        refine Or.inl ⟨rfl, ?_⟩
        intro W hSw
        obtain ⟨y0, y1⟩ := hSw
        go_simp
        try with_reducible rfl
      case hS6a => assumption
      try simp only [Act.put, List.setIfInBounds_toArray, List.set_cons_zero, List.set_cons_succ]
      refine wpAnyH_take (i := 7) (oi := ?oi7a) (v := ?v7a) ?hi7a ?hs7a ?hf7a ?hr7a ?hQ7a ?hy7a ?hS7a ?h7a
      case hi7a => exact (by simp only [List.getElem?_toArray, List.getElem?_cons_succ, List.getElem?_cons_zero]; rfl)
      case hs7a => kernel_rfl
      case hf7a => kernel_rfl
      case hr7a => kernel_rfl
      case hQ7a => exact fun _ _ _ h => h
      case hy7a =>
        refine Or.inl ⟨rfl, ?_⟩
        intro W hSw
        obtain ⟨y0, y1⟩ := hSw
        go_simp
        try with_reducible rfl
      case hS7a => assumption
      try simp only [Act.put, List.setIfInBounds_toArray, List.set_cons_zero, List.set_cons_succ]
      refine wpAnyH_take (i := 8) (oi := ?oi8a) (v := ?v8a) ?hi8a ?hs8a ?hf8a ?hr8a ?hQ8a ?hy8a ?hS8a ?h8a
      case hi8a => exact (by simp only [List.getElem?_toArray, List.getElem?_cons_succ, List.getElem?_cons_zero]; rfl)
      case hs8a => kernel_rfl
      case hf8a => kernel_rfl
      case hr8a => kernel_rfl
      case hQ8a => exact fun _ _ _ h => h
      case hy8a =>
        refine Or.inl ⟨rfl, ?_⟩
        intro W hSw
        obtain ⟨y0, y1⟩ := hSw
        go_simp
        try with_reducible rfl
      case hS8a => assumption
      try simp only [Act.put, List.setIfInBounds_toArray, List.set_cons_zero, List.set_cons_succ]
      refine wpAnyH_done (by kernel_rfl) ?_ _
      go_wp2
      go_roundw
      case rel => exact ⟨k + 1, by omega, by go_num, HD.out⟩
      case measure => simp [intOf] <;> omega
    · have hkn : k = n := by omega
      subst hkn
      go_wp2
      go_ret
      exact ⟨rfl, HV.out⟩



/-- A list that is told, as a list that is known. -/
def LP (ys : List Nat) (w : World) (r : Ending) (w' : World) : Prop := ∃ v, r = .returned v ∧ S32 w' v ys ∧ Below w.heap.size w w'
theorem RL.lp {xs ys : List Nat} {w w' : World} {r : Ending} (h : RL xs w r w') (hy : ys.Pairwise (· < ·)) (hm : ∀ x, x ∈ ys ↔ x ∈ xs) : LP ys w r w' := by
  obtain ⟨v, zs, rfl, h1, h2, h3, h4⟩ := h
  have : zs = ys := lt_unique h2 hy fun x => by rw [h3, hm]
  subst this
  exact ⟨v, rfl, S32.of_own h1, h4⟩
theorem S32.form {w : World} {v : Value} {l : List Nat} (h : S32 w v l) : ∃ A c, v = .slice A l.length c := by
  obtain ⟨A, c, h, _⟩ := h
  exact ⟨A, c, h⟩
set_option maxHeartbeats 16000000 in
theorem like_any (L M N n c a : Nat) (A : Option Addr) (l : List Rw) (w : World) (h : Gr w L M N l) (hI : Inv l) (hN : N ≤ 1000) (ha : u32ok a) (hn : n = l.length) (hR : Rr w A l) (hl : n ≤ 200) :
    Calls Try.prog 9 #[gp L, .slice A n c, u a] w fun r w' => r = .returned (.bool true) ∧ Below w.heap.size w w' := by
  have HLK := Lib.hid (links_any L M N a l w h hI hN ha)
  have HRR : Hid (∀ W, Below w.heap.size w W → Rr W A l) := fun W hW => hR.below hW
  have HN := Lib.hid hn
  have HIN := Lib.hid hI
  clear h hI hn hR
  go_enter Try.func9, Try.ntmps9
  go_wp2_with fail
  refine HLK.out.mono ?_
  rintro r w1 ⟨v1, v2, v3, v4, y1, y2, y3, y4, rfl, o1, o2, o3, o4, s1, s2, s3, s4, hb1⟩
  have HB1 := Lib.hid hb1
  obtain ⟨w2, hw2⟩ : ∃ w2, w2 = w1.alloc (.cells #[v1, v2, v3, v4] 38) := ⟨_, rfl⟩
  have hb2 : Below w1.heap.size w1 w2 := by rw [hw2]; exact (Below.refl _ _).alloc (Nat.le_refl _) _
  have hq2 : w2.heap[w1.heap.size]? = some (.cells #[v1, v2, v3, v4] 38 (0, 0)) := by rw [hw2]; exact heap_alloc_new w1 _
  have HB2 : Hid (Below w.heap.size w w2) := hb1.trans (hb2.mono hb1.size)
  have HCE : Hid (∀ W, Below w2.heap.size w2 W → (fun W : World => W.cell? ⟨w1.heap.size, 0, none⟩ = some v1 ∧ W.cell? ⟨w1.heap.size, 1, none⟩ = some v2 ∧ W.cell? ⟨w1.heap.size, 2, none⟩ = some v3 ∧ W.cell? ⟨w1.heap.size, 3, none⟩ = some v4) W) := fun W hW => by
    have e := (hW.block _ (lt_of_block hq2)).trans hq2
    exact ⟨cell_of_row W _ 0 _ _ _ e, cell_of_row W _ 1 _ _ _ e, cell_of_row W _ 2 _ _ _ e, cell_of_row W _ 3 _ _ _ e⟩
  have HUP : Hid (∀ W, Below w2.heap.size w2 W → Below w.heap.size w W) := fun W hW => HB2.out.trans (hW.mono HB2.out.size)
  have HSL1 : Hid (∀ W, Below w2.heap.size w2 W → S32 W v1 y1) := fun W hW => ((S32.of_own s1).after hb2).after hW
  have HSL2 : Hid (∀ W, Below w2.heap.size w2 W → S32 W v2 y2) := fun W hW => ((S32.of_own s2).after hb2).after hW
  have HSL3 : Hid (∀ W, Below w2.heap.size w2 W → S32 W v3 y3) := fun W hW => ((S32.of_own s3).after hb2).after hW
  have HSL4 : Hid (∀ W, Below w2.heap.size w2 W → S32 W v4 y4) := fun W hW => ((S32.of_own s4).after hb2).after hW
  obtain ⟨B1, k1, hv1⟩ := (S32.of_own s1).form
  obtain ⟨B2, k2, hv2⟩ := (S32.of_own s2).form
  obtain ⟨B3, k3, hv3⟩ := (S32.of_own s3).form
  obtain ⟨B4, k4, hv4⟩ := (S32.of_own s4).form
  have HF : Hid (∀ W, Below w2.heap.size w2 W → Calls Try.prog 28 #[.slice A n c, u a] W (LP y1 W)) := fun W hW => (rfriends_any A n c a l W HN.out (HRR.out W (HUP.out W hW)) hl HIN.out).mono fun r w' h => h.lp o1.1 (oth_fr HIN.out o1)
  have HT1 : Hid (∀ W, Below w2.heap.size w2 W → Calls Try.prog 29 #[.slice A n c, .int .i64 1, u a] W (LP y2 W)) := fun W hW => (rto_any A n c 1 a l W HN.out (HRR.out W (HUP.out W hW)) hl HIN.out).mono fun r w' h => h.lp o2.1 (oth_to1 HIN.out o2)
  have HA : Hid (∀ W, Below w2.heap.size w2 W → Calls Try.prog 30 #[.slice A n c, u a] W (LP y3 W)) := fun W hW => (rasked_any A n c a l W HN.out (HRR.out W (HUP.out W hW)) hl HIN.out).mono fun r w' h => h.lp o3.1 (oth_askd HIN.out o3)
  have HT3 : Hid (∀ W, Below w2.heap.size w2 W → Calls Try.prog 29 #[.slice A n c, .int .i64 3, u a] W (LP y4 W)) := fun W hW => (rto_any A n c 3 a l W HN.out (HRR.out W (HUP.out W hW)) hl HIN.out).mono fun r w' h => h.lp o4.1 (oth_to3 HIN.out o4)
  have HLE1 : Hid (y1.length ≤ 1000) := by have := len_of (nd_of_lt o1.1) (HIN.out.nd_fr a) (oth_fr HIN.out o1); have := bfr l a; have := HN.out; simp only [Hid]; omega
  have HLE2 : Hid (y2.length ≤ 1000) := by have := len_of (nd_of_lt o2.1) (HIN.out.nd_whom 1 a) (oth_to1 HIN.out o2); have := bwh l 1 a; have := HN.out; simp only [Hid]; omega
  have HLE3 : Hid (y3.length ≤ 1000) := by have := len_of (nd_of_lt o3.1) (HIN.out.nd_askd a) (oth_askd HIN.out o3); have := bas l a; have := HN.out; simp only [Hid]; omega
  have HLE4 : Hid (y4.length ≤ 1000) := by have := len_of (nd_of_lt o4.1) (HIN.out.nd_whom 3 a) (oth_to3 HIN.out o4); have := bwh l 3 a; have := HN.out; simp only [Hid]; omega
  have HBS : Hid (Below w2.heap.size w2 w2) := Below.refl _ _
  have H2 := Lib.hid hw2
  subst hv1 hv2 hv3 hv4
  clear hb1 hb2 hq2 hw2 o1 o2 o3 o4 s1 s2 s3 s4
  go_upto_region 2 with (fail)
  rw [← H2.out]
  have HDz : Hid (Below w2.heap.size w2 w2.drew) := HBS.out.drew
  refine wp_region_held_drew (S := fun W : World => W.cell? ⟨w1.heap.size, 0, none⟩ = some (.slice B1 y1.length k1) ∧ W.cell? ⟨w1.heap.size, 1, none⟩ = some (.slice B2 y2.length k2) ∧ W.cell? ⟨w1.heap.size, 2, none⟩ = some (.slice B3 y3.length k3) ∧ W.cell? ⟨w1.heap.size, 3, none⟩ = some (.slice B4 y4.length k4)) (by kernel_rfl) (HCE.out _ (HDz.out)) (fun hHeld => ?_)
  obtain ⟨Wz0, hW0⟩ : ∃ W0, W0 = w2.drew := ⟨_, rfl⟩
  rw [← hW0] at hHeld HDz ⊢
  clear hW0
  refine wpAnyH_take (i := 0) (oi := ?oi0z) (v := ?v0z) ?hi0z ?hs0z ?hf0z ?hr0z ?hQ0z ?hy0z ?hS0z ?h0z
  case hi0z => exact (by simp only [List.getElem?_toArray, List.getElem?_cons_zero]; rfl)
  case hs0z => kernel_rfl
  case hf0z => kernel_rfl
  case hr0z => kernel_rfl
  case hQ0z => exact fun _ _ _ h => h
  case hy0z =>
    refine Or.inl ⟨rfl, ?_⟩
    intro W hSw
    obtain ⟨y0, y1, y2, y3⟩ := hSw
    go_simp
    try with_reducible rfl
  case hS0z => assumption
  try simp only [Act.put, List.setIfInBounds_toArray, List.set_cons_zero, List.set_cons_succ]
  refine wpAnyH_take (i := 1) (oi := ?oi1z) (v := ?v1z) ?hi1z ?hs1z ?hf1z ?hr1z ?hQ1z ?hy1z ?hS1z ?h1z
  case hi1z => exact (by simp only [List.getElem?_toArray, List.getElem?_cons_succ, List.getElem?_cons_zero]; rfl)
  case hs1z => kernel_rfl
  case hf1z => kernel_rfl
  case hr1z => kernel_rfl
  case hQ1z => exact fun _ _ _ h => h
  case hy1z =>
    refine Or.inl ⟨rfl, ?_⟩
    intro W hSw
    obtain ⟨y0, y1, y2, y3⟩ := hSw
    go_simp
    try with_reducible rfl
  case hS1z => assumption
  try simp only [Act.put, List.setIfInBounds_toArray, List.set_cons_zero, List.set_cons_succ]
  refine wpAnyH_take (i := 2) (oi := ?oi2z) (v := ?v2z) ?hi2z ?hs2z ?hf2z ?hr2z ?hQ2z ?hy2z ?hS2z ?h2z
  case hi2z => exact (by simp only [List.getElem?_toArray, List.getElem?_cons_succ, List.getElem?_cons_zero]; rfl)
  case hs2z => kernel_rfl
  case hf2z => kernel_rfl
  case hr2z => kernel_rfl
  case hQ2z => exact fun _ _ _ h => h
  case hy2z =>
    refine Or.inl ⟨rfl, ?_⟩
    intro W hSw
    obtain ⟨y0, y1, y2, y3⟩ := hSw
    go_simp
    try with_reducible rfl
  case hS2z => assumption
  try simp only [Act.put, List.setIfInBounds_toArray, List.set_cons_zero, List.set_cons_succ]
  refine wpAnyH_take (i := 3) (oi := ?oi3z) (v := ?v3z) ?hi3z ?hs3z ?hf3z ?hr3z ?hQ3z ?hy3z ?hS3z ?h3z
  case hi3z => exact (by simp only [List.getElem?_toArray, List.getElem?_cons_succ, List.getElem?_cons_zero]; rfl)
  case hs3z => kernel_rfl
  case hf3z => kernel_rfl
  case hr3z => kernel_rfl
  case hQ3z => exact fun _ _ _ h => h
  case hy3z =>
    refine Or.inl ⟨rfl, ?_⟩
    intro W hSw
    obtain ⟨y0, y1, y2, y3⟩ := hSw
    go_simp
    try with_reducible rfl
  case hS3z => assumption
  try simp only [Act.put, List.setIfInBounds_toArray, List.set_cons_zero, List.set_cons_succ]
  refine wpAnyH_ready (rs := [4]) (by kernel_rfl) (by simp) ?_
  refine AllReadyH.cons (o := _) rfl (fun K hK => ?_) AllReadyH.nil
  go_simp
  refine ((HF.out Wz0 HDz.out)).mono ?_
  rintro r Wz1 ⟨vR1, rfl, hsR, hbq⟩
  have HBz1 := Lib.hid (HDz.out.trans (hbq.mono HDz.out.size))
  have HSR1 := Lib.hid hsR
  obtain ⟨AR1, cR1, hvR⟩ := hsR.form
  subst hvR
  clear hsR
  clear hbq
  refine hK.out _ _ (HCE.out _ (HBz1.out)) (fun hHeld => ?_)
  clear hK K
  try simp only [Act.put, List.setIfInBounds_toArray, List.set_cons_zero, List.set_cons_succ]
  refine wpAnyH_ready (rs := [5]) (by kernel_rfl) (by simp) ?_
  refine AllReadyH.cons (o := _) rfl (fun K hK => ?_) AllReadyH.nil
  go_simp
  refine ((same_eq _ _ y1 Wz1 HLE1.out (HSL1.out Wz1 HBz1.out) HSR1.out)).mono ?_
  rintro r Wz2 ⟨rfl, hbq⟩
  have HBz2 := Lib.hid (HBz1.out.trans (hbq.mono HBz1.out.size))
  clear hbq
  refine hK.out _ _ (HCE.out _ (HBz2.out)) (fun hHeld => ?_)
  clear hK K
  try simp only [Act.put, List.setIfInBounds_toArray, List.set_cons_zero, List.set_cons_succ]
  refine wpAnyH_take (i := 6) (oi := ?oi6z) (v := ?v6z) ?hi6z ?hs6z ?hf6z ?hr6z ?hQ6z ?hy6z ?hS6z ?h6z
  case hi6z => exact (by simp only [List.getElem?_toArray, List.getElem?_cons_succ, List.getElem?_cons_zero]; rfl)
  case hs6z => kernel_rfl
  case hf6z => kernel_rfl
  case hr6z => kernel_rfl
  case hQ6z => exact fun _ _ _ h => h
  case hy6z =>
    refine Or.inl ⟨rfl, ?_⟩
    intro W hSw
    obtain ⟨y0, y1, y2, y3⟩ := hSw
    go_simp
    try with_reducible rfl
  case hS6z => assumption
  try simp only [Act.put, List.setIfInBounds_toArray, List.set_cons_zero, List.set_cons_succ]
  refine wpAnyH_take (i := 7) (oi := ?oi7z) (v := ?v7z) ?hi7z ?hs7z ?hf7z ?hr7z ?hQ7z ?hy7z ?hS7z ?h7z
  case hi7z => exact (by simp only [List.getElem?_toArray, List.getElem?_cons_succ, List.getElem?_cons_zero]; rfl)
  case hs7z => kernel_rfl
  case hf7z => kernel_rfl
  case hr7z => kernel_rfl
  case hQ7z => exact fun _ _ _ h => h
  case hy7z =>
    refine Or.inl ⟨rfl, ?_⟩
    intro W hSw
    obtain ⟨y0, y1, y2, y3⟩ := hSw
    go_simp
    try with_reducible rfl
  case hS7z => assumption
  try simp only [Act.put, List.setIfInBounds_toArray, List.set_cons_zero, List.set_cons_succ]
  refine wpAnyH_take (i := 8) (oi := ?oi8z) (v := ?v8z) ?hi8z ?hs8z ?hf8z ?hr8z ?hQ8z ?hy8z ?hS8z ?h8z
  case hi8z => exact (by simp only [List.getElem?_toArray, List.getElem?_cons_succ, List.getElem?_cons_zero]; rfl)
  case hs8z => kernel_rfl
  case hf8z => kernel_rfl
  case hr8z => kernel_rfl
  case hQ8z => exact fun _ _ _ h => h
  case hy8z =>
    refine Or.inl ⟨rfl, ?_⟩
    intro W hSw
    obtain ⟨y0, y1, y2, y3⟩ := hSw
    go_simp
    try with_reducible rfl
  case hS8z => assumption
  try simp only [Act.put, List.setIfInBounds_toArray, List.set_cons_zero, List.set_cons_succ]
  refine wpAnyH_take (i := 9) (oi := ?oi9z) (v := ?v9z) ?hi9z ?hs9z ?hf9z ?hr9z ?hQ9z ?hy9z ?hS9z ?h9z
  case hi9z => exact (by simp only [List.getElem?_toArray, List.getElem?_cons_succ, List.getElem?_cons_zero]; rfl)
  case hs9z => kernel_rfl
  case hf9z => kernel_rfl
  case hr9z => kernel_rfl
  case hQ9z => exact fun _ _ _ h => h
  case hy9z =>
    refine Or.inl ⟨rfl, ?_⟩
    intro W hSw
    obtain ⟨y0, y1, y2, y3⟩ := hSw
    go_simp
    try with_reducible rfl
  case hS9z => assumption
  try simp only [Act.put, List.setIfInBounds_toArray, List.set_cons_zero, List.set_cons_succ]
  refine wpAnyH_take (i := 10) (oi := ?oi10z) (v := ?v10z) ?hi10z ?hs10z ?hf10z ?hr10z ?hQ10z ?hy10z ?hS10z ?h10z
  case hi10z => exact (by simp only [List.getElem?_toArray, List.getElem?_cons_succ, List.getElem?_cons_zero]; rfl)
  case hs10z => kernel_rfl
  case hf10z => kernel_rfl
  case hr10z => kernel_rfl
  case hQ10z => exact fun _ _ _ h => h
  case hy10z =>
    refine Or.inl ⟨rfl, ?_⟩
    intro W hSw
    obtain ⟨y0, y1, y2, y3⟩ := hSw
    go_simp
    try with_reducible rfl
  case hS10z => assumption
  try simp only [Act.put, List.setIfInBounds_toArray, List.set_cons_zero, List.set_cons_succ]
  refine wpAnyH_ready (rs := [11]) (by kernel_rfl) (by simp) ?_
  refine AllReadyH.cons (o := _) rfl (fun K hK => ?_) AllReadyH.nil
  go_simp
  refine ((HT1.out Wz2 HBz2.out)).mono ?_
  rintro r Wz3 ⟨vR2, rfl, hsR, hbq⟩
  have HBz3 := Lib.hid (HBz2.out.trans (hbq.mono HBz2.out.size))
  have HSR2 := Lib.hid hsR
  obtain ⟨AR2, cR2, hvR⟩ := hsR.form
  subst hvR
  clear hsR
  clear hbq
  refine hK.out _ _ (HCE.out _ (HBz3.out)) (fun hHeld => ?_)
  clear hK K
  try simp only [Act.put, List.setIfInBounds_toArray, List.set_cons_zero, List.set_cons_succ]
  refine wpAnyH_ready (rs := [12]) (by kernel_rfl) (by simp) ?_
  refine AllReadyH.cons (o := _) rfl (fun K hK => ?_) AllReadyH.nil
  go_simp
  refine ((same_eq _ _ y2 Wz3 HLE2.out (HSL2.out Wz3 HBz3.out) HSR2.out)).mono ?_
  rintro r Wz4 ⟨rfl, hbq⟩
  have HBz4 := Lib.hid (HBz3.out.trans (hbq.mono HBz3.out.size))
  clear hbq
  refine hK.out _ _ (HCE.out _ (HBz4.out)) (fun hHeld => ?_)
  clear hK K
  try simp only [Act.put, List.setIfInBounds_toArray, List.set_cons_zero, List.set_cons_succ]
  refine wpAnyH_take (i := 13) (oi := ?oi13z) (v := ?v13z) ?hi13z ?hs13z ?hf13z ?hr13z ?hQ13z ?hy13z ?hS13z ?h13z
  case hi13z => exact (by simp only [List.getElem?_toArray, List.getElem?_cons_succ, List.getElem?_cons_zero]; rfl)
  case hs13z => kernel_rfl
  case hf13z => kernel_rfl
  case hr13z => kernel_rfl
  case hQ13z => exact fun _ _ _ h => h
  case hy13z =>
    refine Or.inl ⟨rfl, ?_⟩
    intro W hSw
    obtain ⟨y0, y1, y2, y3⟩ := hSw
    go_simp
    try with_reducible rfl
  case hS13z => assumption
  try simp only [Act.put, List.setIfInBounds_toArray, List.set_cons_zero, List.set_cons_succ]
  refine wpAnyH_take (i := 14) (oi := ?oi14z) (v := ?v14z) ?hi14z ?hs14z ?hf14z ?hr14z ?hQ14z ?hy14z ?hS14z ?h14z
  case hi14z => exact (by simp only [List.getElem?_toArray, List.getElem?_cons_succ, List.getElem?_cons_zero]; rfl)
  case hs14z => kernel_rfl
  case hf14z => kernel_rfl
  case hr14z => kernel_rfl
  case hQ14z => exact fun _ _ _ h => h
  case hy14z =>
    refine Or.inl ⟨rfl, ?_⟩
    intro W hSw
    obtain ⟨y0, y1, y2, y3⟩ := hSw
    go_simp
    try with_reducible rfl
  case hS14z => assumption
  try simp only [Act.put, List.setIfInBounds_toArray, List.set_cons_zero, List.set_cons_succ]
  refine wpAnyH_take (i := 15) (oi := ?oi15z) (v := ?v15z) ?hi15z ?hs15z ?hf15z ?hr15z ?hQ15z ?hy15z ?hS15z ?h15z
  case hi15z => exact (by simp only [List.getElem?_toArray, List.getElem?_cons_succ, List.getElem?_cons_zero]; rfl)
  case hs15z => kernel_rfl
  case hf15z => kernel_rfl
  case hr15z => kernel_rfl
  case hQ15z => exact fun _ _ _ h => h
  case hy15z =>
    refine Or.inl ⟨rfl, ?_⟩
    intro W hSw
    obtain ⟨y0, y1, y2, y3⟩ := hSw
    go_simp
    try with_reducible rfl
  case hS15z => assumption
  try simp only [Act.put, List.setIfInBounds_toArray, List.set_cons_zero, List.set_cons_succ]
  refine wpAnyH_take (i := 16) (oi := ?oi16z) (v := ?v16z) ?hi16z ?hs16z ?hf16z ?hr16z ?hQ16z ?hy16z ?hS16z ?h16z
  case hi16z => exact (by simp only [List.getElem?_toArray, List.getElem?_cons_succ, List.getElem?_cons_zero]; rfl)
  case hs16z => kernel_rfl
  case hf16z => kernel_rfl
  case hr16z => kernel_rfl
  case hQ16z => exact fun _ _ _ h => h
  case hy16z =>
    refine Or.inl ⟨rfl, ?_⟩
    intro W hSw
    obtain ⟨y0, y1, y2, y3⟩ := hSw
    go_simp
    try with_reducible rfl
  case hS16z => assumption
  try simp only [Act.put, List.setIfInBounds_toArray, List.set_cons_zero, List.set_cons_succ]
  refine wpAnyH_take (i := 17) (oi := ?oi17z) (v := ?v17z) ?hi17z ?hs17z ?hf17z ?hr17z ?hQ17z ?hy17z ?hS17z ?h17z
  case hi17z => exact (by simp only [List.getElem?_toArray, List.getElem?_cons_succ, List.getElem?_cons_zero]; rfl)
  case hs17z => kernel_rfl
  case hf17z => kernel_rfl
  case hr17z => kernel_rfl
  case hQ17z => exact fun _ _ _ h => h
  case hy17z =>
    refine Or.inl ⟨rfl, ?_⟩
    intro W hSw
    obtain ⟨y0, y1, y2, y3⟩ := hSw
    go_simp
    try with_reducible rfl
  case hS17z => assumption
  try simp only [Act.put, List.setIfInBounds_toArray, List.set_cons_zero, List.set_cons_succ]
  refine wpAnyH_take (i := 18) (oi := ?oi18z) (v := ?v18z) ?hi18z ?hs18z ?hf18z ?hr18z ?hQ18z ?hy18z ?hS18z ?h18z
  case hi18z => exact (by simp only [List.getElem?_toArray, List.getElem?_cons_succ, List.getElem?_cons_zero]; rfl)
  case hs18z => kernel_rfl
  case hf18z => kernel_rfl
  case hr18z => kernel_rfl
  case hQ18z => exact fun _ _ _ h => h
  case hy18z =>
    refine Or.inl ⟨rfl, ?_⟩
    intro W hSw
    obtain ⟨y0, y1, y2, y3⟩ := hSw
    go_simp
    try with_reducible rfl
  case hS18z => assumption
  try simp only [Act.put, List.setIfInBounds_toArray, List.set_cons_zero, List.set_cons_succ]
  refine wpAnyH_ready (rs := [19]) (by kernel_rfl) (by simp) ?_
  refine AllReadyH.cons (o := _) rfl (fun K hK => ?_) AllReadyH.nil
  go_simp
  refine ((HA.out Wz4 HBz4.out)).mono ?_
  rintro r Wz5 ⟨vR3, rfl, hsR, hbq⟩
  have HBz5 := Lib.hid (HBz4.out.trans (hbq.mono HBz4.out.size))
  have HSR3 := Lib.hid hsR
  obtain ⟨AR3, cR3, hvR⟩ := hsR.form
  subst hvR
  clear hsR
  clear hbq
  refine hK.out _ _ (HCE.out _ (HBz5.out)) (fun hHeld => ?_)
  clear hK K
  try simp only [Act.put, List.setIfInBounds_toArray, List.set_cons_zero, List.set_cons_succ]
  refine wpAnyH_ready (rs := [20]) (by kernel_rfl) (by simp) ?_
  refine AllReadyH.cons (o := _) rfl (fun K hK => ?_) AllReadyH.nil
  go_simp
  refine ((same_eq _ _ y3 Wz5 HLE3.out (HSL3.out Wz5 HBz5.out) HSR3.out)).mono ?_
  rintro r Wz6 ⟨rfl, hbq⟩
  have HBz6 := Lib.hid (HBz5.out.trans (hbq.mono HBz5.out.size))
  clear hbq
  refine hK.out _ _ (HCE.out _ (HBz6.out)) (fun hHeld => ?_)
  clear hK K
  try simp only [Act.put, List.setIfInBounds_toArray, List.set_cons_zero, List.set_cons_succ]
  refine wpAnyH_take (i := 21) (oi := ?oi21z) (v := ?v21z) ?hi21z ?hs21z ?hf21z ?hr21z ?hQ21z ?hy21z ?hS21z ?h21z
  case hi21z => exact (by simp only [List.getElem?_toArray, List.getElem?_cons_succ, List.getElem?_cons_zero]; rfl)
  case hs21z => kernel_rfl
  case hf21z => kernel_rfl
  case hr21z => kernel_rfl
  case hQ21z => exact fun _ _ _ h => h
  case hy21z =>
    refine Or.inl ⟨rfl, ?_⟩
    intro W hSw
    obtain ⟨y0, y1, y2, y3⟩ := hSw
    go_simp
    try with_reducible rfl
  case hS21z => assumption
  try simp only [Act.put, List.setIfInBounds_toArray, List.set_cons_zero, List.set_cons_succ]
  refine wpAnyH_take (i := 22) (oi := ?oi22z) (v := ?v22z) ?hi22z ?hs22z ?hf22z ?hr22z ?hQ22z ?hy22z ?hS22z ?h22z
  case hi22z => exact (by simp only [List.getElem?_toArray, List.getElem?_cons_succ, List.getElem?_cons_zero]; rfl)
  case hs22z => kernel_rfl
  case hf22z => kernel_rfl
  case hr22z => kernel_rfl
  case hQ22z => exact fun _ _ _ h => h
  case hy22z =>
    refine Or.inl ⟨rfl, ?_⟩
    intro W hSw
    obtain ⟨y0, y1, y2, y3⟩ := hSw
    go_simp
    try with_reducible rfl
  case hS22z => assumption
  try simp only [Act.put, List.setIfInBounds_toArray, List.set_cons_zero, List.set_cons_succ]
  refine wpAnyH_take (i := 23) (oi := ?oi23z) (v := ?v23z) ?hi23z ?hs23z ?hf23z ?hr23z ?hQ23z ?hy23z ?hS23z ?h23z
  case hi23z => exact (by simp only [List.getElem?_toArray, List.getElem?_cons_succ, List.getElem?_cons_zero]; rfl)
  case hs23z => kernel_rfl
  case hf23z => kernel_rfl
  case hr23z => kernel_rfl
  case hQ23z => exact fun _ _ _ h => h
  case hy23z =>
    refine Or.inl ⟨rfl, ?_⟩
    intro W hSw
    obtain ⟨y0, y1, y2, y3⟩ := hSw
    go_simp
    try with_reducible rfl
  case hS23z => assumption
  try simp only [Act.put, List.setIfInBounds_toArray, List.set_cons_zero, List.set_cons_succ]
  refine wpAnyH_take (i := 24) (oi := ?oi24z) (v := ?v24z) ?hi24z ?hs24z ?hf24z ?hr24z ?hQ24z ?hy24z ?hS24z ?h24z
  case hi24z => exact (by simp only [List.getElem?_toArray, List.getElem?_cons_succ, List.getElem?_cons_zero]; rfl)
  case hs24z => kernel_rfl
  case hf24z => kernel_rfl
  case hr24z => kernel_rfl
  case hQ24z => exact fun _ _ _ h => h
  case hy24z =>
    refine Or.inl ⟨rfl, ?_⟩
    intro W hSw
    obtain ⟨y0, y1, y2, y3⟩ := hSw
    go_simp
    try with_reducible rfl
  case hS24z => assumption
  try simp only [Act.put, List.setIfInBounds_toArray, List.set_cons_zero, List.set_cons_succ]
  refine wpAnyH_take (i := 25) (oi := ?oi25z) (v := ?v25z) ?hi25z ?hs25z ?hf25z ?hr25z ?hQ25z ?hy25z ?hS25z ?h25z
  case hi25z => exact (by simp only [List.getElem?_toArray, List.getElem?_cons_succ, List.getElem?_cons_zero]; rfl)
  case hs25z => kernel_rfl
  case hf25z => kernel_rfl
  case hr25z => kernel_rfl
  case hQ25z => exact fun _ _ _ h => h
  case hy25z =>
    refine Or.inl ⟨rfl, ?_⟩
    intro W hSw
    obtain ⟨y0, y1, y2, y3⟩ := hSw
    go_simp
    try with_reducible rfl
  case hS25z => assumption
  try simp only [Act.put, List.setIfInBounds_toArray, List.set_cons_zero, List.set_cons_succ]
  refine wpAnyH_take (i := 26) (oi := ?oi26z) (v := ?v26z) ?hi26z ?hs26z ?hf26z ?hr26z ?hQ26z ?hy26z ?hS26z ?h26z
  case hi26z => exact (by simp only [List.getElem?_toArray, List.getElem?_cons_succ, List.getElem?_cons_zero]; rfl)
  case hs26z => kernel_rfl
  case hf26z => kernel_rfl
  case hr26z => kernel_rfl
  case hQ26z => exact fun _ _ _ h => h
  case hy26z =>
    refine Or.inl ⟨rfl, ?_⟩
    intro W hSw
    obtain ⟨y0, y1, y2, y3⟩ := hSw
    go_simp
    try with_reducible rfl
  case hS26z => assumption
  try simp only [Act.put, List.setIfInBounds_toArray, List.set_cons_zero, List.set_cons_succ]
  refine wpAnyH_ready (rs := [27]) (by kernel_rfl) (by simp) ?_
  refine AllReadyH.cons (o := _) rfl (fun K hK => ?_) AllReadyH.nil
  go_simp
  refine ((HT3.out Wz6 HBz6.out)).mono ?_
  rintro r Wz7 ⟨vR4, rfl, hsR, hbq⟩
  have HBz7 := Lib.hid (HBz6.out.trans (hbq.mono HBz6.out.size))
  have HSR4 := Lib.hid hsR
  obtain ⟨AR4, cR4, hvR⟩ := hsR.form
  subst hvR
  clear hsR
  clear hbq
  refine hK.out _ _ (HCE.out _ (HBz7.out)) (fun hHeld => ?_)
  clear hK K
  try simp only [Act.put, List.setIfInBounds_toArray, List.set_cons_zero, List.set_cons_succ]
  refine wpAnyH_ready (rs := [28]) (by kernel_rfl) (by simp) ?_
  refine AllReadyH.cons (o := _) rfl (fun K hK => ?_) AllReadyH.nil
  go_simp
  refine ((same_eq _ _ y4 Wz7 HLE4.out (HSL4.out Wz7 HBz7.out) HSR4.out)).mono ?_
  rintro r Wz8 ⟨rfl, hbq⟩
  have HBz8 := Lib.hid (HBz7.out.trans (hbq.mono HBz7.out.size))
  clear hbq
  refine hK.out _ _ (HCE.out _ (HBz8.out)) (fun hHeld => ?_)
  clear hK K
  try simp only [Act.put, List.setIfInBounds_toArray, List.set_cons_zero, List.set_cons_succ]
  refine wpAnyH_take (i := 29) (oi := ?oi29z) (v := ?v29z) ?hi29z ?hs29z ?hf29z ?hr29z ?hQ29z ?hy29z ?hS29z ?h29z
  case hi29z => exact (by simp only [List.getElem?_toArray, List.getElem?_cons_succ, List.getElem?_cons_zero]; rfl)
  case hs29z => kernel_rfl
  case hf29z => kernel_rfl
  case hr29z => kernel_rfl
  case hQ29z => exact fun _ _ _ h => h
  case hy29z =>
    refine Or.inl ⟨rfl, ?_⟩
    intro W hSw
    obtain ⟨y0, y1, y2, y3⟩ := hSw
    go_simp
    try with_reducible rfl
  case hS29z => assumption
  try simp only [Act.put, List.setIfInBounds_toArray, List.set_cons_zero, List.set_cons_succ]
  refine wpAnyH_take (i := 30) (oi := ?oi30z) (v := ?v30z) ?hi30z ?hs30z ?hf30z ?hr30z ?hQ30z ?hy30z ?hS30z ?h30z
  case hi30z => exact (by simp only [List.getElem?_toArray, List.getElem?_cons_succ, List.getElem?_cons_zero]; rfl)
  case hs30z => kernel_rfl
  case hf30z => kernel_rfl
  case hr30z => kernel_rfl
  case hQ30z => exact fun _ _ _ h => h
  case hy30z =>
    refine Or.inl ⟨rfl, ?_⟩
    intro W hSw
    obtain ⟨y0, y1, y2, y3⟩ := hSw
    go_simp
    try with_reducible rfl
  case hS30z => assumption
  try simp only [Act.put, List.setIfInBounds_toArray, List.set_cons_zero, List.set_cons_succ]
  refine wpAnyH_done (by kernel_rfl) ?_ _
  go_wp2
  go_ret
  exact ⟨rfl, HB2.out.trans (HBz8.out.mono HB2.out.size)⟩
end Go.Proofs.Ytohcibmlkngaeaa
