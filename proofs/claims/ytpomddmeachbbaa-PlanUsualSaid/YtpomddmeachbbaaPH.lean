/- Plan: Same of a config and itself. -/
import Derived.Test.YtpomddmeachbbaaPG
namespace Go.Proofs.Ytpomddmeachbbaa
open Go.RowKit
set_option maxRecDepth 20000

set_option linter.unusedSimpArgs false in
set_option maxHeartbeats 20000000 in
theorem same_any (C : Cfg) (A B : Option Addr) (n c d : Nat) (l : List Md) (w : World) (hn : n = l.length) (hM : Ms w w.heap.size A l) (hM' : Ms w w.heap.size B l) (hl : n ≤ 1000) :
    Calls Try.prog 24 #[.agg (C.cells (.slice A n c)), .agg (C.cells (.slice B n d))] w fun r w' => r = .returned (.bool true) ∧ Below w.heap.size w w' := by
  obtain ⟨w0, hw0⟩ : ∃ w0, w0 = (w.alloc (.cells (C.cells (.slice A n c)) 24)).alloc (.cells (C.cells (.slice B n d)) 24) := ⟨_, rfl⟩
  have hb0 : Below w.heap.size w w0 := by rw [hw0]; exact ((Below.refl _ _).alloc (Nat.le_refl _) _).alloc (by simp) _
  have hp0 : w0.heap[w.heap.size]? = some (.cells (C.cells (.slice A n c)) 24 (0, 0)) := by rw [hw0]; exact (Below.heap_alloc _ _ _ (by simp)).trans (heap_alloc_new w _)
  have hq0 : w0.heap[w.heap.size + 1]? = some (.cells (C.cells (.slice B n d)) 24 (0, 0)) := by
    have := heap_alloc_new (w.alloc (.cells (C.cells (.slice A n c)) 24)) (.cells (C.cells (.slice B n d)) 24)
    rw [World.size_alloc] at this
    rw [hw0]; exact this
  obtain ⟨P, hP⟩ : ∃ P, P = w.heap.size := ⟨_, rfl⟩
  obtain ⟨Q, hQ⟩ : ∃ Q, Q = P + 1 := ⟨_, rfl⟩
  have HB0 := Lib.hid hb0
  have HM : Hid (Ms w0 w0.heap.size A l) := (hM.below hb0).mono hb0.size
  have HM' : Hid (Ms w0 w0.heap.size B l) := (hM'.below hb0).mono hb0.size
  rw [← hP] at hp0 hq0
  rw [← hQ] at hq0
  have HCP : Hid (∀ W, Below w0.heap.size w0 W → W.cell? ⟨P, 0, none⟩ = some (sV C.key) ∧ W.cell? ⟨P, 1, none⟩ = some (.int .i64 C.n1) ∧ W.cell? ⟨P, 2, none⟩ = some (.int .i64 C.n2) ∧ W.cell? ⟨P, 3, none⟩ = some (.int .i64 C.n3) ∧ W.cell? ⟨P, 4, none⟩ = some (.int .i64 C.n4) ∧ W.cell? ⟨P, 5, none⟩ = some (.int .i64 C.t1) ∧ W.cell? ⟨P, 6, none⟩ = some (.int .i64 C.t2) ∧ W.cell? ⟨P, 7, none⟩ = some (.int .i64 C.t3) ∧ W.cell? ⟨P, 8, none⟩ = some (.int .i64 C.t4) ∧ W.cell? ⟨P, 9, none⟩ = some (.int .i64 C.t5) ∧ W.cell? ⟨P, 10, none⟩ = some (.int .i64 C.t6) ∧ W.cell? ⟨P, 11, none⟩ = some (.int .i64 C.rate) ∧ W.cell? ⟨P, 12, none⟩ = some (.int .i64 C.out) ∧ W.cell? ⟨P, 13, none⟩ = some (.slice A n c)) := fun W hW => by
    have e1 := (hW.block _ (lt_of_block hp0)).trans hp0
    exact ⟨cell_of_row W _ 0 _ _ _ e1, cell_of_row W _ 1 _ _ _ e1, cell_of_row W _ 2 _ _ _ e1, cell_of_row W _ 3 _ _ _ e1, cell_of_row W _ 4 _ _ _ e1, cell_of_row W _ 5 _ _ _ e1, cell_of_row W _ 6 _ _ _ e1, cell_of_row W _ 7 _ _ _ e1, cell_of_row W _ 8 _ _ _ e1, cell_of_row W _ 9 _ _ _ e1, cell_of_row W _ 10 _ _ _ e1, cell_of_row W _ 11 _ _ _ e1, cell_of_row W _ 12 _ _ _ e1, cell_of_row W _ 13 _ _ _ e1⟩
  have HCQ : Hid (∀ W, Below w0.heap.size w0 W → W.cell? ⟨Q, 0, none⟩ = some (sV C.key) ∧ W.cell? ⟨Q, 1, none⟩ = some (.int .i64 C.n1) ∧ W.cell? ⟨Q, 2, none⟩ = some (.int .i64 C.n2) ∧ W.cell? ⟨Q, 3, none⟩ = some (.int .i64 C.n3) ∧ W.cell? ⟨Q, 4, none⟩ = some (.int .i64 C.n4) ∧ W.cell? ⟨Q, 5, none⟩ = some (.int .i64 C.t1) ∧ W.cell? ⟨Q, 6, none⟩ = some (.int .i64 C.t2) ∧ W.cell? ⟨Q, 7, none⟩ = some (.int .i64 C.t3) ∧ W.cell? ⟨Q, 8, none⟩ = some (.int .i64 C.t4) ∧ W.cell? ⟨Q, 9, none⟩ = some (.int .i64 C.t5) ∧ W.cell? ⟨Q, 10, none⟩ = some (.int .i64 C.t6) ∧ W.cell? ⟨Q, 11, none⟩ = some (.int .i64 C.rate) ∧ W.cell? ⟨Q, 12, none⟩ = some (.int .i64 C.out) ∧ W.cell? ⟨Q, 13, none⟩ = some (.slice B n d)) := fun W hW => by
    have e2 := (hW.block _ (lt_of_block hq0)).trans hq0
    exact ⟨cell_of_row W _ 0 _ _ _ e2, cell_of_row W _ 1 _ _ _ e2, cell_of_row W _ 2 _ _ _ e2, cell_of_row W _ 3 _ _ _ e2, cell_of_row W _ 4 _ _ _ e2, cell_of_row W _ 5 _ _ _ e2, cell_of_row W _ 6 _ _ _ e2, cell_of_row W _ 7 _ _ _ e2, cell_of_row W _ 8 _ _ _ e2, cell_of_row W _ 9 _ _ _ e2, cell_of_row W _ 10 _ _ _ e2, cell_of_row W _ 11 _ _ _ e2, cell_of_row W _ 12 _ _ _ e2, cell_of_row W _ 13 _ _ _ e2⟩
  have H0 := Lib.hid hw0
  have HP := Lib.hid hP
  have HQ := Lib.hid hQ
  have HN := Lib.hid hn
  have HBr : Hid (Below w0.heap.size w0 w0) := Below.refl _ _
  obtain ⟨x0, x1, x2, x3, x4, x5, x6, x7, x8, x9, x10, x11, x12, x13⟩ := HCP.out w0 HBr.out
  obtain ⟨y0, y1, y2, y3, y4, y5, y6, y7, y8, y9, y10, y11, y12, y13⟩ := HCQ.out w0 HBr.out
  clear hw0 hb0 hp0 hq0 hP hQ hM hM' hn
  go_enter Try.func24, Try.ntmps24
  go_upto_region 1 with (fail)
  rw [← H0.out, ← HP.out, ← HQ.out]
  generalize Value.agg (C.cells (Value.slice A n c)) = cv
  generalize Value.agg (C.cells (Value.slice B n d)) = dv
  go_wp2_with fail
  clear x0 x1 x2 x3 x4 x5 x6 x7 x8 x9 x10 x11 x12 x13 y0 y1 y2 y3 y4 y5 y6 y7 y8 y9 y10 y11 y12 y13
  go_loopw [5] (fun v wr => ∃ k : Nat, k ≤ n ∧ v = .int .i64 (k : Int) ∧ Hid (Below w0.heap.size w0 wr)) (fun v _ => n - (intOf v).toNat)
  case atStart => exact ⟨0, by omega, rfl, HBr.out⟩
  case round =>
    obtain ⟨k, hk, rfl, HV⟩ := hrel
    obtain ⟨x0, x1, x2, x3, x4, x5, x6, x7, x8, x9, x10, x11, x12, x13⟩ := HCP.out wr HV.out
    obtain ⟨y0, y1, y2, y3, y4, y5, y6, y7, y8, y9, y10, y11, y12, y13⟩ := HCQ.out wr HV.out
    by_cases hlt : k < n
    · obtain ⟨⟨mk, mb, ms, mq, me⟩, hm⟩ : ∃ m, l[k]? = some m := ⟨l[k]'(by rw [← HN.out]; exact hlt), List.getElem?_eq_getElem _⟩
      obtain ⟨b1, o1, rfl, hb1, hat1⟩ := HM.out (by have := HN.out; omega)
      obtain ⟨b2, o2, rfl, hb2, hat2⟩ := HM'.out (by have := HN.out; omega)
      have HA1 := Lib.hid (hat1 k _ hm)
      have HA2 := Lib.hid (hat2 k _ hm)
      have hneq : ∀ W : World, (binOp .neq 26 (mV mk mb ms mq me) (mV mk mb ms mq me)).run Try.prog W = .ok (.bool false) W := fun W => neq26 mk mb ms mq me W
      have hgd := guard26
      clear hat1 hat2 hm
      go_upto_region 6 with (fail)
      have HD : Hid (Below w0.heap.size w0 wr.drew) := HV.out.drew
      have HSr : Hid ((fun W : World => W.cell? ⟨P, 13, none⟩ = some (.slice (some ⟨b1, o1, none⟩) n c) ∧ W.cell? ⟨Q, 13, none⟩ = some (.slice (some ⟨b2, o2, none⟩) n d) ∧ (W.cell? ⟨b1, o1 + k * 5, none⟩ = some (.int .i64 mk) ∧ W.cell? ⟨b1, o1 + k * 5 + 1, none⟩ = some (.int .i64 mb) ∧ W.cell? ⟨b1, o1 + k * 5 + 2, none⟩ = some (.int .i64 ms) ∧ W.cell? ⟨b1, o1 + k * 5 + 3, none⟩ = some (.int .i64 mq) ∧ W.cell? ⟨b1, o1 + k * 5 + 4, none⟩ = some (.int .i64 me)) ∧ W.cell? ⟨b2, o2 + k * 5, none⟩ = some (.int .i64 mk) ∧ W.cell? ⟨b2, o2 + k * 5 + 1, none⟩ = some (.int .i64 mb) ∧ W.cell? ⟨b2, o2 + k * 5 + 2, none⟩ = some (.int .i64 ms) ∧ W.cell? ⟨b2, o2 + k * 5 + 3, none⟩ = some (.int .i64 mq) ∧ W.cell? ⟨b2, o2 + k * 5 + 4, none⟩ = some (.int .i64 me)) wr.drew) := ⟨(HCP.out _ HD.out).2.2.2.2.2.2.2.2.2.2.2.2.2, (HCQ.out _ HD.out).2.2.2.2.2.2.2.2.2.2.2.2.2, HA1.out.below HD.out (Nat.lt_of_lt_of_le hb1 (Nat.le_refl _)), HA2.out.below HD.out (Nat.lt_of_lt_of_le hb2 (Nat.le_refl _))⟩
      refine wp_region_held_drew (S := fun W : World => W.cell? ⟨P, 13, none⟩ = some (.slice (some ⟨b1, o1, none⟩) n c) ∧ W.cell? ⟨Q, 13, none⟩ = some (.slice (some ⟨b2, o2, none⟩) n d) ∧ (W.cell? ⟨b1, o1 + k * 5, none⟩ = some (.int .i64 mk) ∧ W.cell? ⟨b1, o1 + k * 5 + 1, none⟩ = some (.int .i64 mb) ∧ W.cell? ⟨b1, o1 + k * 5 + 2, none⟩ = some (.int .i64 ms) ∧ W.cell? ⟨b1, o1 + k * 5 + 3, none⟩ = some (.int .i64 mq) ∧ W.cell? ⟨b1, o1 + k * 5 + 4, none⟩ = some (.int .i64 me)) ∧ W.cell? ⟨b2, o2 + k * 5, none⟩ = some (.int .i64 mk) ∧ W.cell? ⟨b2, o2 + k * 5 + 1, none⟩ = some (.int .i64 mb) ∧ W.cell? ⟨b2, o2 + k * 5 + 2, none⟩ = some (.int .i64 ms) ∧ W.cell? ⟨b2, o2 + k * 5 + 3, none⟩ = some (.int .i64 mq) ∧ W.cell? ⟨b2, o2 + k * 5 + 4, none⟩ = some (.int .i64 me)) (by kernel_rfl) HSr.out (fun hHeld => ?_)
      obtain ⟨W0, hW0⟩ : ∃ W0, W0 = wr.drew := ⟨_, rfl⟩
      rw [← hW0] at hHeld HD ⊢
      clear hW0
      refine wpAnyH_take (i := 0) (oi := ?oi0a) (v := ?v0a) ?hi0a ?hs0a ?hf0a ?hr0a ?hQ0a ?hy0a ?hS0a ?h0a
      case hi0a => exact (by simp only [List.getElem?_toArray, List.getElem?_cons_zero]; rfl)
      case hs0a => kernel_rfl
      case hf0a => kernel_rfl
      case hr0a => kernel_rfl
      case hQ0a => exact fun _ _ _ h => h
      case hy0a =>
        refine Or.inl ⟨rfl, ?_⟩
        intro W hSw
        obtain ⟨s0, s1, ⟨u0, u1, u2, u3, u4⟩, v0, v1, v2, v3, v4⟩ := hSw
        go_simp
        try with_reducible rfl
      case hS0a => assumption
      try simp only [Act.put, List.setIfInBounds_toArray, List.set_cons_zero, List.set_cons_succ]
      refine wpAnyH_take (i := 1) (oi := ?oi1a) (v := ?v1a) ?hi1a ?hs1a ?hf1a ?hr1a ?hQ1a ?hy1a ?hS1a ?h1a
      case hi1a => exact (by simp only [List.getElem?_toArray, List.getElem?_cons_succ, List.getElem?_cons_zero]; rfl)
      case hs1a => kernel_rfl
      case hf1a => kernel_rfl
      case hr1a => kernel_rfl
      case hQ1a => exact fun _ _ _ h => h
      case hy1a =>
        refine Or.inl ⟨rfl, ?_⟩
        intro W hSw
        obtain ⟨s0, s1, ⟨u0, u1, u2, u3, u4⟩, v0, v1, v2, v3, v4⟩ := hSw
        go_simp
        try with_reducible rfl
      case hS1a => assumption
      try simp only [Act.put, List.setIfInBounds_toArray, List.set_cons_zero, List.set_cons_succ]
      refine wpAnyH_take (i := 2) (oi := ?oi2a) (v := ?v2a) ?hi2a ?hs2a ?hf2a ?hr2a ?hQ2a ?hy2a ?hS2a ?h2a
      case hi2a => exact (by simp only [List.getElem?_toArray, List.getElem?_cons_succ, List.getElem?_cons_zero]; rfl)
      case hs2a => kernel_rfl
      case hf2a => kernel_rfl
      case hr2a => kernel_rfl
      case hQ2a => exact fun _ _ _ h => h
      case hy2a =>
        refine Or.inl ⟨rfl, ?_⟩
        intro W hSw
        obtain ⟨s0, s1, ⟨u0, u1, u2, u3, u4⟩, v0, v1, v2, v3, v4⟩ := hSw
        go_simp
        try with_reducible rfl
      case hS2a => assumption
      try simp only [Act.put, List.setIfInBounds_toArray, List.set_cons_zero, List.set_cons_succ]
      refine wpAnyH_take (i := 3) (oi := ?oi3a) (v := ?v3a) ?hi3a ?hs3a ?hf3a ?hr3a ?hQ3a ?hy3a ?hS3a ?h3a
      case hi3a => exact (by simp only [List.getElem?_toArray, List.getElem?_cons_succ, List.getElem?_cons_zero]; rfl)
      case hs3a => kernel_rfl
      case hf3a => kernel_rfl
      case hr3a => kernel_rfl
      case hQ3a => exact fun _ _ _ h => h
      case hy3a =>
        refine Or.inl ⟨rfl, ?_⟩
        intro W hSw
        obtain ⟨s0, s1, ⟨u0, u1, u2, u3, u4⟩, v0, v1, v2, v3, v4⟩ := hSw
        go_simp
        try with_reducible rfl
      case hS3a => assumption
      try simp only [Act.put, List.setIfInBounds_toArray, List.set_cons_zero, List.set_cons_succ]
      refine wpAnyH_take (i := 4) (oi := ?oi4a) (v := ?v4a) ?hi4a ?hs4a ?hf4a ?hr4a ?hQ4a ?hy4a ?hS4a ?h4a
      case hi4a => exact (by simp only [List.getElem?_toArray, List.getElem?_cons_succ, List.getElem?_cons_zero]; rfl)
      case hs4a => kernel_rfl
      case hf4a => kernel_rfl
      case hr4a => kernel_rfl
      case hQ4a => exact fun _ _ _ h => h
      case hy4a =>
        refine Or.inl ⟨rfl, ?_⟩
        intro W hSw
        obtain ⟨s0, s1, ⟨u0, u1, u2, u3, u4⟩, v0, v1, v2, v3, v4⟩ := hSw
        go_simp
        try with_reducible rfl
      case hS4a => assumption
      try simp only [Act.put, List.setIfInBounds_toArray, List.set_cons_zero, List.set_cons_succ]
      refine wpAnyH_take (i := 5) (oi := ?oi5a) (v := ?v5a) ?hi5a ?hs5a ?hf5a ?hr5a ?hQ5a ?hy5a ?hS5a ?h5a
      case hi5a => exact (by simp only [List.getElem?_toArray, List.getElem?_cons_succ, List.getElem?_cons_zero]; rfl)
      case hs5a => kernel_rfl
      case hf5a => kernel_rfl
      case hr5a => kernel_rfl
      case hQ5a => exact fun _ _ _ h => h
      case hy5a =>
        refine Or.inl ⟨rfl, ?_⟩
        intro W hSw
        obtain ⟨s0, s1, ⟨u0, u1, u2, u3, u4⟩, v0, v1, v2, v3, v4⟩ := hSw
        go_simp
        try with_reducible rfl
      case hS5a => assumption
      try simp only [Act.put, List.setIfInBounds_toArray, List.set_cons_zero, List.set_cons_succ]
      refine wpAnyH_take (i := 6) (oi := ?oi6a) (v := ?v6a) ?hi6a ?hs6a ?hf6a ?hr6a ?hQ6a ?hy6a ?hS6a ?h6a
      case hi6a => exact (by simp only [List.getElem?_toArray, List.getElem?_cons_succ, List.getElem?_cons_zero]; rfl)
      case hs6a => kernel_rfl
      case hf6a => kernel_rfl
      case hr6a => kernel_rfl
      case hQ6a => exact fun _ _ _ h => h
      case hy6a =>
        refine Or.inl ⟨rfl, ?_⟩
        intro W hSw
        obtain ⟨s0, s1, ⟨u0, u1, u2, u3, u4⟩, v0, v1, v2, v3, v4⟩ := hSw
        go_simp
        try with_reducible rfl
      case hS6a => assumption
      try simp only [Act.put, List.setIfInBounds_toArray, List.set_cons_zero, List.set_cons_succ]
      refine wpAnyH_take (i := 7) (oi := ?oi7a) (v := ?v7a) ?hi7a ?hs7a ?hf7a ?hr7a ?hQ7a ?hy7a ?hS7a ?h7a
      case hi7a => exact (by simp only [List.getElem?_toArray, List.getElem?_cons_succ, List.getElem?_cons_zero]; rfl)
      case hs7a => kernel_rfl
      case hf7a => kernel_rfl
      case hr7a => kernel_rfl
      case hQ7a => exact fun _ _ _ h => h
      case hy7a =>
        refine Or.inl ⟨rfl, ?_⟩
        intro W hSw
        obtain ⟨s0, s1, ⟨u0, u1, u2, u3, u4⟩, v0, v1, v2, v3, v4⟩ := hSw
        go_simp
        try with_reducible rfl
      case hS7a => assumption
      try simp only [Act.put, List.setIfInBounds_toArray, List.set_cons_zero, List.set_cons_succ]
      refine wpAnyH_take (i := 8) (oi := ?oi8a) (v := ?v8a) ?hi8a ?hs8a ?hf8a ?hr8a ?hQ8a ?hy8a ?hS8a ?h8a
      case hi8a => exact (by simp only [List.getElem?_toArray, List.getElem?_cons_succ, List.getElem?_cons_zero]; rfl)
      case hs8a => kernel_rfl
      case hf8a => kernel_rfl
      case hr8a => kernel_rfl
      case hQ8a => exact fun _ _ _ h => h
      case hy8a =>
        refine Or.inl ⟨rfl, ?_⟩
        intro W hSw
        obtain ⟨s0, s1, ⟨u0, u1, u2, u3, u4⟩, v0, v1, v2, v3, v4⟩ := hSw
        go_simp
        try with_reducible rfl
      case hS8a => assumption
      try simp only [Act.put, List.setIfInBounds_toArray, List.set_cons_zero, List.set_cons_succ]
      refine wpAnyH_take (i := 9) (oi := ?oi9a) (v := ?v9a) ?hi9a ?hs9a ?hf9a ?hr9a ?hQ9a ?hy9a ?hS9a ?h9a
      case hi9a => exact (by simp only [List.getElem?_toArray, List.getElem?_cons_succ, List.getElem?_cons_zero]; rfl)
      case hs9a => kernel_rfl
      case hf9a => kernel_rfl
      case hr9a => kernel_rfl
      case hQ9a => exact fun _ _ _ h => h
      case hy9a =>
        refine Or.inl ⟨rfl, ?_⟩
        intro W hSw
        obtain ⟨s0, s1, ⟨u0, u1, u2, u3, u4⟩, v0, v1, v2, v3, v4⟩ := hSw
        go_simp
        try with_reducible rfl
      case hS9a => assumption
      try simp only [Act.put, List.setIfInBounds_toArray, List.set_cons_zero, List.set_cons_succ]
      refine wpAnyH_take (i := 10) (oi := ?oi10a) (v := (.bool false)) ?hi10a ?hs10a ?hf10a ?hr10a ?hQ10a ?hy10a ?hS10a ?h10a
      case hi10a => exact (by simp only [List.getElem?_toArray, List.getElem?_cons_succ, List.getElem?_cons_zero]; rfl)
      case hs10a => kernel_rfl
      case hf10a => kernel_rfl
      case hr10a => kernel_rfl
      case hQ10a => exact fun _ _ _ h => h
      case hy10a =>
        refine Or.inl ⟨rfl, ?_⟩
        intro W hSw
        obtain ⟨s0, s1, ⟨u0, u1, u2, u3, u4⟩, v0, v1, v2, v3, v4⟩ := hSw
        go_simp
        try simp [hneq]
      case hS10a => assumption
      try simp only [Act.put, List.setIfInBounds_toArray, List.set_cons_zero, List.set_cons_succ]
      refine wpAnyH_done (by kernel_rfl) ?_ _
      go_wp2
      go_roundw
      case rel => exact ⟨k + 1, by omega, by go_num, HD.out⟩
      case measure => simp [intOf] <;> omega
    · have hkn : k = n := by omega
      subst hkn
      go_wp2
      go_ret
      exact ⟨rfl, HB0.out.trans (HV.out.mono HB0.out.size)⟩
end Go.Proofs.Ytpomddmeachbbaa
