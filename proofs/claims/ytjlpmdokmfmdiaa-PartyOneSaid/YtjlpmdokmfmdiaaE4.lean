/- Party: like. -/
import Derived.Test.YtjlpmdokmfmdiaaE3
namespace Go.Proofs.Ytjlpmdokmfmdiaa.P
open Go.RowKit
set_option maxRecDepth 20000
set_option linter.unusedVariables false
set_option linter.unusedSimpArgs false
set_option maxHeartbeats 4000000 in
theorem like_any (B R : Nat) (most : Int) (vi : Value) (L : List Pt) (A : Option Addr) (n c : Nat) (w : World) (h : Bk w B R most vi L) (hD : Dd w R vi A n L) (hI : Inv L) (hl : n ≤ 100) :
    Calls Try.prog 14 #[bp B, .slice A n c] w fun r w' => r = .returned (.bool true) ∧ Below w.heap.size w w' := by
  have HN : Hid (n = L.length) := hD.n
  have HBK := Lib.hid h
  have HD := Lib.hid hD
  have HI := Lib.hid hI
  obtain ⟨L1, hL1⟩ : ∃ L1, L1 = L.map (·.id) := ⟨_, rfl⟩
  have HLL : Hid (L1.length ≤ 1000) := by simp only [Hid]; rw [hL1, List.length_map]; have := HN.out; omega
  have HPA := Lib.hid (parties_any B R most vi L w h (by have := HN.out; omega))
  have HID : Hid (∀ W, Below w.heap.size w W → Calls Try.prog 59 #[.slice A n c] W fun r w' => ∃ A' c', r = .returned (.slice A' n c') ∧ w'.ownsRow W.heap.size 26 1 (.slice A' n c') n (un L1) ∧ Below W.heap.size W w') := fun W hW => by
    rw [hL1]
    exact dids_any R vi A n c L W HN.out (HD.out.dr.after hW) hl
  rw [← hL1] at HPA
  have HPT : Hid (∀ W, Below w.heap.size w W → ∀ (k : Nat) g, L[k]? = some g → Calls Try.prog 17 #[bp B, .int .u32 (g.id : Int)] W fun r w' => PtP R vi g.id g W r w') := fun W hW k g hk => party_some B R most vi L g.id g W (HBK.out.after hW) (by have := HN.out; omega) (get_at HI.out.ris hk) (HI.out.each g (List.mem_of_getElem? hk))
  clear hL1 h hD hI
  go_enter Try.func14, Try.ntmps14
  go_wp2_with fail
  refine HPA.out.mono ?_
  rintro r w1 ⟨A1, n1, c1, rfl, ho1, hb1⟩
  have HS1 : Hid (S32 w1 (.slice A1 n1 c1) L1) := ⟨A1, c1, by rw [(Rn.of_own ho1).1], (Rn.of_own ho1).2⟩
  have HB1 := Lib.hid hb1
  clear ho1 hb1
  go_wp2_with fail
  refine (HID.out w1 HB1.out).mono ?_
  rintro r w2 ⟨A2, c2, rfl, ho2, hb2⟩
  have HS2 : Hid (S32 w2 (.slice A2 n c2) L1) := ⟨A2, c2, by rw [← (Rn.of_own ho2).1], (Rn.of_own ho2).2⟩
  have HS1b : Hid (S32 w2 (.slice A1 n1 c1) L1) := by
    obtain ⟨A', c', e, hr⟩ := HS1.out
    refine ⟨A', c', e, fun hl => ?_⟩
    obtain ⟨b, o, e1, e2, e3⟩ := hr hl
    exact ⟨b, o, e1, Nat.lt_of_lt_of_le e2 hb2.size, fun j x hj => (hb2.cell (p := ⟨b, _, none⟩) e2).trans (e3 j x hj)⟩
  have HB2 : Hid (Below w.heap.size w w2) := HB1.out.trans (hb2.mono HB1.out.size)
  clear ho2 hb2
  go_wp2_with fail
  refine (same_eq _ _ L1 w2 HLL.out HS1b.out HS2.out).mono ?_
  rintro r w4 ⟨rfl, hb4⟩
  have HB4 : Hid (Below w.heap.size w w4) := HB2.out.trans (hb4.mono HB2.out.size)
  clear hb4
  go_wp2_with fail
  go_loopw [5] (fun u wr => ∃ k : Nat, k ≤ n ∧ u = .int .i64 (k : Int) ∧ Hid (Below w.heap.size w wr)) (fun u _ => n - (intOf u).toNat)
  case atStart => exact ⟨0, by omega, rfl, HB4.out⟩
  case round =>
    obtain ⟨k, hk, rfl, HV⟩ := hrel
    by_cases hlt : k < n
    · obtain ⟨g, hy⟩ : ∃ g, L[k]? = some g := ⟨L[k]'(by rw [← HN.out]; exact hlt), List.getElem?_eq_getElem _⟩
      obtain ⟨b, o, rfl, ⟨cur, hbb⟩, hc⟩ := HD.out.dr (by have := HN.out; omega)
      obtain ⟨m2, v2, ⟨q0, q1, q2, q3⟩, g1, g2⟩ := hc k g hy
      have HP := Lib.hid (HPT.out wr HV.out k g hy)
      obtain ⟨x, hx⟩ : ∃ x, x = g.id := ⟨_, rfl⟩
      obtain ⟨l, hld⟩ : ∃ l, l = g.ld := ⟨_, rfl⟩
      rw [← hx] at HP q0
      rw [← hld] at q1
      have d0 := (HV.out.cell (p := ⟨b, _, none⟩) (lt_of_block hbb)).trans q0
      have HQ4 : Hid (w.cell? ⟨b, o + k * 4, none⟩ = some (.int .u32 (x : Int)) ∧ w.cell? ⟨b, o + k * 4 + 1, none⟩ = some (.int .u32 (l : Int)) ∧ w.cell? ⟨b, o + k * 4 + 2, none⟩ = some (.slice m2.a m2.n m2.c) ∧ w.cell? ⟨b, o + k * 4 + 3, none⟩ = some (.slice v2.a v2.n v2.c)) := ⟨q0, q1, q2, q3⟩
      have HBB0 : Hid (b < w.heap.size) := lt_of_block hbb
      have HG12 : Hid (Fl w R vi m2 g.mem ∧ Fl w R vi v2 g.inv) := ⟨g1, g2⟩
      have HK4 := Lib.hid (HI.out.each g (List.mem_of_getElem? hy)).four
      have HLD := Lib.hid hld
      clear hy hc q0 q1 q2 q3 g1 g2 hx hld hbb
      go_wp2_with fail
      refine HP.out.mono ?_
      rintro r w5 ⟨m, v, rfl, f1, f2, hb5⟩
      rw [← HLD.out]
      obtain ⟨G, hG⟩ : ∃ G, G = w5.heap.size := ⟨_, rfl⟩
      obtain ⟨w3, hw3⟩ : ∃ W, W = w5.alloc (.cells #[.int .u32 (x : Int), .int .u32 (l : Int), .slice m.a m.n m.c, .slice v.a v.n v.c] 36) := ⟨_, rfl⟩
      have hq : w3.heap[G]? = some (.cells #[.int .u32 (x : Int), .int .u32 (l : Int), .slice m.a m.n m.c, .slice v.a v.n v.c] 36 (0, 0)) := by rw [hw3, hG]; exact heap_alloc_new w5 _
      have hb3 : Below w5.heap.size w5 w3 := by rw [hw3]; exact (Below.refl _ _).alloc (Nat.le_refl _) _
      have HB5 : Hid (Below w.heap.size w w3) := HV.out.trans ((hb5.trans (hb3.mono hb5.size)).mono HV.out.size)
      have HBB : Hid (Below w3.heap.size w3 w3) := Below.refl _ _
      have HSM : Hid (∀ W, Below w3.heap.size w3 W → Calls Try.prog 60 #[.agg (dC x l m v), .agg (dC x l m2 v2)] W fun r w' => r = .returned (.bool true) ∧ Below W.heap.size W w') := fun W hW => by
        have hbw := HB5.out.trans (hW.mono HB5.out.size)
        exact same_any R vi x l m v m2 v2 g.mem g.inv W ((f1.after hb3).after hW) ((f2.after hb3).after hW) (HG12.out.1.after hbw) (HG12.out.2.after hbw) (by have := HK4.out; omega) (by have := HK4.out; omega)
      have HS : Hid (∀ W : World, Below w3.heap.size w3 W → (fun W : World => (W.cell? ⟨G, 0, none⟩ = some (.int .u32 (x : Int)) ∧ W.cell? ⟨G, 1, none⟩ = some (.int .u32 (l : Int)) ∧ W.cell? ⟨G, 2, none⟩ = some (.slice m.a m.n m.c) ∧ W.cell? ⟨G, 3, none⟩ = some (.slice v.a v.n v.c)) ∧ W.cell? ⟨b, o + k * 4, none⟩ = some (.int .u32 (x : Int)) ∧ W.cell? ⟨b, o + k * 4 + 1, none⟩ = some (.int .u32 (l : Int)) ∧ W.cell? ⟨b, o + k * 4 + 2, none⟩ = some (.slice m2.a m2.n m2.c) ∧ W.cell? ⟨b, o + k * 4 + 3, none⟩ = some (.slice v2.a v2.n v2.c)) W) := fun W hW => by
        have hbw := HB5.out.trans (hW.mono HB5.out.size)
        have hr := (hW.block _ (lt_of_block hq)).trans hq
        exact ⟨⟨cell_of_row W G 0 _ _ _ hr, cell_of_row W G 1 _ _ _ hr, cell_of_row W G 2 _ _ _ hr, cell_of_row W G 3 _ _ _ hr⟩, (hbw.cell (p := ⟨b, _, none⟩) HBB0.out).trans HQ4.out.1, (hbw.cell (p := ⟨b, _, none⟩) HBB0.out).trans HQ4.out.2.1, (hbw.cell (p := ⟨b, _, none⟩) HBB0.out).trans HQ4.out.2.2.1, (hbw.cell (p := ⟨b, _, none⟩) HBB0.out).trans HQ4.out.2.2.2⟩
      have H3 := Lib.hid hw3
      have HGG := Lib.hid hG
      clear hw3 hG hq hb3 hb5 f1 f2 d0
      go_upto_region 7 with (fail)
      rw [← H3.out, ← HGG.out]
      have HDk : Hid (Below w3.heap.size w3 w3.drew) := HBB.out.drew
      refine wp_region_held_drew (S := fun W : World => (W.cell? ⟨G, 0, none⟩ = some (.int .u32 (x : Int)) ∧ W.cell? ⟨G, 1, none⟩ = some (.int .u32 (l : Int)) ∧ W.cell? ⟨G, 2, none⟩ = some (.slice m.a m.n m.c) ∧ W.cell? ⟨G, 3, none⟩ = some (.slice v.a v.n v.c)) ∧ W.cell? ⟨b, o + k * 4, none⟩ = some (.int .u32 (x : Int)) ∧ W.cell? ⟨b, o + k * 4 + 1, none⟩ = some (.int .u32 (l : Int)) ∧ W.cell? ⟨b, o + k * 4 + 2, none⟩ = some (.slice m2.a m2.n m2.c) ∧ W.cell? ⟨b, o + k * 4 + 3, none⟩ = some (.slice v2.a v2.n v2.c)) (by kernel_rfl) (HS.out _ (HDk.out)) (fun hHeld => ?_)
      obtain ⟨Wk0, hW0⟩ : ∃ W0, W0 = w3.drew := ⟨_, rfl⟩
      rw [← hW0] at hHeld HDk ⊢
      clear hW0
      refine wpAnyH_take (i := 0) (oi := ?oi0k) (v := ?v0k) ?hi0k ?hs0k ?hf0k ?hr0k ?hQ0k ?hy0k ?hS0k ?h0k
      case hi0k => exact (by simp only [List.getElem?_toArray, List.getElem?_cons_zero]; rfl)
      case hs0k => kernel_rfl
      case hf0k => kernel_rfl
      case hr0k => kernel_rfl
      case hQ0k => exact fun _ _ _ h => h
      case hy0k =>
        refine Or.inl ⟨rfl, ?_⟩
        intro W hSw
        obtain ⟨⟨q0, q1, q2, q3⟩, p0, p1, p2, p3⟩ := hSw
        go_simp
        try with_reducible rfl
      case hS0k => assumption
      try simp only [Act.put, List.setIfInBounds_toArray, List.set_cons_zero, List.set_cons_succ]
      refine wpAnyH_take (i := 1) (oi := ?oi1k) (v := (.bool false)) ?hi1k ?hs1k ?hf1k ?hr1k ?hQ1k ?hy1k ?hS1k ?h1k
      case hi1k => exact (by simp only [List.getElem?_toArray, List.getElem?_cons_succ, List.getElem?_cons_zero]; rfl)
      case hs1k => kernel_rfl
      case hf1k => kernel_rfl
      case hr1k => kernel_rfl
      case hQ1k => exact fun _ _ _ h => h
      case hy1k =>
        refine Or.inl ⟨rfl, ?_⟩
        intro W hSw
        obtain ⟨⟨q0, q1, q2, q3⟩, p0, p1, p2, p3⟩ := hSw
        go_simp
        try simp
      case hS1k => assumption
      try simp only [Act.put, List.setIfInBounds_toArray, List.set_cons_zero, List.set_cons_succ]
      refine wpAnyH_take (i := 2) (oi := ?oi2k) (v := ?v2k) ?hi2k ?hs2k ?hf2k ?hr2k ?hQ2k ?hy2k ?hS2k ?h2k
      case hi2k => exact (by simp only [List.getElem?_toArray, List.getElem?_cons_succ, List.getElem?_cons_zero]; rfl)
      case hs2k => kernel_rfl
      case hf2k => kernel_rfl
      case hr2k => kernel_rfl
      case hQ2k => exact fun _ _ _ h => h
      case hy2k =>
        refine Or.inl ⟨rfl, ?_⟩
        intro W hSw
        obtain ⟨⟨q0, q1, q2, q3⟩, p0, p1, p2, p3⟩ := hSw
        go_simp
        try with_reducible rfl
      case hS2k => assumption
      try simp only [Act.put, List.setIfInBounds_toArray, List.set_cons_zero, List.set_cons_succ]
      refine wpAnyH_take (i := 3) (oi := ?oi3k) (v := ?v3k) ?hi3k ?hs3k ?hf3k ?hr3k ?hQ3k ?hy3k ?hS3k ?h3k
      case hi3k => exact (by simp only [List.getElem?_toArray, List.getElem?_cons_succ, List.getElem?_cons_zero]; rfl)
      case hs3k => kernel_rfl
      case hf3k => kernel_rfl
      case hr3k => kernel_rfl
      case hQ3k => exact fun _ _ _ h => h
      case hy3k =>
        refine Or.inl ⟨rfl, ?_⟩
        intro W hSw
        obtain ⟨⟨q0, q1, q2, q3⟩, p0, p1, p2, p3⟩ := hSw
        go_simp
        try with_reducible rfl
      case hS3k => assumption
      try simp only [Act.put, List.setIfInBounds_toArray, List.set_cons_zero, List.set_cons_succ]
      refine wpAnyH_take (i := 5) (oi := ?oi5k) (v := ?v5k) ?hi5k ?hs5k ?hf5k ?hr5k ?hQ5k ?hy5k ?hS5k ?h5k
      case hi5k => exact (by simp only [List.getElem?_toArray, List.getElem?_cons_succ, List.getElem?_cons_zero]; rfl)
      case hs5k => kernel_rfl
      case hf5k => kernel_rfl
      case hr5k => kernel_rfl
      case hQ5k => exact fun _ _ _ h => h
      case hy5k =>
        refine Or.inl ⟨rfl, ?_⟩
        intro W hSw
        obtain ⟨⟨q0, q1, q2, q3⟩, p0, p1, p2, p3⟩ := hSw
        go_simp
        try with_reducible rfl
      case hS5k => assumption
      try simp only [Act.put, List.setIfInBounds_toArray, List.set_cons_zero, List.set_cons_succ]
      refine wpAnyH_take (i := 6) (oi := ?oi6k) (v := ?v6k) ?hi6k ?hs6k ?hf6k ?hr6k ?hQ6k ?hy6k ?hS6k ?h6k
      case hi6k => exact (by simp only [List.getElem?_toArray, List.getElem?_cons_succ, List.getElem?_cons_zero]; rfl)
      case hs6k => kernel_rfl
      case hf6k => kernel_rfl
      case hr6k => kernel_rfl
      case hQ6k => exact fun _ _ _ h => h
      case hy6k =>
        refine Or.inl ⟨rfl, ?_⟩
        intro W hSw
        obtain ⟨⟨q0, q1, q2, q3⟩, p0, p1, p2, p3⟩ := hSw
        go_simp
        try with_reducible rfl
      case hS6k => assumption
      try simp only [Act.put, List.setIfInBounds_toArray, List.set_cons_zero, List.set_cons_succ]
      refine wpAnyH_take (i := 7) (oi := ?oi7k) (v := ?v7k) ?hi7k ?hs7k ?hf7k ?hr7k ?hQ7k ?hy7k ?hS7k ?h7k
      case hi7k => exact (by simp only [List.getElem?_toArray, List.getElem?_cons_succ, List.getElem?_cons_zero]; rfl)
      case hs7k => kernel_rfl
      case hf7k => kernel_rfl
      case hr7k => kernel_rfl
      case hQ7k => exact fun _ _ _ h => h
      case hy7k =>
        refine Or.inl ⟨rfl, ?_⟩
        intro W hSw
        obtain ⟨⟨q0, q1, q2, q3⟩, p0, p1, p2, p3⟩ := hSw
        go_simp
        try with_reducible rfl
      case hS7k => assumption
      try simp only [Act.put, List.setIfInBounds_toArray, List.set_cons_zero, List.set_cons_succ]
      refine wpAnyH_take (i := 8) (oi := ?oi8k) (v := ?v8k) ?hi8k ?hs8k ?hf8k ?hr8k ?hQ8k ?hy8k ?hS8k ?h8k
      case hi8k => exact (by simp only [List.getElem?_toArray, List.getElem?_cons_succ, List.getElem?_cons_zero]; rfl)
      case hs8k => kernel_rfl
      case hf8k => kernel_rfl
      case hr8k => kernel_rfl
      case hQ8k => exact fun _ _ _ h => h
      case hy8k =>
        refine Or.inl ⟨rfl, ?_⟩
        intro W hSw
        obtain ⟨⟨q0, q1, q2, q3⟩, p0, p1, p2, p3⟩ := hSw
        go_simp
        try with_reducible rfl
      case hS8k => assumption
      try simp only [Act.put, List.setIfInBounds_toArray, List.set_cons_zero, List.set_cons_succ]
      refine wpAnyH_ready (rs := [4]) (by kernel_rfl) (by simp) ?_
      refine AllReadyH.cons (o := _) rfl (fun K hK => ?_) AllReadyH.nil
      go_simp
      refine ((own_any x l m v Wk0)).mono ?_
      rintro r Wk1 ⟨rfl, hbq⟩
      have HBk1 := Lib.hid (HDk.out.trans (hbq.mono HDk.out.size))
      clear hbq
      refine hK.out _ _ (HS.out _ (HBk1.out)) (fun hHeld => ?_)
      clear hK K
      try simp only [Act.put, List.setIfInBounds_toArray, List.set_cons_zero, List.set_cons_succ]
      refine wpAnyH_ready (rs := [9]) (by kernel_rfl) (by simp) ?_
      refine AllReadyH.cons (o := _) rfl (fun K hK => ?_) AllReadyH.nil
      go_simp
      refine ((HSM.out Wk1 HBk1.out)).mono ?_
      rintro r Wk2 ⟨rfl, hbq⟩
      have HBk2 := Lib.hid (HBk1.out.trans (hbq.mono HBk1.out.size))
      clear hbq
      refine hK.out _ _ (HS.out _ (HBk2.out)) (fun hHeld => ?_)
      clear hK K
      try simp only [Act.put, List.setIfInBounds_toArray, List.set_cons_zero, List.set_cons_succ]
      refine wpAnyH_take (i := 10) (oi := ?oi10k) (v := (.bool false)) ?hi10k ?hs10k ?hf10k ?hr10k ?hQ10k ?hy10k ?hS10k ?h10k
      case hi10k => exact (by simp only [List.getElem?_toArray, List.getElem?_cons_succ, List.getElem?_cons_zero]; rfl)
      case hs10k => kernel_rfl
      case hf10k => kernel_rfl
      case hr10k => kernel_rfl
      case hQ10k => exact fun _ _ _ h => h
      case hy10k =>
        refine Or.inl ⟨rfl, ?_⟩
        intro W hSw
        obtain ⟨⟨q0, q1, q2, q3⟩, p0, p1, p2, p3⟩ := hSw
        go_simp
        try simp
      case hS10k => assumption
      try simp only [Act.put, List.setIfInBounds_toArray, List.set_cons_zero, List.set_cons_succ]
      refine wpAnyH_take (i := 11) (oi := ?oi11k) (v := ?v11k) ?hi11k ?hs11k ?hf11k ?hr11k ?hQ11k ?hy11k ?hS11k ?h11k
      case hi11k => exact (by simp only [List.getElem?_toArray, List.getElem?_cons_succ, List.getElem?_cons_zero]; rfl)
      case hs11k => kernel_rfl
      case hf11k => kernel_rfl
      case hr11k => kernel_rfl
      case hQ11k => exact fun _ _ _ h => h
      case hy11k =>
        refine Or.inl ⟨rfl, ?_⟩
        intro W hSw
        obtain ⟨⟨q0, q1, q2, q3⟩, p0, p1, p2, p3⟩ := hSw
        go_simp
        try with_reducible rfl
      case hS11k => assumption
      try simp only [Act.put, List.setIfInBounds_toArray, List.set_cons_zero, List.set_cons_succ]
      refine wpAnyH_done (by kernel_rfl) ?_ _
      have HB9 : Hid (Below w.heap.size w Wk2) := HB5.out.trans (HBk2.out.mono HB5.out.size)
      go_wp2_with fail
      go_roundw
      case rel => exact ⟨k + 1, by omega, by go_num, HB9.out⟩
      case measure => simp [intOf] <;> omega
    · have hkn : k = n := by omega
      subst hkn
      go_wp2
      go_ret
      exact ⟨rfl, HV.out⟩
end Go.Proofs.Ytjlpmdokmfmdiaa.P
