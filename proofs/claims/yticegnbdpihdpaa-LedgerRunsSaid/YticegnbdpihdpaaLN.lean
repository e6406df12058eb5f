/- Ledger: like. -/
import Derived.Test.YticegnbdpihdpaaLM
namespace Go.Proofs.Yticegnbdpihdpaa
open Go.RowKit Go.Maps
set_option maxRecDepth 20000
set_option linter.unusedVariables false
set_option linter.unusedSimpArgs false

/-- Numbers that were handed out. -/
def Ns (w : World) (v : Value) (m : Nat) (l : List Nat) : Prop := ∃ A c, v = .slice A m c ∧ (0 < m → ∃ b o cc, A = some ⟨b, o, none⟩ ∧ w.heap[b]? = some (.cells cc 26 (0, 0)) ∧ ∀ (k x : Nat), l[k]? = some x → w.cell? ⟨b, o + k, none⟩ = some (.int .u64 (x : Int)))
theorem Ns.of_own {w : World} {base m : Nat} {v : Value} {l : List Nat} (h : w.ownsRow base 26 1 v m (Z.un l)) : Ns w v m l := by
  have hcells := fun g => h.cells (g := g)
  rcases h.2 with ⟨rfl, rfl⟩ | ⟨g, cap, cur, rfl, hg, hb, _, _, _⟩
  · exact ⟨none, 0, rfl, fun h => by omega⟩
  · refine ⟨_, cap, rfl, fun _ => ⟨g, 0, cur, rfl, hb, fun k x hk => ?_⟩⟩
    have := hcells g rfl k (.int .u64 (x : Int)) (by simp [Z.un, hk])
    rw [Go.WideShapes.add_plain] at this
    simpa using this
theorem Ns.below {w W : World} {v : Value} {m : Nat} {l : List Nat} (h : Ns w v m l) (hb : Below w.heap.size w W) : Ns W v m l := by
  obtain ⟨A, c, e, h⟩ := h
  refine ⟨A, c, e, fun hl => ?_⟩
  obtain ⟨b, o, cc, e1, e2, e3⟩ := h hl
  exact ⟨b, o, cc, e1, (hb.block b (lt_of_block e2)).trans e2, fun k x hk => (World.cell?_of_block (hb.block b (lt_of_block e2))).trans (e3 k x hk)⟩
set_option maxHeartbeats 16000000 in
theorem like_any (L M : Nat) (most : Int) (E : List Ent) (A : Option Addr) (m c : Nat) (w : World) (h : Ls w L M most E) (hs : Srt E) (hm : m = E.length) (hR : Ds w A E) (hl : m ≤ 500) (hB : ∀ e ∈ E, e.1 < 18446744073709551616) :
    Calls Try.prog 23 #[gp L, .slice A m c] w fun r w' => r = .returned (.bool true) ∧ Below w.heap.size w w' := by
  have HNO : Hid (Calls Try.prog 25 #[gp L] w fun r w' => ∃ v, r = .returned v ∧ Ns w' v m (E.map (·.1)) ∧ Below w.heap.size w w') := (nonces_ls L M most E w h hs (by omega)).mono fun r w' ⟨v, e, ho, hb⟩ => ⟨v, e, by rw [hm]; exact Ns.of_own ho, hb⟩
  have HLEN : Hid (∀ W, Below w.heap.size w W → Calls Try.prog 26 #[gp L] W fun r w' => r = .returned (.int .i64 (m : Int)) ∧ w' = W) := fun W hW => by rw [hm]; exact len_ls L M most E W (h.below hW)
  have HGET : Hid (∀ W, Below w.heap.size w W → ∀ e ∈ E, Calls Try.prog 12 #[gp L, .int .u64 (e.1 : Int)] W fun r w' => r = .returned (.tuple #[eVe e, .bool true]) ∧ Below W.heap.size W w') := fun W hW e he => by
    have h1 := get_ls L M e.1 most E W (h.below hW) hs (hB e he)
    rw [getE_there hs he, anyN_iff.2 ⟨e, he, rfl⟩] at h1
    exact h1
  have HR := Lib.hid hR
  have HM := Lib.hid hm
  clear h hs hm hR hB
  go_enter Try.func23, Try.ntmps23
  go_wp2_with fail
  refine HNO.out.mono ?_
  rintro r w1 ⟨v, rfl, hn, hb1⟩
  obtain ⟨A5, c5, rfl, -⟩ := id hn
  have HN := Lib.hid hn
  have HB1 := Lib.hid hb1
  have HLN := Lib.hid (HLEN.out w1 hb1)
  clear hn hb1
  go_wp2_with fail
  refine HLN.out.mono ?_
  rintro r w1' ⟨rfl, hw⟩
  subst hw
  go_wp2_with fail
  go_loopw [6] (fun u wr => ∃ (k : Nat), k ≤ m ∧ u = .int .i64 (k : Int) ∧ Hid (Below w.heap.size w wr ∧ Ns wr (.slice A5 m c5) m (E.map (·.1)))) (fun u _ => m - (intOf u).toNat)
  case atStart => exact ⟨0, by omega, rfl, HB1.out, HN.out⟩
  case round =>
    obtain ⟨k, hk, rfl, HV⟩ := hrel
    by_cases hlt : k < m
    · obtain ⟨⟨n, o, a, x⟩, hy⟩ : ∃ e, E[k]? = some e := ⟨E[k]'(by rw [← HM.out]; exact hlt), List.getElem?_eq_getElem _⟩
      obtain ⟨A5', c5', he5, hN5⟩ := HV.out.2
      injection he5 with he5 _ he6
      subst he5 he6
      obtain ⟨b2, o2, cc2, rfl, hq2, hN6⟩ := hN5 (by omega)
      have hN7 := hN6 k n (by simp [hy])
      obtain ⟨b1, o1, cc, rfl, hq1, ha1⟩ := HR.out (by have := HM.out; omega)
      have HG := Lib.hid (HGET.out wr HV.out.1 _ (List.mem_of_getElem? hy))
      have HC8 : Hid (∀ W, Below wr.heap.size wr W → W.cell? ⟨b2, o2 + k, none⟩ = some (.int .u64 (n : Int)) ∧ (W.cell? ⟨b1, o1 + k * 4, none⟩ = some (.int .u64 (n : Int)) ∧ W.cell? ⟨b1, o1 + k * 4 + 1, none⟩ = some (.int .u32 (o : Int)) ∧ W.cell? ⟨b1, o1 + k * 4 + 2, none⟩ = some (.int .u32 (a : Int)) ∧ W.cell? ⟨b1, o1 + k * 4 + 3, none⟩ = some (.int .i64 x))) := fun W hW => by
        obtain ⟨q1, q2, q3, q4⟩ := ha1 k _ hy
        have e := (HV.out.1.trans (hW.mono HV.out.1.size)).block b1 (lt_of_block hq1)
        exact ⟨(World.cell?_of_block (hW.block b2 (lt_of_block hq2))).trans hN7, (World.cell?_of_block e).trans q1, (World.cell?_of_block e).trans q2, (World.cell?_of_block e).trans q3, (World.cell?_of_block e).trans q4⟩
      have HOWN : Hid (∀ W, Calls Try.prog 14 #[eV n o a x] W fun r w' => r = .returned (eV n o a x) ∧ Below W.heap.size W w') := fun W => own_any (n, o, a, x) W
      clear hy hN5 hN6 hq2 hq1 ha1
      go_wp2_with fail
      refine HG.out.mono ?_
      rintro r w1 ⟨rfl, hb1⟩
      obtain ⟨G, hG⟩ : ∃ G, G = w1.heap.size := ⟨_, rfl⟩
      obtain ⟨w2, hw2⟩ : ∃ w2, w2 = w1.alloc (.cells #[.int .u64 (n : Int), .int .u32 (o : Int), .int .u32 (a : Int), .int .i64 x] 33) := ⟨_, rfl⟩
      have hb2 : Below wr.heap.size wr w2 := by rw [hw2]; exact hb1.alloc hb1.size _
      have hq : w2.heap[G]? = some (.cells #[.int .u64 (n : Int), .int .u32 (o : Int), .int .u32 (a : Int), .int .i64 x] 33 (0, 0)) := by rw [hw2, hG]; exact heap_alloc_new w1 _
      have HS8 : Hid (∀ W, Below w2.heap.size w2 W → (fun W : World => W.cell? ⟨b2, o2 + k, none⟩ = some (.int .u64 (n : Int)) ∧ (W.cell? ⟨b1, o1 + k * 4, none⟩ = some (.int .u64 (n : Int)) ∧ W.cell? ⟨b1, o1 + k * 4 + 1, none⟩ = some (.int .u32 (o : Int)) ∧ W.cell? ⟨b1, o1 + k * 4 + 2, none⟩ = some (.int .u32 (a : Int)) ∧ W.cell? ⟨b1, o1 + k * 4 + 3, none⟩ = some (.int .i64 x)) ∧ W.cell? ⟨G, 0, none⟩ = some (.int .u64 (n : Int)) ∧ W.cell? ⟨G, 1, none⟩ = some (.int .u32 (o : Int)) ∧ W.cell? ⟨G, 2, none⟩ = some (.int .u32 (a : Int)) ∧ W.cell? ⟨G, 3, none⟩ = some (.int .i64 x)) W) := fun W hW => by
        obtain ⟨q1, q2⟩ := HC8.out W (hb2.trans (hW.mono hb2.size))
        have e := (hW.block G (lt_of_block hq)).trans hq
        exact ⟨q1, q2, cell_of_row W _ 0 _ _ _ e, cell_of_row W _ 1 _ _ _ e, cell_of_row W _ 2 _ _ _ e, cell_of_row W _ 3 _ _ _ e⟩
      have HR22 : Hid (Below w2.heap.size w2 w2) := Below.refl _ _
      have HB2 := Lib.hid hb2
      have H2 := Lib.hid hw2
      have HGG := Lib.hid hG
      clear hb1 hb2 hw2 hG hq hN7
      go_upto_region 8 with (fail)
      rw [← H2.out, ← HGG.out]
      have HD : Hid (Below w2.heap.size w2 w2.drew) := HR22.out.drew
      refine wp_region_held_drew (S := fun W : World => W.cell? ⟨b2, o2 + k, none⟩ = some (.int .u64 (n : Int)) ∧ (W.cell? ⟨b1, o1 + k * 4, none⟩ = some (.int .u64 (n : Int)) ∧ W.cell? ⟨b1, o1 + k * 4 + 1, none⟩ = some (.int .u32 (o : Int)) ∧ W.cell? ⟨b1, o1 + k * 4 + 2, none⟩ = some (.int .u32 (a : Int)) ∧ W.cell? ⟨b1, o1 + k * 4 + 3, none⟩ = some (.int .i64 x)) ∧ W.cell? ⟨G, 0, none⟩ = some (.int .u64 (n : Int)) ∧ W.cell? ⟨G, 1, none⟩ = some (.int .u32 (o : Int)) ∧ W.cell? ⟨G, 2, none⟩ = some (.int .u32 (a : Int)) ∧ W.cell? ⟨G, 3, none⟩ = some (.int .i64 x)) (by kernel_rfl) (HS8.out _ (HD.out)) (fun hHeld => ?_)
      obtain ⟨W0, hW0⟩ : ∃ W0, W0 = w2.drew := ⟨_, rfl⟩
      rw [← hW0] at hHeld HD ⊢
      clear hW0
      refine wpAnyH_take (i := 0) (oi := ?oi0) (v := ?v0) ?hi0 ?hs0 ?hf0 ?hr0 ?hQ0 ?hy0 ?hS0 ?h0
      case hi0 => exact (by simp only [List.getElem?_toArray, List.getElem?_cons_zero]; rfl)
      case hs0 => kernel_rfl
      case hf0 => kernel_rfl
      case hr0 => kernel_rfl
      case hQ0 => exact fun _ _ _ h => h
      case hy0 =>
        refine Or.inl ⟨rfl, ?_⟩
        intro W hSw
        obtain ⟨y0, ⟨y1, y2, y3, y4⟩, y5, y6, y7, y8⟩ := hSw
        go_simp
        try with_reducible rfl
      case hS0 => assumption
      try simp only [Act.put, List.setIfInBounds_toArray, List.set_cons_zero, List.set_cons_succ]
      refine wpAnyH_take (i := 1) (oi := ?oi1) (v := ?v1) ?hi1 ?hs1 ?hf1 ?hr1 ?hQ1 ?hy1 ?hS1 ?h1
      case hi1 => exact (by simp only [List.getElem?_toArray, List.getElem?_cons_succ, List.getElem?_cons_zero]; rfl)
      case hs1 => kernel_rfl
      case hf1 => kernel_rfl
      case hr1 => kernel_rfl
      case hQ1 => exact fun _ _ _ h => h
      case hy1 =>
        refine Or.inl ⟨rfl, ?_⟩
        intro W hSw
        obtain ⟨y0, ⟨y1, y2, y3, y4⟩, y5, y6, y7, y8⟩ := hSw
        go_simp
        try with_reducible rfl
      case hS1 => assumption
      try simp only [Act.put, List.setIfInBounds_toArray, List.set_cons_zero, List.set_cons_succ]
      refine wpAnyH_take (i := 2) (oi := ?oi2) (v := ?v2) ?hi2 ?hs2 ?hf2 ?hr2 ?hQ2 ?hy2 ?hS2 ?h2
      case hi2 => exact (by simp only [List.getElem?_toArray, List.getElem?_cons_succ, List.getElem?_cons_zero]; rfl)
      case hs2 => kernel_rfl
      case hf2 => kernel_rfl
      case hr2 => kernel_rfl
      case hQ2 => exact fun _ _ _ h => h
      case hy2 =>
        refine Or.inl ⟨rfl, ?_⟩
        intro W hSw
        obtain ⟨y0, ⟨y1, y2, y3, y4⟩, y5, y6, y7, y8⟩ := hSw
        go_simp
        try with_reducible rfl
      case hS2 => assumption
      try simp only [Act.put, List.setIfInBounds_toArray, List.set_cons_zero, List.set_cons_succ]
      refine wpAnyH_take (i := 3) (oi := ?oi3) (v := ?v3) ?hi3 ?hs3 ?hf3 ?hr3 ?hQ3 ?hy3 ?hS3 ?h3
      case hi3 => exact (by simp only [List.getElem?_toArray, List.getElem?_cons_succ, List.getElem?_cons_zero]; rfl)
      case hs3 => kernel_rfl
      case hf3 => kernel_rfl
      case hr3 => kernel_rfl
      case hQ3 => exact fun _ _ _ h => h
      case hy3 =>
        refine Or.inl ⟨rfl, ?_⟩
        intro W hSw
        obtain ⟨y0, ⟨y1, y2, y3, y4⟩, y5, y6, y7, y8⟩ := hSw
        go_simp
        try with_reducible rfl
      case hS3 => assumption
      try simp only [Act.put, List.setIfInBounds_toArray, List.set_cons_zero, List.set_cons_succ]
      refine wpAnyH_take (i := 4) (oi := ?oi4) (v := ?v4) ?hi4 ?hs4 ?hf4 ?hr4 ?hQ4 ?hy4 ?hS4 ?h4
      case hi4 => exact (by simp only [List.getElem?_toArray, List.getElem?_cons_succ, List.getElem?_cons_zero]; rfl)
      case hs4 => kernel_rfl
      case hf4 => kernel_rfl
      case hr4 => kernel_rfl
      case hQ4 => exact fun _ _ _ h => h
      case hy4 =>
        refine Or.inl ⟨rfl, ?_⟩
        intro W hSw
        obtain ⟨y0, ⟨y1, y2, y3, y4⟩, y5, y6, y7, y8⟩ := hSw
        go_simp
        try with_reducible rfl
      case hS4 => assumption
      try simp only [Act.put, List.setIfInBounds_toArray, List.set_cons_zero, List.set_cons_succ]
      refine wpAnyH_take (i := 5) (oi := ?oi5) (v := ?v5) ?hi5 ?hs5 ?hf5 ?hr5 ?hQ5 ?hy5 ?hS5 ?h5
      case hi5 => exact (by simp only [List.getElem?_toArray, List.getElem?_cons_succ, List.getElem?_cons_zero]; rfl)
      case hs5 => kernel_rfl
      case hf5 => kernel_rfl
      case hr5 => kernel_rfl
      case hQ5 => exact fun _ _ _ h => h
      case hy5 =>
        refine Or.inl ⟨rfl, ?_⟩
        intro W hSw
        obtain ⟨y0, ⟨y1, y2, y3, y4⟩, y5, y6, y7, y8⟩ := hSw
        go_simp
        try with_reducible rfl
      case hS5 => assumption
      try simp only [Act.put, List.setIfInBounds_toArray, List.set_cons_zero, List.set_cons_succ]
      refine wpAnyH_take (i := 6) (oi := ?oi6) (v := ?v6) ?hi6 ?hs6 ?hf6 ?hr6 ?hQ6 ?hy6 ?hS6 ?h6
      case hi6 => exact (by simp only [List.getElem?_toArray, List.getElem?_cons_succ, List.getElem?_cons_zero]; rfl)
      case hs6 => kernel_rfl
      case hf6 => kernel_rfl
      case hr6 => kernel_rfl
      case hQ6 => exact fun _ _ _ h => h
      case hy6 =>
        refine Or.inl ⟨rfl, ?_⟩
        intro W hSw
        obtain ⟨y0, ⟨y1, y2, y3, y4⟩, y5, y6, y7, y8⟩ := hSw
        go_simp
        try with_reducible rfl
      case hS6 => assumption
      try simp only [Act.put, List.setIfInBounds_toArray, List.set_cons_zero, List.set_cons_succ]
      refine wpAnyH_take (i := 7) (oi := ?oi7) (v := ?v7) ?hi7 ?hs7 ?hf7 ?hr7 ?hQ7 ?hy7 ?hS7 ?h7
      case hi7 => exact (by simp only [List.getElem?_toArray, List.getElem?_cons_succ, List.getElem?_cons_zero]; rfl)
      case hs7 => kernel_rfl
      case hf7 => kernel_rfl
      case hr7 => kernel_rfl
      case hQ7 => exact fun _ _ _ h => h
      case hy7 =>
        refine Or.inl ⟨rfl, ?_⟩
        intro W hSw
        obtain ⟨y0, ⟨y1, y2, y3, y4⟩, y5, y6, y7, y8⟩ := hSw
        go_simp
        try with_reducible rfl
      case hS7 => assumption
      try simp only [Act.put, List.setIfInBounds_toArray, List.set_cons_zero, List.set_cons_succ]
      refine wpAnyH_take (i := 8) (oi := ?oi8) (v := ?v8) ?hi8 ?hs8 ?hf8 ?hr8 ?hQ8 ?hy8 ?hS8 ?h8
      case hi8 => exact (by simp only [List.getElem?_toArray, List.getElem?_cons_succ, List.getElem?_cons_zero]; rfl)
      case hs8 => kernel_rfl
      case hf8 => kernel_rfl
      case hr8 => kernel_rfl
      case hQ8 => exact fun _ _ _ h => h
      case hy8 =>
        refine Or.inl ⟨rfl, ?_⟩
        intro W hSw
        obtain ⟨y0, ⟨y1, y2, y3, y4⟩, y5, y6, y7, y8⟩ := hSw
        go_simp
        try with_reducible rfl
      case hS8 => assumption
      try simp only [Act.put, List.setIfInBounds_toArray, List.set_cons_zero, List.set_cons_succ]
      refine wpAnyH_take (i := 9) (oi := ?oi9) (v := (.bool false)) ?hi9 ?hs9 ?hf9 ?hr9 ?hQ9 ?hy9 ?hS9 ?h9
      case hi9 => exact (by simp only [List.getElem?_toArray, List.getElem?_cons_succ, List.getElem?_cons_zero]; rfl)
      case hs9 => kernel_rfl
      case hf9 => kernel_rfl
      case hr9 => kernel_rfl
      case hQ9 => exact fun _ _ _ h => h
      case hy9 =>
        refine Or.inl ⟨rfl, ?_⟩
        intro W hSw
        obtain ⟨y0, ⟨y1, y2, y3, y4⟩, y5, y6, y7, y8⟩ := hSw
        go_simp
        try simp
      case hS9 => assumption
      try simp only [Act.put, List.setIfInBounds_toArray, List.set_cons_zero, List.set_cons_succ]
      refine wpAnyH_take (i := 10) (oi := ?oi10) (v := ?v10) ?hi10 ?hs10 ?hf10 ?hr10 ?hQ10 ?hy10 ?hS10 ?h10
      case hi10 => exact (by simp only [List.getElem?_toArray, List.getElem?_cons_succ, List.getElem?_cons_zero]; rfl)
      case hs10 => kernel_rfl
      case hf10 => kernel_rfl
      case hr10 => kernel_rfl
      case hQ10 => exact fun _ _ _ h => h
      case hy10 =>
        refine Or.inl ⟨rfl, ?_⟩
        intro W hSw
        obtain ⟨y0, ⟨y1, y2, y3, y4⟩, y5, y6, y7, y8⟩ := hSw
        go_simp
        try with_reducible rfl
      case hS10 => assumption
      try simp only [Act.put, List.setIfInBounds_toArray, List.set_cons_zero, List.set_cons_succ]
      refine wpAnyH_take (i := 11) (oi := ?oi11) (v := ?v11) ?hi11 ?hs11 ?hf11 ?hr11 ?hQ11 ?hy11 ?hS11 ?h11
      case hi11 => exact (by simp only [List.getElem?_toArray, List.getElem?_cons_succ, List.getElem?_cons_zero]; rfl)
      case hs11 => kernel_rfl
      case hf11 => kernel_rfl
      case hr11 => kernel_rfl
      case hQ11 => exact fun _ _ _ h => h
      case hy11 =>
        refine Or.inl ⟨rfl, ?_⟩
        intro W hSw
        obtain ⟨y0, ⟨y1, y2, y3, y4⟩, y5, y6, y7, y8⟩ := hSw
        go_simp
        try with_reducible rfl
      case hS11 => assumption
      try simp only [Act.put, List.setIfInBounds_toArray, List.set_cons_zero, List.set_cons_succ]
      refine wpAnyH_take (i := 12) (oi := ?oi12) (v := (.bool false)) ?hi12 ?hs12 ?hf12 ?hr12 ?hQ12 ?hy12 ?hS12 ?h12
      case hi12 => exact (by simp only [List.getElem?_toArray, List.getElem?_cons_succ, List.getElem?_cons_zero]; rfl)
      case hs12 => kernel_rfl
      case hf12 => kernel_rfl
      case hr12 => kernel_rfl
      case hQ12 => exact fun _ _ _ h => h
      case hy12 =>
        refine Or.inl ⟨rfl, ?_⟩
        intro W hSw
        obtain ⟨y0, ⟨y1, y2, y3, y4⟩, y5, y6, y7, y8⟩ := hSw
        go_simp
        try simp
      case hS12 => assumption
      try simp only [Act.put, List.setIfInBounds_toArray, List.set_cons_zero, List.set_cons_succ]
      refine wpAnyH_take (i := 13) (oi := ?oi13) (v := (.bool false)) ?hi13 ?hs13 ?hf13 ?hr13 ?hQ13 ?hy13 ?hS13 ?h13
      case hi13 => exact (by simp only [List.getElem?_toArray, List.getElem?_cons_succ, List.getElem?_cons_zero]; rfl)
      case hs13 => kernel_rfl
      case hf13 => kernel_rfl
      case hr13 => kernel_rfl
      case hQ13 => exact fun _ _ _ h => h
      case hy13 =>
        refine Or.inl ⟨rfl, ?_⟩
        intro W hSw
        obtain ⟨y0, ⟨y1, y2, y3, y4⟩, y5, y6, y7, y8⟩ := hSw
        go_simp
        try simp
      case hS13 => assumption
      try simp only [Act.put, List.setIfInBounds_toArray, List.set_cons_zero, List.set_cons_succ]
      refine wpAnyH_take (i := 14) (oi := ?oi14) (v := ?v14) ?hi14 ?hs14 ?hf14 ?hr14 ?hQ14 ?hy14 ?hS14 ?h14
      case hi14 => exact (by simp only [List.getElem?_toArray, List.getElem?_cons_succ, List.getElem?_cons_zero]; rfl)
      case hs14 => kernel_rfl
      case hf14 => kernel_rfl
      case hr14 => kernel_rfl
      case hQ14 => exact fun _ _ _ h => h
      case hy14 =>
        refine Or.inl ⟨rfl, ?_⟩
        intro W hSw
        obtain ⟨y0, ⟨y1, y2, y3, y4⟩, y5, y6, y7, y8⟩ := hSw
        go_simp
        try with_reducible rfl
      case hS14 => assumption
      try simp only [Act.put, List.setIfInBounds_toArray, List.set_cons_zero, List.set_cons_succ]
      refine wpAnyH_take (i := 15) (oi := ?oi15) (v := ?v15) ?hi15 ?hs15 ?hf15 ?hr15 ?hQ15 ?hy15 ?hS15 ?h15
      case hi15 => exact (by simp only [List.getElem?_toArray, List.getElem?_cons_succ, List.getElem?_cons_zero]; rfl)
      case hs15 => kernel_rfl
      case hf15 => kernel_rfl
      case hr15 => kernel_rfl
      case hQ15 => exact fun _ _ _ h => h
      case hy15 =>
        refine Or.inl ⟨rfl, ?_⟩
        intro W hSw
        obtain ⟨y0, ⟨y1, y2, y3, y4⟩, y5, y6, y7, y8⟩ := hSw
        go_simp
        try with_reducible rfl
      case hS15 => assumption
      try simp only [Act.put, List.setIfInBounds_toArray, List.set_cons_zero, List.set_cons_succ]
      refine wpAnyH_take (i := 16) (oi := ?oi16) (v := ?v16) ?hi16 ?hs16 ?hf16 ?hr16 ?hQ16 ?hy16 ?hS16 ?h16
      case hi16 => exact (by simp only [List.getElem?_toArray, List.getElem?_cons_succ, List.getElem?_cons_zero]; rfl)
      case hs16 => kernel_rfl
      case hf16 => kernel_rfl
      case hr16 => kernel_rfl
      case hQ16 => exact fun _ _ _ h => h
      case hy16 =>
        refine Or.inl ⟨rfl, ?_⟩
        intro W hSw
        obtain ⟨y0, ⟨y1, y2, y3, y4⟩, y5, y6, y7, y8⟩ := hSw
        go_simp
        try with_reducible rfl
      case hS16 => assumption
      try simp only [Act.put, List.setIfInBounds_toArray, List.set_cons_zero, List.set_cons_succ]
      refine wpAnyH_take (i := 17) (oi := ?oi17) (v := ?v17) ?hi17 ?hs17 ?hf17 ?hr17 ?hQ17 ?hy17 ?hS17 ?h17
      case hi17 => exact (by simp only [List.getElem?_toArray, List.getElem?_cons_succ, List.getElem?_cons_zero]; rfl)
      case hs17 => kernel_rfl
      case hf17 => kernel_rfl
      case hr17 => kernel_rfl
      case hQ17 => exact fun _ _ _ h => h
      case hy17 =>
        refine Or.inl ⟨rfl, ?_⟩
        intro W hSw
        obtain ⟨y0, ⟨y1, y2, y3, y4⟩, y5, y6, y7, y8⟩ := hSw
        go_simp
        try with_reducible rfl
      case hS17 => assumption
      try simp only [Act.put, List.setIfInBounds_toArray, List.set_cons_zero, List.set_cons_succ]
      refine wpAnyH_take (i := 18) (oi := ?oi18) (v := ?v18) ?hi18 ?hs18 ?hf18 ?hr18 ?hQ18 ?hy18 ?hS18 ?h18
      case hi18 => exact (by simp only [List.getElem?_toArray, List.getElem?_cons_succ, List.getElem?_cons_zero]; rfl)
      case hs18 => kernel_rfl
      case hf18 => kernel_rfl
      case hr18 => kernel_rfl
      case hQ18 => exact fun _ _ _ h => h
      case hy18 =>
        refine Or.inl ⟨rfl, ?_⟩
        intro W hSw
        obtain ⟨y0, ⟨y1, y2, y3, y4⟩, y5, y6, y7, y8⟩ := hSw
        go_simp
        try with_reducible rfl
      case hS18 => assumption
      try simp only [Act.put, List.setIfInBounds_toArray, List.set_cons_zero, List.set_cons_succ]
      refine wpAnyH_take (i := 19) (oi := ?oi19) (v := ?v19) ?hi19 ?hs19 ?hf19 ?hr19 ?hQ19 ?hy19 ?hS19 ?h19
      case hi19 => exact (by simp only [List.getElem?_toArray, List.getElem?_cons_succ, List.getElem?_cons_zero]; rfl)
      case hs19 => kernel_rfl
      case hf19 => kernel_rfl
      case hr19 => kernel_rfl
      case hQ19 => exact fun _ _ _ h => h
      case hy19 =>
        refine Or.inl ⟨rfl, ?_⟩
        intro W hSw
        obtain ⟨y0, ⟨y1, y2, y3, y4⟩, y5, y6, y7, y8⟩ := hSw
        go_simp
        try with_reducible rfl
      case hS19 => assumption
      try simp only [Act.put, List.setIfInBounds_toArray, List.set_cons_zero, List.set_cons_succ]
      refine wpAnyH_ready (rs := [20]) (by kernel_rfl) (by simp) ?_
      refine AllReadyH.cons (o := _) rfl (fun K hK => ?_) AllReadyH.nil
      go_simp
      refine ((HOWN.out W0)).mono ?_
      rintro r W1 ⟨rfl, hbq⟩
      have HB1 := Lib.hid (HD.out.trans (hbq.mono HD.out.size))
      clear hbq
      refine hK.out _ _ (HS8.out _ (HB1.out)) (fun hHeld => ?_)
      clear hK K
      try simp only [Act.put, List.setIfInBounds_toArray, List.set_cons_zero, List.set_cons_succ]
      refine wpAnyH_take (i := 21) (oi := ?oi21) (v := (.bool false)) ?hi21 ?hs21 ?hf21 ?hr21 ?hQ21 ?hy21 ?hS21 ?h21
      case hi21 => exact (by simp only [List.getElem?_toArray, List.getElem?_cons_succ, List.getElem?_cons_zero]; rfl)
      case hs21 => kernel_rfl
      case hf21 => kernel_rfl
      case hr21 => kernel_rfl
      case hQ21 => exact fun _ _ _ h => h
      case hy21 =>
        refine Or.inl ⟨rfl, ?_⟩
        intro W hSw
        obtain ⟨y0, ⟨y1, y2, y3, y4⟩, y5, y6, y7, y8⟩ := hSw
        go_simp
        try simp
      case hS21 => assumption
      try simp only [Act.put, List.setIfInBounds_toArray, List.set_cons_zero, List.set_cons_succ]
      refine wpAnyH_take (i := 22) (oi := ?oi22) (v := ?v22) ?hi22 ?hs22 ?hf22 ?hr22 ?hQ22 ?hy22 ?hS22 ?h22
      case hi22 => exact (by simp only [List.getElem?_toArray, List.getElem?_cons_succ, List.getElem?_cons_zero]; rfl)
      case hs22 => kernel_rfl
      case hf22 => kernel_rfl
      case hr22 => kernel_rfl
      case hQ22 => exact fun _ _ _ h => h
      case hy22 =>
        refine Or.inl ⟨rfl, ?_⟩
        intro W hSw
        obtain ⟨y0, ⟨y1, y2, y3, y4⟩, y5, y6, y7, y8⟩ := hSw
        go_simp
        try with_reducible rfl
      case hS22 => assumption
      try simp only [Act.put, List.setIfInBounds_toArray, List.set_cons_zero, List.set_cons_succ]
      refine wpAnyH_done (by kernel_rfl) ?_ _
      have HFIN : Hid (Below wr.heap.size wr W1) := HB2.out.trans (HB1.out.mono HB2.out.size)
      go_wp2_with fail
      go_roundw
      case rel => exact ⟨k + 1, by omega, by go_num, HV.out.1.trans (HFIN.out.mono HV.out.1.size), HV.out.2.below HFIN.out⟩
      case measure => simp [intOf] <;> omega
    · obtain rfl : k = m := by omega
      go_wp2
      go_ret
      exact ⟨rfl, HV.out.1⟩
/-- A new ledger, when what it may hold is below nought. -/
theorem new_neg (most : Int) (h0 : most < 0) (w : World) : Calls Try.prog 11 #[.int .i64 most] w fun e w' => e = .returned (gp (w.heap.size + 1)) ∧ IsL w' (w.heap.size + 1) w.heap.size 0 0 (.map []) ∧ Below w.heap.size w w' := by
  have hm := World.ownsMap_made w Try.prog 26 R
  have hb := ((Below.refl w.heap.size w).alloc (Nat.le_refl _) (.map #[] 0)).alloc (by simp) (.cells #[.int .i64 0, .map (some w.heap.size)] 90)
  have hq := heap_alloc_new (w.alloc (.map #[] 0)) (.cells #[.int .i64 0, .map (some w.heap.size)] 90)
  rw [World.size_alloc] at hq
  have hmk : ∀ W : World, (Instr.makeMap 88 none).run Try.prog W = .ok (.map (some W.heap.size)) (W.alloc (.map #[] 0)) := fun W => rfl
  go_enter Try.func11, Try.ntmps11
  go_wp2
  go_ret
  rw [show max most 0 = 0 by omega]
  exact ⟨rfl, ⟨hq, hm.alloc _⟩, hb⟩
theorem new_max (most : Int) (w : World) : Calls Try.prog 11 #[.int .i64 most] w fun e w' => e = .returned (gp (w.heap.size + 1)) ∧ Ls w' (w.heap.size + 1) w.heap.size (max 0 most) [] ∧ Below w.heap.size w w' := by
  by_cases h : 0 ≤ most
  · rw [Int.max_eq_right h]
    exact (new_some most h w).mono fun r w' ⟨h1, h2, h3⟩ => ⟨h1, ⟨_, h2.norm, Rep.empty⟩, h3⟩
  · rw [Int.max_eq_left (by omega)]
    exact (new_neg most (by omega) w).mono fun r w' ⟨h1, h2, h3⟩ => ⟨h1, ⟨_, h2.norm, Rep.empty⟩, h3⟩
end Go.Proofs.Yticegnbdpihdpaa
