/- Draft: count. -/
import Derived.Test.YtnloikdfbdpilaaDS
namespace Go.Proofs.Ytnloikdfbdpilaa
open Go.RowKit
set_option maxRecDepth 20000
set_option linter.unusedVariables false

set_option linter.unusedSimpArgs false in
set_option maxHeartbeats 4000000 in
theorem count_any (A9 : Option Addr) (n c9 : Nat) (l : List Tk) (A : Option Addr) (np c : Nat) (es : List En) (w : World) (hn : n = l.length) (hT : Ts w w.heap.size A9 l) (hnp : np = es.length) (hZ : Zs w w.heap.size A (es.map (·.p)))
    (hes : ∀ e ∈ es, ∃ (i : Nat) (t : Tk), l[i]? = some t ∧ e.p = (i : Int) ∧ e.n = (t.n : Int)) (hO : ∀ e ∈ es, Ok e) (hup : es.Pairwise fun x y => x.p < y.p) (hl : n ≤ 1000) (hl2 : np ≤ 20) :
    Calls Try.prog 22 #[.slice A9 n c9, .slice A np c] w fun r w' => r = .returned (.tuple #[.int .i64 (sumN es), .bool true]) ∧ Below w.heap.size w w' := by
  have HT := Lib.hid hT
  have HZ := Lib.hid hZ
  have HN := Lib.hid hn
  have HNP := Lib.hid hnp
  have HES := Lib.hid hes
  have HO := Lib.hid hO
  have HUP := Lib.hid hup
  have HBr : Hid (Below w.heap.size w w) := Below.refl _ _
  clear hn hT hnp hZ hes hO hup
  go_enter Try.func22, Try.ntmps22
  go_wp2_with fail
  go_loopw [6, 7] (fun o u wr => ∃ k : Nat, k ≤ np ∧ u = .int .i64 (k : Int) ∧ o = .int .i64 (sumN (es.take k)) ∧ Hid (Below w.heap.size w wr)) (fun _ u _ => np - (intOf u).toNat)
  case atStart => exact ⟨0, by omega, rfl, rfl, HBr.out⟩
  case round =>
    obtain ⟨k, hk, rfl, rfl, HV⟩ := hrel
    by_cases hlt : k < np
    · obtain ⟨e, hy⟩ : ∃ e, es[k]? = some e := ⟨es[k]'(by rw [← HNP.out]; exact hlt), List.getElem?_eq_getElem _⟩
      have HSN : Hid (sumN (es.take (k + 1)) = sumN (es.take k) + e.n) := (sum_snoc es k e hy).1
      have hbd := (sum_bd (es.take k) fun e he => HO.out e (List.mem_of_mem_take he)).1
      have hlk : (es.take k).length ≤ k := List.length_take_le _ _
      have hoe := HO.out e (List.mem_of_getElem? hy)
      obtain ⟨ix, t, hit, hep, hen⟩ := HES.out e (List.mem_of_getElem? hy)
      obtain ⟨ho1, ho2, -⟩ := hoe
      obtain ⟨b, o, rfl, hbb, hcell⟩ := (HZ.out.below HV.out) (by rw [List.length_map]; have := HNP.out; omega)
      have d0 := hcell k e.p (by rw [List.getElem?_map, hy]; rfl)
      have hixn : ix < n := by rw [HN.out]; exact (List.getElem?_eq_some_iff.1 hit).1
      obtain ⟨b1, o1, rfl, hb1, ha1⟩ := (HT.out.below HV.out) (by have := HN.out; omega)
      obtain ⟨x, y, P, cp, e0, e1, e2, e3, e4⟩ := ha1 ix t hit
      obtain ⟨X, hX⟩ : ∃ X, X = sumN (es.take k) := ⟨_, rfl⟩
      rw [← hX] at hbd HSN ⊢
      rw [hep] at d0
      rw [hen] at ho1 ho2 HSN
      have q1 : ¬ (ix : Int) < 0 := by omega
      have q2 : ¬ (n : Int) ≤ (ix : Int) := by omega
      have HE2 : Hid (∀ W, Below wr.heap.size wr W → W.cell? ⟨b1, o1 + ix * 5 + 2, none⟩ = some (.slice P t.n cp)) := fun W hW => (hW.cell (p := ⟨b1, _, none⟩) (World.block_lt_of_cell? wr _ e2)).trans e2
      clear hX e0 e1 e2 e3 e4
      rcases k with _ | j
      · simp only [Nat.add_zero] at d0
        have HKN : Hid ((0 : Nat) < np) := hlt
        have HX1 : Hid (¬ (ix : Int) < 0) := q1
        have HX2 : Hid ((ix : Int) < (n : Int)) := by simp only [Hid]; omega
        have HBS : Hid (Below wr.heap.size wr wr) := Below.refl _ _
        have HCF : Hid (∀ W, Below wr.heap.size wr W → W.cell? ⟨b, o, none⟩ = some (.int .i64 (ix : Int))) := fun W hW => (hW.cell (p := ⟨b, o, none⟩) (World.block_lt_of_cell? wr _ d0)).trans d0
        clear hy hcell ha1 hit hep hen hbb hb1
        go_upto_region 5 with (fail)
        have HDp : Hid (Below wr.heap.size wr wr.drew) := HBS.out.drew
        refine wp_region_held_drew (S := fun W : World => W.cell? ⟨b, o, none⟩ = some (.int .i64 (ix : Int))) (by kernel_rfl) (HCF.out _ HDp.out) (fun hHeld => ?_)
        obtain ⟨Wp0, hW0⟩ : ∃ W0, W0 = wr.drew := ⟨_, rfl⟩
        rw [← hW0] at hHeld HDp ⊢
        clear hW0
        refine wpAnyH_take (i := 0) (oi := ?oi0p) (v := ?v0p) ?hi0p ?hs0p ?hf0p ?hr0p ?hQ0p ?hy0p ?hS0p ?h0p
        case hi0p => exact (by simp only [List.getElem?_toArray, List.getElem?_cons_zero]; rfl)
        case hs0p => kernel_rfl
        case hf0p => kernel_rfl
        case hr0p => kernel_rfl
        case hQ0p => exact fun _ _ _ h => h
        case hy0p =>
          refine Or.inl ⟨rfl, ?_⟩
          intro W hSw
          have y0 := hSw
          have z1 := HKN.out
          have z2 := HX1.out
          have z3 := HX2.out
          go_simp
          try with_reducible rfl
        case hS0p => assumption
        try simp only [Act.put, List.setIfInBounds_toArray, List.set_cons_zero, List.set_cons_succ]
        refine wpAnyH_take (i := 1) (oi := ?oi1p) (v := ?v1p) ?hi1p ?hs1p ?hf1p ?hr1p ?hQ1p ?hy1p ?hS1p ?h1p
        case hi1p => exact (by simp only [List.getElem?_toArray, List.getElem?_cons_succ, List.getElem?_cons_zero]; rfl)
        case hs1p => kernel_rfl
        case hf1p => kernel_rfl
        case hr1p => kernel_rfl
        case hQ1p => exact fun _ _ _ h => h
        case hy1p =>
          refine Or.inl ⟨rfl, ?_⟩
          intro W hSw
          have y0 := hSw
          have z1 := HKN.out
          have z2 := HX1.out
          have z3 := HX2.out
          go_simp
          try with_reducible rfl
        case hS1p => assumption
        try simp only [Act.put, List.setIfInBounds_toArray, List.set_cons_zero, List.set_cons_succ]
        refine wpAnyH_take (i := 2) (oi := ?oi2p) (v := ?v2p) ?hi2p ?hs2p ?hf2p ?hr2p ?hQ2p ?hy2p ?hS2p ?h2p
        case hi2p => exact (by simp only [List.getElem?_toArray, List.getElem?_cons_succ, List.getElem?_cons_zero]; rfl)
        case hs2p => kernel_rfl
        case hf2p => kernel_rfl
        case hr2p => kernel_rfl
        case hQ2p => exact fun _ _ _ h => h
        case hy2p =>
          refine Or.inl ⟨rfl, ?_⟩
          intro W hSw
          have y0 := hSw
          have z1 := HKN.out
          have z2 := HX1.out
          have z3 := HX2.out
          go_simp
          try with_reducible rfl
        case hS2p => assumption
        try simp only [Act.put, List.setIfInBounds_toArray, List.set_cons_zero, List.set_cons_succ]
        refine wpAnyH_take (i := 3) (oi := ?oi3p) (v := ?v3p) ?hi3p ?hs3p ?hf3p ?hr3p ?hQ3p ?hy3p ?hS3p ?h3p
        case hi3p => exact (by simp only [List.getElem?_toArray, List.getElem?_cons_succ, List.getElem?_cons_zero]; rfl)
        case hs3p => kernel_rfl
        case hf3p => kernel_rfl
        case hr3p => kernel_rfl
        case hQ3p => exact fun _ _ _ h => h
        case hy3p =>
          refine Or.inl ⟨rfl, ?_⟩
          intro W hSw
          have y0 := hSw
          have z1 := HKN.out
          have z2 := HX1.out
          have z3 := HX2.out
          go_simp
          try with_reducible rfl
        case hS3p => assumption
        try simp only [Act.put, List.setIfInBounds_toArray, List.set_cons_zero, List.set_cons_succ]
        refine wpAnyH_take (i := 4) (oi := ?oi4p) (v := (.bool false)) ?hi4p ?hs4p ?hf4p ?hr4p ?hQ4p ?hy4p ?hS4p ?h4p
        case hi4p => exact (by simp only [List.getElem?_toArray, List.getElem?_cons_succ, List.getElem?_cons_zero]; rfl)
        case hs4p => kernel_rfl
        case hf4p => kernel_rfl
        case hr4p => kernel_rfl
        case hQ4p => exact fun _ _ _ h => h
        case hy4p =>
          refine Or.inl ⟨rfl, ?_⟩
          intro W hSw
          have y0 := hSw
          have z1 := HKN.out
          have z2 := HX1.out
          have z3 := HX2.out
          go_simp
          all_goals first | with_reducible rfl | (simp; done) | (simp; omega) | omega
        case hS4p => assumption
        try simp only [Act.put, List.setIfInBounds_toArray, List.set_cons_zero, List.set_cons_succ]
        refine wpAnyH_take (i := 5) (oi := ?oi5p) (v := ?v5p) ?hi5p ?hs5p ?hf5p ?hr5p ?hQ5p ?hy5p ?hS5p ?h5p
        case hi5p => exact (by simp only [List.getElem?_toArray, List.getElem?_cons_succ, List.getElem?_cons_zero]; rfl)
        case hs5p => kernel_rfl
        case hf5p => kernel_rfl
        case hr5p => kernel_rfl
        case hQ5p => exact fun _ _ _ h => h
        case hy5p =>
          refine Or.inl ⟨rfl, ?_⟩
          intro W hSw
          have y0 := hSw
          have z1 := HKN.out
          have z2 := HX1.out
          have z3 := HX2.out
          go_simp
          try with_reducible rfl
        case hS5p => assumption
        try simp only [Act.put, List.setIfInBounds_toArray, List.set_cons_zero, List.set_cons_succ]
        refine wpAnyH_take (i := 6) (oi := ?oi6p) (v := ?v6p) ?hi6p ?hs6p ?hf6p ?hr6p ?hQ6p ?hy6p ?hS6p ?h6p
        case hi6p => exact (by simp only [List.getElem?_toArray, List.getElem?_cons_succ, List.getElem?_cons_zero]; rfl)
        case hs6p => kernel_rfl
        case hf6p => kernel_rfl
        case hr6p => kernel_rfl
        case hQ6p => exact fun _ _ _ h => h
        case hy6p =>
          refine Or.inl ⟨rfl, ?_⟩
          intro W hSw
          have y0 := hSw
          have z1 := HKN.out
          have z2 := HX1.out
          have z3 := HX2.out
          go_simp
          try with_reducible rfl
        case hS6p => assumption
        try simp only [Act.put, List.setIfInBounds_toArray, List.set_cons_zero, List.set_cons_succ]
        refine wpAnyH_take (i := 7) (oi := ?oi7p) (v := ?v7p) ?hi7p ?hs7p ?hf7p ?hr7p ?hQ7p ?hy7p ?hS7p ?h7p
        case hi7p => exact (by simp only [List.getElem?_toArray, List.getElem?_cons_succ, List.getElem?_cons_zero]; rfl)
        case hs7p => kernel_rfl
        case hf7p => kernel_rfl
        case hr7p => kernel_rfl
        case hQ7p => exact fun _ _ _ h => h
        case hy7p =>
          refine Or.inl ⟨rfl, ?_⟩
          intro W hSw
          have y0 := hSw
          have z1 := HKN.out
          have z2 := HX1.out
          have z3 := HX2.out
          go_simp
          try with_reducible rfl
        case hS7p => assumption
        try simp only [Act.put, List.setIfInBounds_toArray, List.set_cons_zero, List.set_cons_succ]
        refine wpAnyH_take (i := 8) (oi := ?oi8p) (v := ?v8p) ?hi8p ?hs8p ?hf8p ?hr8p ?hQ8p ?hy8p ?hS8p ?h8p
        case hi8p => exact (by simp only [List.getElem?_toArray, List.getElem?_cons_succ, List.getElem?_cons_zero]; rfl)
        case hs8p => kernel_rfl
        case hf8p => kernel_rfl
        case hr8p => kernel_rfl
        case hQ8p => exact fun _ _ _ h => h
        case hy8p =>
          refine Or.inl ⟨rfl, ?_⟩
          intro W hSw
          have y0 := hSw
          have z1 := HKN.out
          have z2 := HX1.out
          have z3 := HX2.out
          go_simp
          try with_reducible rfl
        case hS8p => assumption
        try simp only [Act.put, List.setIfInBounds_toArray, List.set_cons_zero, List.set_cons_succ]
        refine wpAnyH_take (i := 9) (oi := ?oi9p) (v := ?v9p) ?hi9p ?hs9p ?hf9p ?hr9p ?hQ9p ?hy9p ?hS9p ?h9p
        case hi9p => exact (by simp only [List.getElem?_toArray, List.getElem?_cons_succ, List.getElem?_cons_zero]; rfl)
        case hs9p => kernel_rfl
        case hf9p => kernel_rfl
        case hr9p => kernel_rfl
        case hQ9p => exact fun _ _ _ h => h
        case hy9p =>
          refine Or.inl ⟨rfl, ?_⟩
          intro W hSw
          have y0 := hSw
          have z1 := HKN.out
          have z2 := HX1.out
          have z3 := HX2.out
          go_simp
          try with_reducible rfl
        case hS9p => assumption
        try simp only [Act.put, List.setIfInBounds_toArray, List.set_cons_zero, List.set_cons_succ]
        refine wpAnyH_take (i := 10) (oi := ?oi10p) (v := ?v10p) ?hi10p ?hs10p ?hf10p ?hr10p ?hQ10p ?hy10p ?hS10p ?h10p
        case hi10p => exact (by simp only [List.getElem?_toArray, List.getElem?_cons_succ, List.getElem?_cons_zero]; rfl)
        case hs10p => kernel_rfl
        case hf10p => kernel_rfl
        case hr10p => kernel_rfl
        case hQ10p => exact fun _ _ _ h => h
        case hy10p =>
          refine Or.inl ⟨rfl, ?_⟩
          intro W hSw
          have y0 := hSw
          have z1 := HKN.out
          have z2 := HX1.out
          have z3 := HX2.out
          go_simp
          try with_reducible rfl
        case hS10p => assumption
        try simp only [Act.put, List.setIfInBounds_toArray, List.set_cons_zero, List.set_cons_succ]
        refine wpAnyH_take (i := 11) (oi := ?oi11p) (v := ?v11p) ?hi11p ?hs11p ?hf11p ?hr11p ?hQ11p ?hy11p ?hS11p ?h11p
        case hi11p => exact (by simp only [List.getElem?_toArray, List.getElem?_cons_succ, List.getElem?_cons_zero]; rfl)
        case hs11p => kernel_rfl
        case hf11p => kernel_rfl
        case hr11p => kernel_rfl
        case hQ11p => exact fun _ _ _ h => h
        case hy11p =>
          refine Or.inl ⟨rfl, ?_⟩
          intro W hSw
          have y0 := hSw
          have z1 := HKN.out
          have z2 := HX1.out
          have z3 := HX2.out
          go_simp
          try with_reducible rfl
        case hS11p => assumption
        try simp only [Act.put, List.setIfInBounds_toArray, List.set_cons_zero, List.set_cons_succ]
        refine wpAnyH_take (i := 12) (oi := ?oi12p) (v := (.bool false)) ?hi12p ?hs12p ?hf12p ?hr12p ?hQ12p ?hy12p ?hS12p ?h12p
        case hi12p => exact (by simp only [List.getElem?_toArray, List.getElem?_cons_succ, List.getElem?_cons_zero]; rfl)
        case hs12p => kernel_rfl
        case hf12p => kernel_rfl
        case hr12p => kernel_rfl
        case hQ12p => exact fun _ _ _ h => h
        case hy12p =>
          refine Or.inl ⟨rfl, ?_⟩
          intro W hSw
          have y0 := hSw
          have z1 := HKN.out
          have z2 := HX1.out
          have z3 := HX2.out
          go_simp
          all_goals first | with_reducible rfl | (simp; done) | (simp; omega) | omega
        case hS12p => assumption
        try simp only [Act.put, List.setIfInBounds_toArray, List.set_cons_zero, List.set_cons_succ]
        refine wpAnyH_take (i := 13) (oi := ?oi13p) (v := ?v13p) ?hi13p ?hs13p ?hf13p ?hr13p ?hQ13p ?hy13p ?hS13p ?h13p
        case hi13p => exact (by simp only [List.getElem?_toArray, List.getElem?_cons_succ, List.getElem?_cons_zero]; rfl)
        case hs13p => kernel_rfl
        case hf13p => kernel_rfl
        case hr13p => kernel_rfl
        case hQ13p => exact fun _ _ _ h => h
        case hy13p =>
          refine Or.inl ⟨rfl, ?_⟩
          intro W hSw
          have y0 := hSw
          have z1 := HKN.out
          have z2 := HX1.out
          have z3 := HX2.out
          go_simp
          try with_reducible rfl
        case hS13p => assumption
        try simp only [Act.put, List.setIfInBounds_toArray, List.set_cons_zero, List.set_cons_succ]
        refine wpAnyH_take (i := 14) (oi := ?oi14p) (v := ?v14p) ?hi14p ?hs14p ?hf14p ?hr14p ?hQ14p ?hy14p ?hS14p ?h14p
        case hi14p => exact (by simp only [List.getElem?_toArray, List.getElem?_cons_succ, List.getElem?_cons_zero]; rfl)
        case hs14p => kernel_rfl
        case hf14p => kernel_rfl
        case hr14p => kernel_rfl
        case hQ14p => exact fun _ _ _ h => h
        case hy14p =>
          refine Or.inl ⟨rfl, ?_⟩
          intro W hSw
          have y0 := hSw
          have z1 := HKN.out
          have z2 := HX1.out
          have z3 := HX2.out
          go_simp
          try with_reducible rfl
        case hS14p => assumption
        try simp only [Act.put, List.setIfInBounds_toArray, List.set_cons_zero, List.set_cons_succ]
        refine wpAnyH_take (i := 15) (oi := ?oi15p) (v := ?v15p) ?hi15p ?hs15p ?hf15p ?hr15p ?hQ15p ?hy15p ?hS15p ?h15p
        case hi15p => exact (by simp only [List.getElem?_toArray, List.getElem?_cons_succ, List.getElem?_cons_zero]; rfl)
        case hs15p => kernel_rfl
        case hf15p => kernel_rfl
        case hr15p => kernel_rfl
        case hQ15p => exact fun _ _ _ h => h
        case hy15p =>
          refine Or.inl ⟨rfl, ?_⟩
          intro W hSw
          have y0 := hSw
          have z1 := HKN.out
          have z2 := HX1.out
          have z3 := HX2.out
          go_simp
          try with_reducible rfl
        case hS15p => assumption
        try simp only [Act.put, List.setIfInBounds_toArray, List.set_cons_zero, List.set_cons_succ]
        refine wpAnyH_take (i := 16) (oi := ?oi16p) (v := (.bool false)) ?hi16p ?hs16p ?hf16p ?hr16p ?hQ16p ?hy16p ?hS16p ?h16p
        case hi16p => exact (by simp only [List.getElem?_toArray, List.getElem?_cons_succ, List.getElem?_cons_zero]; rfl)
        case hs16p => kernel_rfl
        case hf16p => kernel_rfl
        case hr16p => kernel_rfl
        case hQ16p => exact fun _ _ _ h => h
        case hy16p =>
          refine Or.inl ⟨rfl, ?_⟩
          intro W hSw
          have y0 := hSw
          have z1 := HKN.out
          have z2 := HX1.out
          have z3 := HX2.out
          go_simp
          all_goals first | with_reducible rfl | (simp; done) | (simp; omega) | omega
        case hS16p => assumption
        try simp only [Act.put, List.setIfInBounds_toArray, List.set_cons_zero, List.set_cons_succ]
        refine wpAnyH_take (i := 17) (oi := ?oi17p) (v := ?v17p) ?hi17p ?hs17p ?hf17p ?hr17p ?hQ17p ?hy17p ?hS17p ?h17p
        case hi17p => exact (by simp only [List.getElem?_toArray, List.getElem?_cons_succ, List.getElem?_cons_zero]; rfl)
        case hs17p => kernel_rfl
        case hf17p => kernel_rfl
        case hr17p => kernel_rfl
        case hQ17p => exact fun _ _ _ h => h
        case hy17p =>
          refine Or.inl ⟨rfl, ?_⟩
          intro W hSw
          have y0 := hSw
          have z1 := HKN.out
          have z2 := HX1.out
          have z3 := HX2.out
          go_simp
          try with_reducible rfl
        case hS17p => assumption
        try simp only [Act.put, List.setIfInBounds_toArray, List.set_cons_zero, List.set_cons_succ]
        refine wpAnyH_take (i := 18) (oi := ?oi18p) (v := undef) ?hi18p ?hs18p ?hf18p ?hr18p ?hQ18p ?hy18p ?hS18p ?h18p
        case hi18p => exact (by simp only [List.getElem?_toArray, List.getElem?_cons_succ, List.getElem?_cons_zero]; rfl)
        case hs18p => kernel_rfl
        case hf18p => kernel_rfl
        case hr18p => kernel_rfl
        case hQ18p => exact fun _ _ _ h => h
        case hy18p =>
          exact Or.inr ⟨rfl, rfl⟩
        case hS18p => assumption
        try simp only [Act.put, List.setIfInBounds_toArray, List.set_cons_zero, List.set_cons_succ]
        refine wpAnyH_take (i := 19) (oi := ?oi19p) (v := undef) ?hi19p ?hs19p ?hf19p ?hr19p ?hQ19p ?hy19p ?hS19p ?h19p
        case hi19p => exact (by simp only [List.getElem?_toArray, List.getElem?_cons_succ, List.getElem?_cons_zero]; rfl)
        case hs19p => kernel_rfl
        case hf19p => kernel_rfl
        case hr19p => kernel_rfl
        case hQ19p => exact fun _ _ _ h => h
        case hy19p =>
          exact Or.inr ⟨rfl, rfl⟩
        case hS19p => assumption
        try simp only [Act.put, List.setIfInBounds_toArray, List.set_cons_zero, List.set_cons_succ]
        refine wpAnyH_take (i := 20) (oi := ?oi20p) (v := undef) ?hi20p ?hs20p ?hf20p ?hr20p ?hQ20p ?hy20p ?hS20p ?h20p
        case hi20p => exact (by simp only [List.getElem?_toArray, List.getElem?_cons_succ, List.getElem?_cons_zero]; rfl)
        case hs20p => kernel_rfl
        case hf20p => kernel_rfl
        case hr20p => kernel_rfl
        case hQ20p => exact fun _ _ _ h => h
        case hy20p =>
          exact Or.inr ⟨rfl, rfl⟩
        case hS20p => assumption
        try simp only [Act.put, List.setIfInBounds_toArray, List.set_cons_zero, List.set_cons_succ]
        refine wpAnyH_take (i := 21) (oi := ?oi21p) (v := undef) ?hi21p ?hs21p ?hf21p ?hr21p ?hQ21p ?hy21p ?hS21p ?h21p
        case hi21p => exact (by simp only [List.getElem?_toArray, List.getElem?_cons_succ, List.getElem?_cons_zero]; rfl)
        case hs21p => kernel_rfl
        case hf21p => kernel_rfl
        case hr21p => kernel_rfl
        case hQ21p => exact fun _ _ _ h => h
        case hy21p =>
          exact Or.inr ⟨rfl, rfl⟩
        case hS21p => assumption
        try simp only [Act.put, List.setIfInBounds_toArray, List.set_cons_zero, List.set_cons_succ]
        refine wpAnyH_take (i := 22) (oi := ?oi22p) (v := undef) ?hi22p ?hs22p ?hf22p ?hr22p ?hQ22p ?hy22p ?hS22p ?h22p
        case hi22p => exact (by simp only [List.getElem?_toArray, List.getElem?_cons_succ, List.getElem?_cons_zero]; rfl)
        case hs22p => kernel_rfl
        case hf22p => kernel_rfl
        case hr22p => kernel_rfl
        case hQ22p => exact fun _ _ _ h => h
        case hy22p =>
          exact Or.inr ⟨rfl, rfl⟩
        case hS22p => assumption
        try simp only [Act.put, List.setIfInBounds_toArray, List.set_cons_zero, List.set_cons_succ]
        refine wpAnyH_take (i := 23) (oi := ?oi23p) (v := undef) ?hi23p ?hs23p ?hf23p ?hr23p ?hQ23p ?hy23p ?hS23p ?h23p
        case hi23p => exact (by simp only [List.getElem?_toArray, List.getElem?_cons_succ, List.getElem?_cons_zero]; rfl)
        case hs23p => kernel_rfl
        case hf23p => kernel_rfl
        case hr23p => kernel_rfl
        case hQ23p => exact fun _ _ _ h => h
        case hy23p =>
          exact Or.inr ⟨rfl, rfl⟩
        case hS23p => assumption
        try simp only [Act.put, List.setIfInBounds_toArray, List.set_cons_zero, List.set_cons_succ]
        refine wpAnyH_take (i := 24) (oi := ?oi24p) (v := undef) ?hi24p ?hs24p ?hf24p ?hr24p ?hQ24p ?hy24p ?hS24p ?h24p
        case hi24p => exact (by simp only [List.getElem?_toArray, List.getElem?_cons_succ, List.getElem?_cons_zero]; rfl)
        case hs24p => kernel_rfl
        case hf24p => kernel_rfl
        case hr24p => kernel_rfl
        case hQ24p => exact fun _ _ _ h => h
        case hy24p =>
          exact Or.inr ⟨rfl, rfl⟩
        case hS24p => assumption
        try simp only [Act.put, List.setIfInBounds_toArray, List.set_cons_zero, List.set_cons_succ]
        refine wpAnyH_take (i := 25) (oi := ?oi25p) (v := undef) ?hi25p ?hs25p ?hf25p ?hr25p ?hQ25p ?hy25p ?hS25p ?h25p
        case hi25p => exact (by simp only [List.getElem?_toArray, List.getElem?_cons_succ, List.getElem?_cons_zero]; rfl)
        case hs25p => kernel_rfl
        case hf25p => kernel_rfl
        case hr25p => kernel_rfl
        case hQ25p => exact fun _ _ _ h => h
        case hy25p =>
          exact Or.inr ⟨rfl, rfl⟩
        case hS25p => assumption
        try simp only [Act.put, List.setIfInBounds_toArray, List.set_cons_zero, List.set_cons_succ]
        refine wpAnyH_take (i := 26) (oi := ?oi26p) (v := undef) ?hi26p ?hs26p ?hf26p ?hr26p ?hQ26p ?hy26p ?hS26p ?h26p
        case hi26p => exact (by simp only [List.getElem?_toArray, List.getElem?_cons_succ, List.getElem?_cons_zero]; rfl)
        case hs26p => kernel_rfl
        case hf26p => kernel_rfl
        case hr26p => kernel_rfl
        case hQ26p => exact fun _ _ _ h => h
        case hy26p =>
          exact Or.inr ⟨rfl, rfl⟩
        case hS26p => assumption
        try simp only [Act.put, List.setIfInBounds_toArray, List.set_cons_zero, List.set_cons_succ]
        refine wpAnyH_take (i := 27) (oi := ?oi27p) (v := undef) ?hi27p ?hs27p ?hf27p ?hr27p ?hQ27p ?hy27p ?hS27p ?h27p
        case hi27p => exact (by simp only [List.getElem?_toArray, List.getElem?_cons_succ, List.getElem?_cons_zero]; rfl)
        case hs27p => kernel_rfl
        case hf27p => kernel_rfl
        case hr27p => kernel_rfl
        case hQ27p => exact fun _ _ _ h => h
        case hy27p =>
          exact Or.inr ⟨rfl, rfl⟩
        case hS27p => assumption
        try simp only [Act.put, List.setIfInBounds_toArray, List.set_cons_zero, List.set_cons_succ]
        refine wpAnyH_take (i := 28) (oi := ?oi28p) (v := (.bool false)) ?hi28p ?hs28p ?hf28p ?hr28p ?hQ28p ?hy28p ?hS28p ?h28p
        case hi28p => exact (by simp only [List.getElem?_toArray, List.getElem?_cons_succ, List.getElem?_cons_zero]; rfl)
        case hs28p => kernel_rfl
        case hf28p => kernel_rfl
        case hr28p => kernel_rfl
        case hQ28p => exact fun _ _ _ h => h
        case hy28p =>
          refine Or.inl ⟨rfl, ?_⟩
          intro W hSw
          have y0 := hSw
          have z1 := HKN.out
          have z2 := HX1.out
          have z3 := HX2.out
          go_simp
          try with_reducible rfl
        case hS28p => assumption
        try simp only [Act.put, List.setIfInBounds_toArray, List.set_cons_zero, List.set_cons_succ]
        refine wpAnyH_take (i := 29) (oi := ?oi29p) (v := (.bool false)) ?hi29p ?hs29p ?hf29p ?hr29p ?hQ29p ?hy29p ?hS29p ?h29p
        case hi29p => exact (by simp only [List.getElem?_toArray, List.getElem?_cons_succ, List.getElem?_cons_zero]; rfl)
        case hs29p => kernel_rfl
        case hf29p => kernel_rfl
        case hr29p => kernel_rfl
        case hQ29p => exact fun _ _ _ h => h
        case hy29p =>
          refine Or.inl ⟨rfl, ?_⟩
          intro W hSw
          have y0 := hSw
          have z1 := HKN.out
          have z2 := HX1.out
          have z3 := HX2.out
          go_simp
          try with_reducible rfl
        case hS29p => assumption
        try simp only [Act.put, List.setIfInBounds_toArray, List.set_cons_zero, List.set_cons_succ]
        refine wpAnyH_done (by kernel_rfl) ?_ _
        obtain ⟨e2'⟩ : Nonempty (Wp0.cell? ⟨b1, o1 + ix * 5 + 2, none⟩ = some (.slice P t.n cp)) := ⟨HE2.out Wp0 HDp.out⟩
        have e0' := HCF.out Wp0 HDp.out
        go_wp2
        go_roundw
        case rel => exact ⟨1, by omega, by go_num, by rw [HSN.out], HV.out.trans (HDp.out.mono HV.out.size)⟩
        case measure => simp [intOf] <;> omega
      · obtain ⟨e', hy'⟩ : ∃ e', es[j]? = some e' := ⟨es[j]'(by rw [← HNP.out]; omega), List.getElem?_eq_getElem _⟩
        have d1 := hcell j e'.p (by rw [List.getElem?_map, hy']; rfl)
        have q3 : ¬ (ix : Int) ≤ e'.p := by
          have h1 := (List.pairwise_iff_getElem.1 HUP.out) j (j + 1) (by rw [← HNP.out]; omega) (by rw [← HNP.out]; exact hlt) (by omega)
          have h2 := Option.some.inj ((List.getElem?_eq_getElem (by rw [← HNP.out]; omega)).symm.trans hy')
          have h3 := Option.some.inj ((List.getElem?_eq_getElem (by rw [← HNP.out]; exact hlt)).symm.trans hy)
          rw [h2, h3, hep] at h1
          omega
        have HJJ : Hid (IntKind.i64.wrap ((j : Int) + 1 - 1) = (j : Int) ∧ IntKind.i64.wrap (j : Int) = (j : Int)) := by simp only [Hid]; rw [show (j : Int) + 1 - 1 = (j : Int) by omega]; exact ⟨IntWalk.i64_in _ (by omega), IntWalk.i64_in _ (by omega)⟩
        have HQ3 : Hid (e'.p < (ix : Int)) := by simp only [Hid]; omega
        have HKN : Hid (j + 1 < np) := hlt
        have HX1 : Hid (¬ (ix : Int) < 0) := q1
        have HX2 : Hid ((ix : Int) < (n : Int)) := by simp only [Hid]; omega
        have HBS : Hid (Below wr.heap.size wr wr) := Below.refl _ _
        have HCF : Hid (∀ W, Below wr.heap.size wr W → W.cell? ⟨b, o + (j + 1), none⟩ = some (.int .i64 (ix : Int)) ∧ W.cell? ⟨b, o + j, none⟩ = some (.int .i64 e'.p)) := fun W hW => ⟨(hW.cell (p := ⟨b, o + (j + 1), none⟩) (World.block_lt_of_cell? wr _ d0)).trans d0, (hW.cell (p := ⟨b, o + j, none⟩) (World.block_lt_of_cell? wr _ d1)).trans d1⟩
        clear hy hy' hcell ha1 hit hep hen hbb hb1
        go_upto_region 5 with (fail)
        have HDq : Hid (Below wr.heap.size wr wr.drew) := HBS.out.drew
        refine wp_region_held_drew (S := fun W : World => W.cell? ⟨b, o + (j + 1), none⟩ = some (.int .i64 (ix : Int)) ∧ W.cell? ⟨b, o + j, none⟩ = some (.int .i64 e'.p)) (by kernel_rfl) (HCF.out _ HDq.out) (fun hHeld => ?_)
        obtain ⟨Wq0, hW0⟩ : ∃ W0, W0 = wr.drew := ⟨_, rfl⟩
        rw [← hW0] at hHeld HDq ⊢
        clear hW0
        refine wpAnyH_take (i := 0) (oi := ?oi0q) (v := ?v0q) ?hi0q ?hs0q ?hf0q ?hr0q ?hQ0q ?hy0q ?hS0q ?h0q
        case hi0q => exact (by simp only [List.getElem?_toArray, List.getElem?_cons_zero]; rfl)
        case hs0q => kernel_rfl
        case hf0q => kernel_rfl
        case hr0q => kernel_rfl
        case hQ0q => exact fun _ _ _ h => h
        case hy0q =>
          refine Or.inl ⟨rfl, ?_⟩
          intro W hSw
          obtain ⟨y0, y1⟩ := hSw
          have z6 : (0 : Int) ≤ (j : Int) + 1 := by omega
          have z7 : j < np := by have := HKN.out; omega
          have z8 : IntKind.i64.wrap (j : Int) = (j : Int) := HJJ.out.2
          have z1 := HKN.out
          have z2 := HX1.out
          have z3 := HX2.out
          go_simp
          try with_reducible rfl
        case hS0q => assumption
        try simp only [Act.put, List.setIfInBounds_toArray, List.set_cons_zero, List.set_cons_succ]
        refine wpAnyH_take (i := 1) (oi := ?oi1q) (v := ?v1q) ?hi1q ?hs1q ?hf1q ?hr1q ?hQ1q ?hy1q ?hS1q ?h1q
        case hi1q => exact (by simp only [List.getElem?_toArray, List.getElem?_cons_succ, List.getElem?_cons_zero]; rfl)
        case hs1q => kernel_rfl
        case hf1q => kernel_rfl
        case hr1q => kernel_rfl
        case hQ1q => exact fun _ _ _ h => h
        case hy1q =>
          refine Or.inl ⟨rfl, ?_⟩
          intro W hSw
          obtain ⟨y0, y1⟩ := hSw
          have z6 : (0 : Int) ≤ (j : Int) + 1 := by omega
          have z7 : j < np := by have := HKN.out; omega
          have z8 : IntKind.i64.wrap (j : Int) = (j : Int) := HJJ.out.2
          have z1 := HKN.out
          have z2 := HX1.out
          have z3 := HX2.out
          go_simp
          try with_reducible rfl
        case hS1q => assumption
        try simp only [Act.put, List.setIfInBounds_toArray, List.set_cons_zero, List.set_cons_succ]
        refine wpAnyH_take (i := 2) (oi := ?oi2q) (v := ?v2q) ?hi2q ?hs2q ?hf2q ?hr2q ?hQ2q ?hy2q ?hS2q ?h2q
        case hi2q => exact (by simp only [List.getElem?_toArray, List.getElem?_cons_succ, List.getElem?_cons_zero]; rfl)
        case hs2q => kernel_rfl
        case hf2q => kernel_rfl
        case hr2q => kernel_rfl
        case hQ2q => exact fun _ _ _ h => h
        case hy2q =>
          refine Or.inl ⟨rfl, ?_⟩
          intro W hSw
          obtain ⟨y0, y1⟩ := hSw
          have z6 : (0 : Int) ≤ (j : Int) + 1 := by omega
          have z7 : j < np := by have := HKN.out; omega
          have z8 : IntKind.i64.wrap (j : Int) = (j : Int) := HJJ.out.2
          have z1 := HKN.out
          have z2 := HX1.out
          have z3 := HX2.out
          go_simp
          try with_reducible rfl
        case hS2q => assumption
        try simp only [Act.put, List.setIfInBounds_toArray, List.set_cons_zero, List.set_cons_succ]
        refine wpAnyH_take (i := 3) (oi := ?oi3q) (v := ?v3q) ?hi3q ?hs3q ?hf3q ?hr3q ?hQ3q ?hy3q ?hS3q ?h3q
        case hi3q => exact (by simp only [List.getElem?_toArray, List.getElem?_cons_succ, List.getElem?_cons_zero]; rfl)
        case hs3q => kernel_rfl
        case hf3q => kernel_rfl
        case hr3q => kernel_rfl
        case hQ3q => exact fun _ _ _ h => h
        case hy3q =>
          refine Or.inl ⟨rfl, ?_⟩
          intro W hSw
          obtain ⟨y0, y1⟩ := hSw
          have z6 : (0 : Int) ≤ (j : Int) + 1 := by omega
          have z7 : j < np := by have := HKN.out; omega
          have z8 : IntKind.i64.wrap (j : Int) = (j : Int) := HJJ.out.2
          have z1 := HKN.out
          have z2 := HX1.out
          have z3 := HX2.out
          go_simp
          try with_reducible rfl
        case hS3q => assumption
        try simp only [Act.put, List.setIfInBounds_toArray, List.set_cons_zero, List.set_cons_succ]
        refine wpAnyH_take (i := 4) (oi := ?oi4q) (v := (.bool false)) ?hi4q ?hs4q ?hf4q ?hr4q ?hQ4q ?hy4q ?hS4q ?h4q
        case hi4q => exact (by simp only [List.getElem?_toArray, List.getElem?_cons_succ, List.getElem?_cons_zero]; rfl)
        case hs4q => kernel_rfl
        case hf4q => kernel_rfl
        case hr4q => kernel_rfl
        case hQ4q => exact fun _ _ _ h => h
        case hy4q =>
          refine Or.inl ⟨rfl, ?_⟩
          intro W hSw
          obtain ⟨y0, y1⟩ := hSw
          have z6 : (0 : Int) ≤ (j : Int) + 1 := by omega
          have z7 : j < np := by have := HKN.out; omega
          have z8 : IntKind.i64.wrap (j : Int) = (j : Int) := HJJ.out.2
          have z1 := HKN.out
          have z2 := HX1.out
          have z3 := HX2.out
          go_simp
          all_goals first | with_reducible rfl | (simp; done) | (simp; omega) | omega
        case hS4q => assumption
        try simp only [Act.put, List.setIfInBounds_toArray, List.set_cons_zero, List.set_cons_succ]
        refine wpAnyH_take (i := 5) (oi := ?oi5q) (v := ?v5q) ?hi5q ?hs5q ?hf5q ?hr5q ?hQ5q ?hy5q ?hS5q ?h5q
        case hi5q => exact (by simp only [List.getElem?_toArray, List.getElem?_cons_succ, List.getElem?_cons_zero]; rfl)
        case hs5q => kernel_rfl
        case hf5q => kernel_rfl
        case hr5q => kernel_rfl
        case hQ5q => exact fun _ _ _ h => h
        case hy5q =>
          refine Or.inl ⟨rfl, ?_⟩
          intro W hSw
          obtain ⟨y0, y1⟩ := hSw
          have z6 : (0 : Int) ≤ (j : Int) + 1 := by omega
          have z7 : j < np := by have := HKN.out; omega
          have z8 : IntKind.i64.wrap (j : Int) = (j : Int) := HJJ.out.2
          have z1 := HKN.out
          have z2 := HX1.out
          have z3 := HX2.out
          go_simp
          try with_reducible rfl
        case hS5q => assumption
        try simp only [Act.put, List.setIfInBounds_toArray, List.set_cons_zero, List.set_cons_succ]
        refine wpAnyH_take (i := 6) (oi := ?oi6q) (v := ?v6q) ?hi6q ?hs6q ?hf6q ?hr6q ?hQ6q ?hy6q ?hS6q ?h6q
        case hi6q => exact (by simp only [List.getElem?_toArray, List.getElem?_cons_succ, List.getElem?_cons_zero]; rfl)
        case hs6q => kernel_rfl
        case hf6q => kernel_rfl
        case hr6q => kernel_rfl
        case hQ6q => exact fun _ _ _ h => h
        case hy6q =>
          refine Or.inl ⟨rfl, ?_⟩
          intro W hSw
          obtain ⟨y0, y1⟩ := hSw
          have z6 : (0 : Int) ≤ (j : Int) + 1 := by omega
          have z7 : j < np := by have := HKN.out; omega
          have z8 : IntKind.i64.wrap (j : Int) = (j : Int) := HJJ.out.2
          have z1 := HKN.out
          have z2 := HX1.out
          have z3 := HX2.out
          go_simp
          try with_reducible rfl
        case hS6q => assumption
        try simp only [Act.put, List.setIfInBounds_toArray, List.set_cons_zero, List.set_cons_succ]
        refine wpAnyH_take (i := 7) (oi := ?oi7q) (v := ?v7q) ?hi7q ?hs7q ?hf7q ?hr7q ?hQ7q ?hy7q ?hS7q ?h7q
        case hi7q => exact (by simp only [List.getElem?_toArray, List.getElem?_cons_succ, List.getElem?_cons_zero]; rfl)
        case hs7q => kernel_rfl
        case hf7q => kernel_rfl
        case hr7q => kernel_rfl
        case hQ7q => exact fun _ _ _ h => h
        case hy7q =>
          refine Or.inl ⟨rfl, ?_⟩
          intro W hSw
          obtain ⟨y0, y1⟩ := hSw
          have z6 : (0 : Int) ≤ (j : Int) + 1 := by omega
          have z7 : j < np := by have := HKN.out; omega
          have z8 : IntKind.i64.wrap (j : Int) = (j : Int) := HJJ.out.2
          have z1 := HKN.out
          have z2 := HX1.out
          have z3 := HX2.out
          go_simp
          try with_reducible rfl
        case hS7q => assumption
        try simp only [Act.put, List.setIfInBounds_toArray, List.set_cons_zero, List.set_cons_succ]
        refine wpAnyH_take (i := 8) (oi := ?oi8q) (v := ?v8q) ?hi8q ?hs8q ?hf8q ?hr8q ?hQ8q ?hy8q ?hS8q ?h8q
        case hi8q => exact (by simp only [List.getElem?_toArray, List.getElem?_cons_succ, List.getElem?_cons_zero]; rfl)
        case hs8q => kernel_rfl
        case hf8q => kernel_rfl
        case hr8q => kernel_rfl
        case hQ8q => exact fun _ _ _ h => h
        case hy8q =>
          refine Or.inl ⟨rfl, ?_⟩
          intro W hSw
          obtain ⟨y0, y1⟩ := hSw
          have z6 : (0 : Int) ≤ (j : Int) + 1 := by omega
          have z7 : j < np := by have := HKN.out; omega
          have z8 : IntKind.i64.wrap (j : Int) = (j : Int) := HJJ.out.2
          have z1 := HKN.out
          have z2 := HX1.out
          have z3 := HX2.out
          go_simp
          try with_reducible rfl
        case hS8q => assumption
        try simp only [Act.put, List.setIfInBounds_toArray, List.set_cons_zero, List.set_cons_succ]
        refine wpAnyH_take (i := 9) (oi := ?oi9q) (v := ?v9q) ?hi9q ?hs9q ?hf9q ?hr9q ?hQ9q ?hy9q ?hS9q ?h9q
        case hi9q => exact (by simp only [List.getElem?_toArray, List.getElem?_cons_succ, List.getElem?_cons_zero]; rfl)
        case hs9q => kernel_rfl
        case hf9q => kernel_rfl
        case hr9q => kernel_rfl
        case hQ9q => exact fun _ _ _ h => h
        case hy9q =>
          refine Or.inl ⟨rfl, ?_⟩
          intro W hSw
          obtain ⟨y0, y1⟩ := hSw
          have z6 : (0 : Int) ≤ (j : Int) + 1 := by omega
          have z7 : j < np := by have := HKN.out; omega
          have z8 : IntKind.i64.wrap (j : Int) = (j : Int) := HJJ.out.2
          have z1 := HKN.out
          have z2 := HX1.out
          have z3 := HX2.out
          go_simp
          try with_reducible rfl
        case hS9q => assumption
        try simp only [Act.put, List.setIfInBounds_toArray, List.set_cons_zero, List.set_cons_succ]
        refine wpAnyH_take (i := 10) (oi := ?oi10q) (v := ?v10q) ?hi10q ?hs10q ?hf10q ?hr10q ?hQ10q ?hy10q ?hS10q ?h10q
        case hi10q => exact (by simp only [List.getElem?_toArray, List.getElem?_cons_succ, List.getElem?_cons_zero]; rfl)
        case hs10q => kernel_rfl
        case hf10q => kernel_rfl
        case hr10q => kernel_rfl
        case hQ10q => exact fun _ _ _ h => h
        case hy10q =>
          refine Or.inl ⟨rfl, ?_⟩
          intro W hSw
          obtain ⟨y0, y1⟩ := hSw
          have z6 : (0 : Int) ≤ (j : Int) + 1 := by omega
          have z7 : j < np := by have := HKN.out; omega
          have z8 : IntKind.i64.wrap (j : Int) = (j : Int) := HJJ.out.2
          have z1 := HKN.out
          have z2 := HX1.out
          have z3 := HX2.out
          go_simp
          try with_reducible rfl
        case hS10q => assumption
        try simp only [Act.put, List.setIfInBounds_toArray, List.set_cons_zero, List.set_cons_succ]
        refine wpAnyH_take (i := 11) (oi := ?oi11q) (v := ?v11q) ?hi11q ?hs11q ?hf11q ?hr11q ?hQ11q ?hy11q ?hS11q ?h11q
        case hi11q => exact (by simp only [List.getElem?_toArray, List.getElem?_cons_succ, List.getElem?_cons_zero]; rfl)
        case hs11q => kernel_rfl
        case hf11q => kernel_rfl
        case hr11q => kernel_rfl
        case hQ11q => exact fun _ _ _ h => h
        case hy11q =>
          refine Or.inl ⟨rfl, ?_⟩
          intro W hSw
          obtain ⟨y0, y1⟩ := hSw
          have z6 : (0 : Int) ≤ (j : Int) + 1 := by omega
          have z7 : j < np := by have := HKN.out; omega
          have z8 : IntKind.i64.wrap (j : Int) = (j : Int) := HJJ.out.2
          have z1 := HKN.out
          have z2 := HX1.out
          have z3 := HX2.out
          go_simp
          try with_reducible rfl
        case hS11q => assumption
        try simp only [Act.put, List.setIfInBounds_toArray, List.set_cons_zero, List.set_cons_succ]
        refine wpAnyH_take (i := 12) (oi := ?oi12q) (v := (.bool false)) ?hi12q ?hs12q ?hf12q ?hr12q ?hQ12q ?hy12q ?hS12q ?h12q
        case hi12q => exact (by simp only [List.getElem?_toArray, List.getElem?_cons_succ, List.getElem?_cons_zero]; rfl)
        case hs12q => kernel_rfl
        case hf12q => kernel_rfl
        case hr12q => kernel_rfl
        case hQ12q => exact fun _ _ _ h => h
        case hy12q =>
          refine Or.inl ⟨rfl, ?_⟩
          intro W hSw
          obtain ⟨y0, y1⟩ := hSw
          have z6 : (0 : Int) ≤ (j : Int) + 1 := by omega
          have z7 : j < np := by have := HKN.out; omega
          have z8 : IntKind.i64.wrap (j : Int) = (j : Int) := HJJ.out.2
          have z1 := HKN.out
          have z2 := HX1.out
          have z3 := HX2.out
          go_simp
          all_goals first | with_reducible rfl | (simp; done) | (simp; omega) | omega
        case hS12q => assumption
        try simp only [Act.put, List.setIfInBounds_toArray, List.set_cons_zero, List.set_cons_succ]
        refine wpAnyH_take (i := 13) (oi := ?oi13q) (v := ?v13q) ?hi13q ?hs13q ?hf13q ?hr13q ?hQ13q ?hy13q ?hS13q ?h13q
        case hi13q => exact (by simp only [List.getElem?_toArray, List.getElem?_cons_succ, List.getElem?_cons_zero]; rfl)
        case hs13q => kernel_rfl
        case hf13q => kernel_rfl
        case hr13q => kernel_rfl
        case hQ13q => exact fun _ _ _ h => h
        case hy13q =>
          refine Or.inl ⟨rfl, ?_⟩
          intro W hSw
          obtain ⟨y0, y1⟩ := hSw
          have z6 : (0 : Int) ≤ (j : Int) + 1 := by omega
          have z7 : j < np := by have := HKN.out; omega
          have z8 : IntKind.i64.wrap (j : Int) = (j : Int) := HJJ.out.2
          have z1 := HKN.out
          have z2 := HX1.out
          have z3 := HX2.out
          go_simp
          try with_reducible rfl
        case hS13q => assumption
        try simp only [Act.put, List.setIfInBounds_toArray, List.set_cons_zero, List.set_cons_succ]
        refine wpAnyH_take (i := 14) (oi := ?oi14q) (v := ?v14q) ?hi14q ?hs14q ?hf14q ?hr14q ?hQ14q ?hy14q ?hS14q ?h14q
        case hi14q => exact (by simp only [List.getElem?_toArray, List.getElem?_cons_succ, List.getElem?_cons_zero]; rfl)
        case hs14q => kernel_rfl
        case hf14q => kernel_rfl
        case hr14q => kernel_rfl
        case hQ14q => exact fun _ _ _ h => h
        case hy14q =>
          refine Or.inl ⟨rfl, ?_⟩
          intro W hSw
          obtain ⟨y0, y1⟩ := hSw
          have z6 : (0 : Int) ≤ (j : Int) + 1 := by omega
          have z7 : j < np := by have := HKN.out; omega
          have z8 : IntKind.i64.wrap (j : Int) = (j : Int) := HJJ.out.2
          have z1 := HKN.out
          have z2 := HX1.out
          have z3 := HX2.out
          go_simp
          try with_reducible rfl
        case hS14q => assumption
        try simp only [Act.put, List.setIfInBounds_toArray, List.set_cons_zero, List.set_cons_succ]
        refine wpAnyH_take (i := 15) (oi := ?oi15q) (v := ?v15q) ?hi15q ?hs15q ?hf15q ?hr15q ?hQ15q ?hy15q ?hS15q ?h15q
        case hi15q => exact (by simp only [List.getElem?_toArray, List.getElem?_cons_succ, List.getElem?_cons_zero]; rfl)
        case hs15q => kernel_rfl
        case hf15q => kernel_rfl
        case hr15q => kernel_rfl
        case hQ15q => exact fun _ _ _ h => h
        case hy15q =>
          refine Or.inl ⟨rfl, ?_⟩
          intro W hSw
          obtain ⟨y0, y1⟩ := hSw
          have z6 : (0 : Int) ≤ (j : Int) + 1 := by omega
          have z7 : j < np := by have := HKN.out; omega
          have z8 : IntKind.i64.wrap (j : Int) = (j : Int) := HJJ.out.2
          have z1 := HKN.out
          have z2 := HX1.out
          have z3 := HX2.out
          go_simp
          try with_reducible rfl
        case hS15q => assumption
        try simp only [Act.put, List.setIfInBounds_toArray, List.set_cons_zero, List.set_cons_succ]
        refine wpAnyH_take (i := 16) (oi := ?oi16q) (v := (.bool true)) ?hi16q ?hs16q ?hf16q ?hr16q ?hQ16q ?hy16q ?hS16q ?h16q
        case hi16q => exact (by simp only [List.getElem?_toArray, List.getElem?_cons_succ, List.getElem?_cons_zero]; rfl)
        case hs16q => kernel_rfl
        case hf16q => kernel_rfl
        case hr16q => kernel_rfl
        case hQ16q => exact fun _ _ _ h => h
        case hy16q =>
          refine Or.inl ⟨rfl, ?_⟩
          intro W hSw
          obtain ⟨y0, y1⟩ := hSw
          have z6 : (0 : Int) ≤ (j : Int) + 1 := by omega
          have z7 : j < np := by have := HKN.out; omega
          have z8 : IntKind.i64.wrap (j : Int) = (j : Int) := HJJ.out.2
          have z1 := HKN.out
          have z2 := HX1.out
          have z3 := HX2.out
          go_simp
          all_goals first | with_reducible rfl | (simp; done) | (simp; omega) | omega
        case hS16q => assumption
        try simp only [Act.put, List.setIfInBounds_toArray, List.set_cons_zero, List.set_cons_succ]
        refine wpAnyH_take (i := 17) (oi := ?oi17q) (v := ?v17q) ?hi17q ?hs17q ?hf17q ?hr17q ?hQ17q ?hy17q ?hS17q ?h17q
        case hi17q => exact (by simp only [List.getElem?_toArray, List.getElem?_cons_succ, List.getElem?_cons_zero]; rfl)
        case hs17q => kernel_rfl
        case hf17q => kernel_rfl
        case hr17q => kernel_rfl
        case hQ17q => exact fun _ _ _ h => h
        case hy17q =>
          refine Or.inl ⟨rfl, ?_⟩
          intro W hSw
          obtain ⟨y0, y1⟩ := hSw
          have z6 : (0 : Int) ≤ (j : Int) + 1 := by omega
          have z7 : j < np := by have := HKN.out; omega
          have z8 : IntKind.i64.wrap (j : Int) = (j : Int) := HJJ.out.2
          have z1 := HKN.out
          have z2 := HX1.out
          have z3 := HX2.out
          go_simp
          try with_reducible rfl
        case hS17q => assumption
        try simp only [Act.put, List.setIfInBounds_toArray, List.set_cons_zero, List.set_cons_succ]
        refine wpAnyH_take (i := 18) (oi := ?oi18q) (v := ?v18q) ?hi18q ?hs18q ?hf18q ?hr18q ?hQ18q ?hy18q ?hS18q ?h18q
        case hi18q => exact (by simp only [List.getElem?_toArray, List.getElem?_cons_succ, List.getElem?_cons_zero]; rfl)
        case hs18q => kernel_rfl
        case hf18q => kernel_rfl
        case hr18q => kernel_rfl
        case hQ18q => exact fun _ _ _ h => h
        case hy18q =>
          refine Or.inl ⟨rfl, ?_⟩
          intro W hSw
          obtain ⟨y0, y1⟩ := hSw
          have z6 : (0 : Int) ≤ (j : Int) + 1 := by omega
          have z7 : j < np := by have := HKN.out; omega
          have z8 : IntKind.i64.wrap (j : Int) = (j : Int) := HJJ.out.2
          have z1 := HKN.out
          have z2 := HX1.out
          have z3 := HX2.out
          go_simp
          try with_reducible rfl
        case hS18q => assumption
        try simp only [Act.put, List.setIfInBounds_toArray, List.set_cons_zero, List.set_cons_succ]
        refine wpAnyH_take (i := 19) (oi := ?oi19q) (v := ?v19q) ?hi19q ?hs19q ?hf19q ?hr19q ?hQ19q ?hy19q ?hS19q ?h19q
        case hi19q => exact (by simp only [List.getElem?_toArray, List.getElem?_cons_succ, List.getElem?_cons_zero]; rfl)
        case hs19q => kernel_rfl
        case hf19q => kernel_rfl
        case hr19q => kernel_rfl
        case hQ19q => exact fun _ _ _ h => h
        case hy19q =>
          refine Or.inl ⟨rfl, ?_⟩
          intro W hSw
          obtain ⟨y0, y1⟩ := hSw
          have z6 : (0 : Int) ≤ (j : Int) + 1 := by omega
          have z7 : j < np := by have := HKN.out; omega
          have z8 : IntKind.i64.wrap (j : Int) = (j : Int) := HJJ.out.2
          have z1 := HKN.out
          have z2 := HX1.out
          have z3 := HX2.out
          go_simp
          try with_reducible rfl
        case hS19q => assumption
        try simp only [Act.put, List.setIfInBounds_toArray, List.set_cons_zero, List.set_cons_succ]
        refine wpAnyH_take (i := 20) (oi := ?oi20q) (v := (.int .i64 (j : Int))) ?hi20q ?hs20q ?hf20q ?hr20q ?hQ20q ?hy20q ?hS20q ?h20q
        case hi20q => exact (by simp only [List.getElem?_toArray, List.getElem?_cons_succ, List.getElem?_cons_zero]; rfl)
        case hs20q => kernel_rfl
        case hf20q => kernel_rfl
        case hr20q => kernel_rfl
        case hQ20q => exact fun _ _ _ h => h
        case hy20q =>
          refine Or.inl ⟨rfl, ?_⟩
          intro W hSw
          obtain ⟨y0, y1⟩ := hSw
          have z6 : (0 : Int) ≤ (j : Int) + 1 := by omega
          have z7 : j < np := by have := HKN.out; omega
          have z8 : IntKind.i64.wrap (j : Int) = (j : Int) := HJJ.out.2
          have z1 := HKN.out
          have z2 := HX1.out
          have z3 := HX2.out
          have z4 := HJJ.out.1
          go_simp
          all_goals first | with_reducible rfl | (simp; done) | (simp; omega) | omega
        case hS20q => assumption
        try simp only [Act.put, List.setIfInBounds_toArray, List.set_cons_zero, List.set_cons_succ]
        refine wpAnyH_take (i := 21) (oi := ?oi21q) (v := ?v21q) ?hi21q ?hs21q ?hf21q ?hr21q ?hQ21q ?hy21q ?hS21q ?h21q
        case hi21q => exact (by simp only [List.getElem?_toArray, List.getElem?_cons_succ, List.getElem?_cons_zero]; rfl)
        case hs21q => kernel_rfl
        case hf21q => kernel_rfl
        case hr21q => kernel_rfl
        case hQ21q => exact fun _ _ _ h => h
        case hy21q =>
          refine Or.inl ⟨rfl, ?_⟩
          intro W hSw
          obtain ⟨y0, y1⟩ := hSw
          have z6 : (0 : Int) ≤ (j : Int) + 1 := by omega
          have z7 : j < np := by have := HKN.out; omega
          have z8 : IntKind.i64.wrap (j : Int) = (j : Int) := HJJ.out.2
          have z1 := HKN.out
          have z2 := HX1.out
          have z3 := HX2.out
          go_simp
          try with_reducible rfl
        case hS21q => assumption
        try simp only [Act.put, List.setIfInBounds_toArray, List.set_cons_zero, List.set_cons_succ]
        refine wpAnyH_take (i := 22) (oi := ?oi22q) (v := ?v22q) ?hi22q ?hs22q ?hf22q ?hr22q ?hQ22q ?hy22q ?hS22q ?h22q
        case hi22q => exact (by simp only [List.getElem?_toArray, List.getElem?_cons_succ, List.getElem?_cons_zero]; rfl)
        case hs22q => kernel_rfl
        case hf22q => kernel_rfl
        case hr22q => kernel_rfl
        case hQ22q => exact fun _ _ _ h => h
        case hy22q =>
          refine Or.inl ⟨rfl, ?_⟩
          intro W hSw
          obtain ⟨y0, y1⟩ := hSw
          have z6 : (0 : Int) ≤ (j : Int) + 1 := by omega
          have z7 : j < np := by have := HKN.out; omega
          have z8 : IntKind.i64.wrap (j : Int) = (j : Int) := HJJ.out.2
          have z1 := HKN.out
          have z2 := HX1.out
          have z3 := HX2.out
          go_simp
          try with_reducible rfl
        case hS22q => assumption
        try simp only [Act.put, List.setIfInBounds_toArray, List.set_cons_zero, List.set_cons_succ]
        refine wpAnyH_take (i := 23) (oi := ?oi23q) (v := ?v23q) ?hi23q ?hs23q ?hf23q ?hr23q ?hQ23q ?hy23q ?hS23q ?h23q
        case hi23q => exact (by simp only [List.getElem?_toArray, List.getElem?_cons_succ, List.getElem?_cons_zero]; rfl)
        case hs23q => kernel_rfl
        case hf23q => kernel_rfl
        case hr23q => kernel_rfl
        case hQ23q => exact fun _ _ _ h => h
        case hy23q =>
          refine Or.inl ⟨rfl, ?_⟩
          intro W hSw
          obtain ⟨y0, y1⟩ := hSw
          have z6 : (0 : Int) ≤ (j : Int) + 1 := by omega
          have z7 : j < np := by have := HKN.out; omega
          have z8 : IntKind.i64.wrap (j : Int) = (j : Int) := HJJ.out.2
          have z1 := HKN.out
          have z2 := HX1.out
          have z3 := HX2.out
          go_simp
          try with_reducible rfl
        case hS23q => assumption
        try simp only [Act.put, List.setIfInBounds_toArray, List.set_cons_zero, List.set_cons_succ]
        refine wpAnyH_take (i := 24) (oi := ?oi24q) (v := ?v24q) ?hi24q ?hs24q ?hf24q ?hr24q ?hQ24q ?hy24q ?hS24q ?h24q
        case hi24q => exact (by simp only [List.getElem?_toArray, List.getElem?_cons_succ, List.getElem?_cons_zero]; rfl)
        case hs24q => kernel_rfl
        case hf24q => kernel_rfl
        case hr24q => kernel_rfl
        case hQ24q => exact fun _ _ _ h => h
        case hy24q =>
          refine Or.inl ⟨rfl, ?_⟩
          intro W hSw
          obtain ⟨y0, y1⟩ := hSw
          have z6 : (0 : Int) ≤ (j : Int) + 1 := by omega
          have z7 : j < np := by have := HKN.out; omega
          have z8 : IntKind.i64.wrap (j : Int) = (j : Int) := HJJ.out.2
          have z1 := HKN.out
          have z2 := HX1.out
          have z3 := HX2.out
          go_simp
          try with_reducible rfl
        case hS24q => assumption
        try simp only [Act.put, List.setIfInBounds_toArray, List.set_cons_zero, List.set_cons_succ]
        refine wpAnyH_take (i := 25) (oi := ?oi25q) (v := ?v25q) ?hi25q ?hs25q ?hf25q ?hr25q ?hQ25q ?hy25q ?hS25q ?h25q
        case hi25q => exact (by simp only [List.getElem?_toArray, List.getElem?_cons_succ, List.getElem?_cons_zero]; rfl)
        case hs25q => kernel_rfl
        case hf25q => kernel_rfl
        case hr25q => kernel_rfl
        case hQ25q => exact fun _ _ _ h => h
        case hy25q =>
          refine Or.inl ⟨rfl, ?_⟩
          intro W hSw
          obtain ⟨y0, y1⟩ := hSw
          have z6 : (0 : Int) ≤ (j : Int) + 1 := by omega
          have z7 : j < np := by have := HKN.out; omega
          have z8 : IntKind.i64.wrap (j : Int) = (j : Int) := HJJ.out.2
          have z1 := HKN.out
          have z2 := HX1.out
          have z3 := HX2.out
          go_simp
          try with_reducible rfl
        case hS25q => assumption
        try simp only [Act.put, List.setIfInBounds_toArray, List.set_cons_zero, List.set_cons_succ]
        refine wpAnyH_take (i := 26) (oi := ?oi26q) (v := ?v26q) ?hi26q ?hs26q ?hf26q ?hr26q ?hQ26q ?hy26q ?hS26q ?h26q
        case hi26q => exact (by simp only [List.getElem?_toArray, List.getElem?_cons_succ, List.getElem?_cons_zero]; rfl)
        case hs26q => kernel_rfl
        case hf26q => kernel_rfl
        case hr26q => kernel_rfl
        case hQ26q => exact fun _ _ _ h => h
        case hy26q =>
          refine Or.inl ⟨rfl, ?_⟩
          intro W hSw
          obtain ⟨y0, y1⟩ := hSw
          have z6 : (0 : Int) ≤ (j : Int) + 1 := by omega
          have z7 : j < np := by have := HKN.out; omega
          have z8 : IntKind.i64.wrap (j : Int) = (j : Int) := HJJ.out.2
          have z1 := HKN.out
          have z2 := HX1.out
          have z3 := HX2.out
          go_simp
          try with_reducible rfl
        case hS26q => assumption
        try simp only [Act.put, List.setIfInBounds_toArray, List.set_cons_zero, List.set_cons_succ]
        refine wpAnyH_take (i := 27) (oi := ?oi27q) (v := (.bool false)) ?hi27q ?hs27q ?hf27q ?hr27q ?hQ27q ?hy27q ?hS27q ?h27q
        case hi27q => exact (by simp only [List.getElem?_toArray, List.getElem?_cons_succ, List.getElem?_cons_zero]; rfl)
        case hs27q => kernel_rfl
        case hf27q => kernel_rfl
        case hr27q => kernel_rfl
        case hQ27q => exact fun _ _ _ h => h
        case hy27q =>
          refine Or.inl ⟨rfl, ?_⟩
          intro W hSw
          obtain ⟨y0, y1⟩ := hSw
          have z6 : (0 : Int) ≤ (j : Int) + 1 := by omega
          have z7 : j < np := by have := HKN.out; omega
          have z8 : IntKind.i64.wrap (j : Int) = (j : Int) := HJJ.out.2
          have z1 := HKN.out
          have z2 := HX1.out
          have z3 := HX2.out
          have z5 := HQ3.out
          go_simp
          all_goals first | with_reducible rfl | (simp; done) | (simp; omega) | omega
        case hS27q => assumption
        try simp only [Act.put, List.setIfInBounds_toArray, List.set_cons_zero, List.set_cons_succ]
        refine wpAnyH_take (i := 28) (oi := ?oi28q) (v := (.bool false)) ?hi28q ?hs28q ?hf28q ?hr28q ?hQ28q ?hy28q ?hS28q ?h28q
        case hi28q => exact (by simp only [List.getElem?_toArray, List.getElem?_cons_succ, List.getElem?_cons_zero]; rfl)
        case hs28q => kernel_rfl
        case hf28q => kernel_rfl
        case hr28q => kernel_rfl
        case hQ28q => exact fun _ _ _ h => h
        case hy28q =>
          refine Or.inl ⟨rfl, ?_⟩
          intro W hSw
          obtain ⟨y0, y1⟩ := hSw
          have z6 : (0 : Int) ≤ (j : Int) + 1 := by omega
          have z7 : j < np := by have := HKN.out; omega
          have z8 : IntKind.i64.wrap (j : Int) = (j : Int) := HJJ.out.2
          have z1 := HKN.out
          have z2 := HX1.out
          have z3 := HX2.out
          go_simp
          try with_reducible rfl
        case hS28q => assumption
        try simp only [Act.put, List.setIfInBounds_toArray, List.set_cons_zero, List.set_cons_succ]
        refine wpAnyH_take (i := 29) (oi := ?oi29q) (v := (.bool false)) ?hi29q ?hs29q ?hf29q ?hr29q ?hQ29q ?hy29q ?hS29q ?h29q
        case hi29q => exact (by simp only [List.getElem?_toArray, List.getElem?_cons_succ, List.getElem?_cons_zero]; rfl)
        case hs29q => kernel_rfl
        case hf29q => kernel_rfl
        case hr29q => kernel_rfl
        case hQ29q => exact fun _ _ _ h => h
        case hy29q =>
          refine Or.inl ⟨rfl, ?_⟩
          intro W hSw
          obtain ⟨y0, y1⟩ := hSw
          have z6 : (0 : Int) ≤ (j : Int) + 1 := by omega
          have z7 : j < np := by have := HKN.out; omega
          have z8 : IntKind.i64.wrap (j : Int) = (j : Int) := HJJ.out.2
          have z1 := HKN.out
          have z2 := HX1.out
          have z3 := HX2.out
          go_simp
          try with_reducible rfl
        case hS29q => assumption
        try simp only [Act.put, List.setIfInBounds_toArray, List.set_cons_zero, List.set_cons_succ]
        refine wpAnyH_done (by kernel_rfl) ?_ _
        obtain ⟨e2'⟩ : Nonempty (Wq0.cell? ⟨b1, o1 + ix * 5 + 2, none⟩ = some (.slice P t.n cp)) := ⟨HE2.out Wq0 HDq.out⟩
        have e0' := (HCF.out Wq0 HDq.out).1
        go_wp2
        go_roundw
        case rel => exact ⟨j + 1 + 1, by omega, by go_num, by rw [HSN.out], HV.out.trans (HDq.out.mono HV.out.size)⟩
        case measure => simp [intOf] <;> omega
    · have hkn : k = np := by omega
      subst hkn
      rw [List.take_of_length_le (by rw [← HNP.out]; exact Nat.le_refl _)]
      go_wp2
      exact bodyPost_ret (v := .tuple #[.int .i64 (sumN es), .bool true]) (by simp [results, Try.results22, go_sem]) rfl ⟨rfl, HV.out⟩
end Go.Proofs.Ytnloikdfbdpilaa
