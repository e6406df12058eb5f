/- Fill: fitted; what a ticket that sits down changes. -/
import Derived.Test.YtccabdhfnjlbdaaFH
namespace Go.Proofs.Ytccabdhfnjlbdaa
open Go.RowKit
set_option maxRecDepth 20000
set_option linter.unusedVariables false

/-- Are of each two rows the ratings apart by no more than the lesser window? -/
def FitP (l : List Rw) : Prop := ∀ (i j : Nat) (a b : Rw), j < i → l[i]? = some a → l[j]? = some b → nearP a.r a.v b.r b.v = true
def FitPost (l : List Rw) (r : Ending) : Prop := ∃ t : Bool, r = .returned (.bool t) ∧ (t = true ↔ FitP l)

set_option maxHeartbeats 8000000 in
theorem fitted_any (A : Option Addr) (n c : Nat) (l : List Rw) (w : World) (hn : n = l.length) (hE : Rs w w.heap.size A l) (hl : n ≤ 1000) :
    Calls Try.prog 22 #[.slice A n c] w fun r w' => FitPost l r ∧ Below w.heap.size w w' := by
  have HE := Lib.hid hE
  have HN := Lib.hid hn
  have HBr : Hid (Below w.heap.size w w) := Below.refl _ _
  clear hE hn
  go_enter Try.func22, Try.ntmps22
  go_wp2_with fail
  go_loopw [3] (fun u wr => ∃ i : Nat, i ≤ n ∧ u = .int .i64 (i : Int) ∧ Hid (FitP (l.take i) ∧ Below w.heap.size w wr)) (fun u _ => n - (intOf u).toNat)
  case atStart => exact ⟨0, by omega, rfl, (by intro i j a b hj hi; simp at hi), HBr.out⟩
  case round =>
    obtain ⟨i, hi, rfl, HV⟩ := hrel
    by_cases hlt : i < n
    · obtain ⟨a, hy⟩ : ∃ a, l[i]? = some a := ⟨l[i]'(by rw [← HN.out]; exact hlt), List.getElem?_eq_getElem _⟩
      have HY := Lib.hid hy
      have HIN : Hid (i < n) := hlt
      have HV2 := Lib.hid HV.out.2
      clear hy
      go_wp2_with fail
      go_loopw [4] (fun u wx => ∃ j : Nat, j ≤ i ∧ u = .int .i64 (j : Int) ∧ Hid ((∀ (q : Nat) (b : Rw), q < j → l[q]? = some b → nearP a.r a.v b.r b.v = true) ∧ Below w.heap.size w wx)) (fun u _ => i - (intOf u).toNat)
      case atStart => exact ⟨0, by omega, rfl, (by intro q b hq; omega), HV2.out⟩
      case round =>
        obtain ⟨j, hj, rfl, HX⟩ := hrel
        by_cases hji : j < i
        · obtain ⟨b, hz⟩ : ∃ b, l[j]? = some b := ⟨l[j]'(by rw [← HN.out]; omega), List.getElem?_eq_getElem _⟩
          obtain ⟨b1, o1, rfl, hb1, ha1⟩ := HE.out (by have := HN.out; omega)
          obtain ⟨Pa, cpa, d0, d1, d2, d3⟩ := ha1 i _ HY.out
          obtain ⟨Pb, cpb, e0, e1, e2, e3⟩ := ha1 j _ hz
          have HZ := Lib.hid hz
          obtain ⟨nr, hnr⟩ : ∃ x, x = nearP a.r a.v b.r b.v := ⟨_, rfl⟩
          have HNR : Hid (∀ W, Calls Try.prog 31 #[.int .i64 a.r, .int .i64 a.v, .int .i64 b.r, .int .i64 b.v] W fun r w' => r = .returned (.bool nr) ∧ Below W.heap.size W w') := fun W => (near_any a.r a.v b.r b.v W).mono fun r w' h => ⟨by rw [h.1, hnr], by rw [h.2]; exact Below.refl _ _⟩
          have HNQ := Lib.hid hnr
          have HCF : Hid (∀ W : World, Below w.heap.size w W → W.cell? ⟨b1, o1 + i * 4 + 2, none⟩ = some (.int .i64 a.r) ∧ W.cell? ⟨b1, o1 + i * 4 + 3, none⟩ = some (.int .i64 a.v) ∧ W.cell? ⟨b1, o1 + j * 4 + 2, none⟩ = some (.int .i64 b.r) ∧ W.cell? ⟨b1, o1 + j * 4 + 3, none⟩ = some (.int .i64 b.v)) := fun W hW => ⟨(hW.cell (p := ⟨b1, _, none⟩) hb1).trans d2, (hW.cell (p := ⟨b1, _, none⟩) hb1).trans d3, (hW.cell (p := ⟨b1, _, none⟩) hb1).trans e2, (hW.cell (p := ⟨b1, _, none⟩) hb1).trans e3⟩
          have HJI : Hid (j < i) := hji
          have HW := Lib.hid HX.out.2
          clear ha1 hb1 d0 d1 d2 d3 e0 e1 e2 e3 hz hnr
          cases nr
          · have HNF : Hid (¬ FitP l) := fun h => by
              have := h i j a b HJI.out HY.out HZ.out
              rw [← HNQ.out] at this
              cases this
            go_upto_region 7 with (fail)
            have HDq : Hid (Below w.heap.size w wr.drew) := HW.out.drew
            refine wp_region_held_drew (S := fun W : World => W.cell? ⟨b1, o1 + i * 4 + 2, none⟩ = some (.int .i64 a.r) ∧ W.cell? ⟨b1, o1 + i * 4 + 3, none⟩ = some (.int .i64 a.v) ∧ W.cell? ⟨b1, o1 + j * 4 + 2, none⟩ = some (.int .i64 b.r) ∧ W.cell? ⟨b1, o1 + j * 4 + 3, none⟩ = some (.int .i64 b.v)) (by kernel_rfl) (HCF.out _ (HDq.out)) (fun hHeld => ?_)
            obtain ⟨Wq0, hW0⟩ : ∃ W0, W0 = wr.drew := ⟨_, rfl⟩
            rw [← hW0] at hHeld HDq ⊢
            clear hW0
            refine wpAnyH_take (i := 0) (oi := ?oi0q) (v := ?v0q) ?hi0q ?hs0q ?hf0q ?hr0q ?hQ0q ?hy0q ?hS0q ?h0q
            case hi0q => exact (by simp only [List.getElem?_toArray, List.getElem?_cons_zero]; rfl)
            case hs0q => kernel_rfl
            case hf0q => kernel_rfl
            case hr0q => kernel_rfl
            case hQ0q => exact fun _ _ _ h => h
            case hy0q =>
              refine Or.inl ⟨rfl, ?_⟩
              intro W hSw
              obtain ⟨y0, y1, y2, y3⟩ := hSw
              have z1 := HIN.out
              have z2 := HJI.out
              have z3 : j < n := Nat.lt_trans z2 z1
              go_simp
              try with_reducible rfl
            case hS0q => assumption
            try simp only [Act.put, List.setIfInBounds_toArray, List.set_cons_zero, List.set_cons_succ]
            refine wpAnyH_take (i := 1) (oi := ?oi1q) (v := ?v1q) ?hi1q ?hs1q ?hf1q ?hr1q ?hQ1q ?hy1q ?hS1q ?h1q
            case hi1q => exact (by simp only [List.getElem?_toArray, List.getElem?_cons_succ, List.getElem?_cons_zero]; rfl)
            case hs1q => kernel_rfl
            case hf1q => kernel_rfl
            case hr1q => kernel_rfl
            case hQ1q => exact fun _ _ _ h => h
            case hy1q =>
              refine Or.inl ⟨rfl, ?_⟩
              intro W hSw
              obtain ⟨y0, y1, y2, y3⟩ := hSw
              have z1 := HIN.out
              have z2 := HJI.out
              have z3 : j < n := Nat.lt_trans z2 z1
              go_simp
              try with_reducible rfl
            case hS1q => assumption
            try simp only [Act.put, List.setIfInBounds_toArray, List.set_cons_zero, List.set_cons_succ]
            refine wpAnyH_take (i := 2) (oi := ?oi2q) (v := ?v2q) ?hi2q ?hs2q ?hf2q ?hr2q ?hQ2q ?hy2q ?hS2q ?h2q
            case hi2q => exact (by simp only [List.getElem?_toArray, List.getElem?_cons_succ, List.getElem?_cons_zero]; rfl)
            case hs2q => kernel_rfl
            case hf2q => kernel_rfl
            case hr2q => kernel_rfl
            case hQ2q => exact fun _ _ _ h => h
            case hy2q =>
              refine Or.inl ⟨rfl, ?_⟩
              intro W hSw
              obtain ⟨y0, y1, y2, y3⟩ := hSw
              have z1 := HIN.out
              have z2 := HJI.out
              have z3 : j < n := Nat.lt_trans z2 z1
              go_simp
              try with_reducible rfl
            case hS2q => assumption
            try simp only [Act.put, List.setIfInBounds_toArray, List.set_cons_zero, List.set_cons_succ]
            refine wpAnyH_take (i := 3) (oi := ?oi3q) (v := ?v3q) ?hi3q ?hs3q ?hf3q ?hr3q ?hQ3q ?hy3q ?hS3q ?h3q
            case hi3q => exact (by simp only [List.getElem?_toArray, List.getElem?_cons_succ, List.getElem?_cons_zero]; rfl)
            case hs3q => kernel_rfl
            case hf3q => kernel_rfl
            case hr3q => kernel_rfl
            case hQ3q => exact fun _ _ _ h => h
            case hy3q =>
              refine Or.inl ⟨rfl, ?_⟩
              intro W hSw
              obtain ⟨y0, y1, y2, y3⟩ := hSw
              have z1 := HIN.out
              have z2 := HJI.out
              have z3 : j < n := Nat.lt_trans z2 z1
              go_simp
              try with_reducible rfl
            case hS3q => assumption
            try simp only [Act.put, List.setIfInBounds_toArray, List.set_cons_zero, List.set_cons_succ]
            refine wpAnyH_take (i := 4) (oi := ?oi4q) (v := ?v4q) ?hi4q ?hs4q ?hf4q ?hr4q ?hQ4q ?hy4q ?hS4q ?h4q
            case hi4q => exact (by simp only [List.getElem?_toArray, List.getElem?_cons_succ, List.getElem?_cons_zero]; rfl)
            case hs4q => kernel_rfl
            case hf4q => kernel_rfl
            case hr4q => kernel_rfl
            case hQ4q => exact fun _ _ _ h => h
            case hy4q =>
              refine Or.inl ⟨rfl, ?_⟩
              intro W hSw
              obtain ⟨y0, y1, y2, y3⟩ := hSw
              have z1 := HIN.out
              have z2 := HJI.out
              have z3 : j < n := Nat.lt_trans z2 z1
              go_simp
              try with_reducible rfl
            case hS4q => assumption
            try simp only [Act.put, List.setIfInBounds_toArray, List.set_cons_zero, List.set_cons_succ]
            refine wpAnyH_take (i := 5) (oi := ?oi5q) (v := ?v5q) ?hi5q ?hs5q ?hf5q ?hr5q ?hQ5q ?hy5q ?hS5q ?h5q
            case hi5q => exact (by simp only [List.getElem?_toArray, List.getElem?_cons_succ, List.getElem?_cons_zero]; rfl)
            case hs5q => kernel_rfl
            case hf5q => kernel_rfl
            case hr5q => kernel_rfl
            case hQ5q => exact fun _ _ _ h => h
            case hy5q =>
              refine Or.inl ⟨rfl, ?_⟩
              intro W hSw
              obtain ⟨y0, y1, y2, y3⟩ := hSw
              have z1 := HIN.out
              have z2 := HJI.out
              have z3 : j < n := Nat.lt_trans z2 z1
              go_simp
              try with_reducible rfl
            case hS5q => assumption
            try simp only [Act.put, List.setIfInBounds_toArray, List.set_cons_zero, List.set_cons_succ]
            refine wpAnyH_take (i := 6) (oi := ?oi6q) (v := ?v6q) ?hi6q ?hs6q ?hf6q ?hr6q ?hQ6q ?hy6q ?hS6q ?h6q
            case hi6q => exact (by simp only [List.getElem?_toArray, List.getElem?_cons_succ, List.getElem?_cons_zero]; rfl)
            case hs6q => kernel_rfl
            case hf6q => kernel_rfl
            case hr6q => kernel_rfl
            case hQ6q => exact fun _ _ _ h => h
            case hy6q =>
              refine Or.inl ⟨rfl, ?_⟩
              intro W hSw
              obtain ⟨y0, y1, y2, y3⟩ := hSw
              have z1 := HIN.out
              have z2 := HJI.out
              have z3 : j < n := Nat.lt_trans z2 z1
              go_simp
              try with_reducible rfl
            case hS6q => assumption
            try simp only [Act.put, List.setIfInBounds_toArray, List.set_cons_zero, List.set_cons_succ]
            refine wpAnyH_take (i := 7) (oi := ?oi7q) (v := ?v7q) ?hi7q ?hs7q ?hf7q ?hr7q ?hQ7q ?hy7q ?hS7q ?h7q
            case hi7q => exact (by simp only [List.getElem?_toArray, List.getElem?_cons_succ, List.getElem?_cons_zero]; rfl)
            case hs7q => kernel_rfl
            case hf7q => kernel_rfl
            case hr7q => kernel_rfl
            case hQ7q => exact fun _ _ _ h => h
            case hy7q =>
              refine Or.inl ⟨rfl, ?_⟩
              intro W hSw
              obtain ⟨y0, y1, y2, y3⟩ := hSw
              have z1 := HIN.out
              have z2 := HJI.out
              have z3 : j < n := Nat.lt_trans z2 z1
              go_simp
              try with_reducible rfl
            case hS7q => assumption
            try simp only [Act.put, List.setIfInBounds_toArray, List.set_cons_zero, List.set_cons_succ]
            refine wpAnyH_take (i := 8) (oi := ?oi8q) (v := ?v8q) ?hi8q ?hs8q ?hf8q ?hr8q ?hQ8q ?hy8q ?hS8q ?h8q
            case hi8q => exact (by simp only [List.getElem?_toArray, List.getElem?_cons_succ, List.getElem?_cons_zero]; rfl)
            case hs8q => kernel_rfl
            case hf8q => kernel_rfl
            case hr8q => kernel_rfl
            case hQ8q => exact fun _ _ _ h => h
            case hy8q =>
              refine Or.inl ⟨rfl, ?_⟩
              intro W hSw
              obtain ⟨y0, y1, y2, y3⟩ := hSw
              have z1 := HIN.out
              have z2 := HJI.out
              have z3 : j < n := Nat.lt_trans z2 z1
              go_simp
              try with_reducible rfl
            case hS8q => assumption
            try simp only [Act.put, List.setIfInBounds_toArray, List.set_cons_zero, List.set_cons_succ]
            refine wpAnyH_take (i := 9) (oi := ?oi9q) (v := ?v9q) ?hi9q ?hs9q ?hf9q ?hr9q ?hQ9q ?hy9q ?hS9q ?h9q
            case hi9q => exact (by simp only [List.getElem?_toArray, List.getElem?_cons_succ, List.getElem?_cons_zero]; rfl)
            case hs9q => kernel_rfl
            case hf9q => kernel_rfl
            case hr9q => kernel_rfl
            case hQ9q => exact fun _ _ _ h => h
            case hy9q =>
              refine Or.inl ⟨rfl, ?_⟩
              intro W hSw
              obtain ⟨y0, y1, y2, y3⟩ := hSw
              have z1 := HIN.out
              have z2 := HJI.out
              have z3 : j < n := Nat.lt_trans z2 z1
              go_simp
              try with_reducible rfl
            case hS9q => assumption
            try simp only [Act.put, List.setIfInBounds_toArray, List.set_cons_zero, List.set_cons_succ]
            refine wpAnyH_take (i := 10) (oi := ?oi10q) (v := ?v10q) ?hi10q ?hs10q ?hf10q ?hr10q ?hQ10q ?hy10q ?hS10q ?h10q
            case hi10q => exact (by simp only [List.getElem?_toArray, List.getElem?_cons_succ, List.getElem?_cons_zero]; rfl)
            case hs10q => kernel_rfl
            case hf10q => kernel_rfl
            case hr10q => kernel_rfl
            case hQ10q => exact fun _ _ _ h => h
            case hy10q =>
              refine Or.inl ⟨rfl, ?_⟩
              intro W hSw
              obtain ⟨y0, y1, y2, y3⟩ := hSw
              have z1 := HIN.out
              have z2 := HJI.out
              have z3 : j < n := Nat.lt_trans z2 z1
              go_simp
              try with_reducible rfl
            case hS10q => assumption
            try simp only [Act.put, List.setIfInBounds_toArray, List.set_cons_zero, List.set_cons_succ]
            refine wpAnyH_take (i := 11) (oi := ?oi11q) (v := ?v11q) ?hi11q ?hs11q ?hf11q ?hr11q ?hQ11q ?hy11q ?hS11q ?h11q
            case hi11q => exact (by simp only [List.getElem?_toArray, List.getElem?_cons_succ, List.getElem?_cons_zero]; rfl)
            case hs11q => kernel_rfl
            case hf11q => kernel_rfl
            case hr11q => kernel_rfl
            case hQ11q => exact fun _ _ _ h => h
            case hy11q =>
              refine Or.inl ⟨rfl, ?_⟩
              intro W hSw
              obtain ⟨y0, y1, y2, y3⟩ := hSw
              have z1 := HIN.out
              have z2 := HJI.out
              have z3 : j < n := Nat.lt_trans z2 z1
              go_simp
              try with_reducible rfl
            case hS11q => assumption
            try simp only [Act.put, List.setIfInBounds_toArray, List.set_cons_zero, List.set_cons_succ]
            refine wpAnyH_take (i := 12) (oi := ?oi12q) (v := ?v12q) ?hi12q ?hs12q ?hf12q ?hr12q ?hQ12q ?hy12q ?hS12q ?h12q
            case hi12q => exact (by simp only [List.getElem?_toArray, List.getElem?_cons_succ, List.getElem?_cons_zero]; rfl)
            case hs12q => kernel_rfl
            case hf12q => kernel_rfl
            case hr12q => kernel_rfl
            case hQ12q => exact fun _ _ _ h => h
            case hy12q =>
              refine Or.inl ⟨rfl, ?_⟩
              intro W hSw
              obtain ⟨y0, y1, y2, y3⟩ := hSw
              have z1 := HIN.out
              have z2 := HJI.out
              have z3 : j < n := Nat.lt_trans z2 z1
              go_simp
              try with_reducible rfl
            case hS12q => assumption
            try simp only [Act.put, List.setIfInBounds_toArray, List.set_cons_zero, List.set_cons_succ]
            refine wpAnyH_take (i := 13) (oi := ?oi13q) (v := ?v13q) ?hi13q ?hs13q ?hf13q ?hr13q ?hQ13q ?hy13q ?hS13q ?h13q
            case hi13q => exact (by simp only [List.getElem?_toArray, List.getElem?_cons_succ, List.getElem?_cons_zero]; rfl)
            case hs13q => kernel_rfl
            case hf13q => kernel_rfl
            case hr13q => kernel_rfl
            case hQ13q => exact fun _ _ _ h => h
            case hy13q =>
              refine Or.inl ⟨rfl, ?_⟩
              intro W hSw
              obtain ⟨y0, y1, y2, y3⟩ := hSw
              have z1 := HIN.out
              have z2 := HJI.out
              have z3 : j < n := Nat.lt_trans z2 z1
              go_simp
              try with_reducible rfl
            case hS13q => assumption
            try simp only [Act.put, List.setIfInBounds_toArray, List.set_cons_zero, List.set_cons_succ]
            refine wpAnyH_take (i := 14) (oi := ?oi14q) (v := ?v14q) ?hi14q ?hs14q ?hf14q ?hr14q ?hQ14q ?hy14q ?hS14q ?h14q
            case hi14q => exact (by simp only [List.getElem?_toArray, List.getElem?_cons_succ, List.getElem?_cons_zero]; rfl)
            case hs14q => kernel_rfl
            case hf14q => kernel_rfl
            case hr14q => kernel_rfl
            case hQ14q => exact fun _ _ _ h => h
            case hy14q =>
              refine Or.inl ⟨rfl, ?_⟩
              intro W hSw
              obtain ⟨y0, y1, y2, y3⟩ := hSw
              have z1 := HIN.out
              have z2 := HJI.out
              have z3 : j < n := Nat.lt_trans z2 z1
              go_simp
              try with_reducible rfl
            case hS14q => assumption
            try simp only [Act.put, List.setIfInBounds_toArray, List.set_cons_zero, List.set_cons_succ]
            refine wpAnyH_take (i := 15) (oi := ?oi15q) (v := ?v15q) ?hi15q ?hs15q ?hf15q ?hr15q ?hQ15q ?hy15q ?hS15q ?h15q
            case hi15q => exact (by simp only [List.getElem?_toArray, List.getElem?_cons_succ, List.getElem?_cons_zero]; rfl)
            case hs15q => kernel_rfl
            case hf15q => kernel_rfl
            case hr15q => kernel_rfl
            case hQ15q => exact fun _ _ _ h => h
            case hy15q =>
              refine Or.inl ⟨rfl, ?_⟩
              intro W hSw
              obtain ⟨y0, y1, y2, y3⟩ := hSw
              have z1 := HIN.out
              have z2 := HJI.out
              have z3 : j < n := Nat.lt_trans z2 z1
              go_simp
              try with_reducible rfl
            case hS15q => assumption
            try simp only [Act.put, List.setIfInBounds_toArray, List.set_cons_zero, List.set_cons_succ]
            refine wpAnyH_take (i := 16) (oi := ?oi16q) (v := ?v16q) ?hi16q ?hs16q ?hf16q ?hr16q ?hQ16q ?hy16q ?hS16q ?h16q
            case hi16q => exact (by simp only [List.getElem?_toArray, List.getElem?_cons_succ, List.getElem?_cons_zero]; rfl)
            case hs16q => kernel_rfl
            case hf16q => kernel_rfl
            case hr16q => kernel_rfl
            case hQ16q => exact fun _ _ _ h => h
            case hy16q =>
              refine Or.inl ⟨rfl, ?_⟩
              intro W hSw
              obtain ⟨y0, y1, y2, y3⟩ := hSw
              have z1 := HIN.out
              have z2 := HJI.out
              have z3 : j < n := Nat.lt_trans z2 z1
              go_simp
              try with_reducible rfl
            case hS16q => assumption
            try simp only [Act.put, List.setIfInBounds_toArray, List.set_cons_zero, List.set_cons_succ]
            refine wpAnyH_take (i := 17) (oi := ?oi17q) (v := ?v17q) ?hi17q ?hs17q ?hf17q ?hr17q ?hQ17q ?hy17q ?hS17q ?h17q
            case hi17q => exact (by simp only [List.getElem?_toArray, List.getElem?_cons_succ, List.getElem?_cons_zero]; rfl)
            case hs17q => kernel_rfl
            case hf17q => kernel_rfl
            case hr17q => kernel_rfl
            case hQ17q => exact fun _ _ _ h => h
            case hy17q =>
              refine Or.inl ⟨rfl, ?_⟩
              intro W hSw
              obtain ⟨y0, y1, y2, y3⟩ := hSw
              have z1 := HIN.out
              have z2 := HJI.out
              have z3 : j < n := Nat.lt_trans z2 z1
              go_simp
              try with_reducible rfl
            case hS17q => assumption
            try simp only [Act.put, List.setIfInBounds_toArray, List.set_cons_zero, List.set_cons_succ]
            refine wpAnyH_take (i := 18) (oi := ?oi18q) (v := ?v18q) ?hi18q ?hs18q ?hf18q ?hr18q ?hQ18q ?hy18q ?hS18q ?h18q
            case hi18q => exact (by simp only [List.getElem?_toArray, List.getElem?_cons_succ, List.getElem?_cons_zero]; rfl)
            case hs18q => kernel_rfl
            case hf18q => kernel_rfl
            case hr18q => kernel_rfl
            case hQ18q => exact fun _ _ _ h => h
            case hy18q =>
              refine Or.inl ⟨rfl, ?_⟩
              intro W hSw
              obtain ⟨y0, y1, y2, y3⟩ := hSw
              have z1 := HIN.out
              have z2 := HJI.out
              have z3 : j < n := Nat.lt_trans z2 z1
              go_simp
              try with_reducible rfl
            case hS18q => assumption
            try simp only [Act.put, List.setIfInBounds_toArray, List.set_cons_zero, List.set_cons_succ]
            refine wpAnyH_take (i := 19) (oi := ?oi19q) (v := ?v19q) ?hi19q ?hs19q ?hf19q ?hr19q ?hQ19q ?hy19q ?hS19q ?h19q
            case hi19q => exact (by simp only [List.getElem?_toArray, List.getElem?_cons_succ, List.getElem?_cons_zero]; rfl)
            case hs19q => kernel_rfl
            case hf19q => kernel_rfl
            case hr19q => kernel_rfl
            case hQ19q => exact fun _ _ _ h => h
            case hy19q =>
              refine Or.inl ⟨rfl, ?_⟩
              intro W hSw
              obtain ⟨y0, y1, y2, y3⟩ := hSw
              have z1 := HIN.out
              have z2 := HJI.out
              have z3 : j < n := Nat.lt_trans z2 z1
              go_simp
              try with_reducible rfl
            case hS19q => assumption
            try simp only [Act.put, List.setIfInBounds_toArray, List.set_cons_zero, List.set_cons_succ]
            refine wpAnyH_ready (rs := [20]) (by kernel_rfl) (by simp) ?_
            refine AllReadyH.cons (o := _) rfl (fun K hK => ?_) AllReadyH.nil
            go_simp
            refine (HNR.out Wq0).mono ?_
            rintro r Wq1 ⟨rfl, hbq⟩
            have HBq1 := Lib.hid (HDq.out.trans (hbq.mono HDq.out.size))
            clear hbq
            refine hK.out _ _ (HCF.out _ (HBq1.out)) (fun hHeld => ?_)
            clear hK K
            try simp only [Act.put, List.setIfInBounds_toArray, List.set_cons_zero, List.set_cons_succ]
            refine wpAnyH_take (i := 21) (oi := ?oi21q) (v := (.bool true)) ?hi21q ?hs21q ?hf21q ?hr21q ?hQ21q ?hy21q ?hS21q ?h21q
            case hi21q => exact (by simp only [List.getElem?_toArray, List.getElem?_cons_succ, List.getElem?_cons_zero]; rfl)
            case hs21q => kernel_rfl
            case hf21q => kernel_rfl
            case hr21q => kernel_rfl
            case hQ21q => exact fun _ _ _ h => h
            case hy21q =>
              refine Or.inl ⟨rfl, ?_⟩
              intro W hSw
              obtain ⟨y0, y1, y2, y3⟩ := hSw
              have z1 := HIN.out
              have z2 := HJI.out
              have z3 : j < n := Nat.lt_trans z2 z1
              go_simp
              try with_reducible rfl
            case hS21q => assumption
            try simp only [Act.put, List.setIfInBounds_toArray, List.set_cons_zero, List.set_cons_succ]
            refine wpAnyH_done (by kernel_rfl) ?_ _
            go_wp2
            go_ret
            exact ⟨⟨false, rfl, ⟨(fun h => by cases h), fun h => absurd h HNF.out⟩⟩, HBq1.out⟩
          · go_upto_region 7 with (fail)
            have HDp : Hid (Below w.heap.size w wr.drew) := HW.out.drew
            refine wp_region_held_drew (S := fun W : World => W.cell? ⟨b1, o1 + i * 4 + 2, none⟩ = some (.int .i64 a.r) ∧ W.cell? ⟨b1, o1 + i * 4 + 3, none⟩ = some (.int .i64 a.v) ∧ W.cell? ⟨b1, o1 + j * 4 + 2, none⟩ = some (.int .i64 b.r) ∧ W.cell? ⟨b1, o1 + j * 4 + 3, none⟩ = some (.int .i64 b.v)) (by kernel_rfl) (HCF.out _ (HDp.out)) (fun hHeld => ?_)
            obtain ⟨Wp0, hW0⟩ : ∃ W0, W0 = wr.drew := ⟨_, rfl⟩
            rw [← hW0] at hHeld HDp ⊢
            clear hW0
            refine wpAnyH_take (i := 0) (oi := ?oi0p) (v := ?v0p) ?hi0p ?hs0p ?hf0p ?hr0p ?hQ0p ?hy0p ?hS0p ?h0p
            case hi0p => exact (by simp only [List.getElem?_toArray, List.getElem?_cons_zero]; rfl)
            case hs0p => kernel_rfl
            case hf0p => kernel_rfl
            case hr0p => kernel_rfl
            case hQ0p => exact fun _ _ _ h => h
            case hy0p =>
              refine Or.inl ⟨rfl, ?_⟩
              intro W hSw
              obtain ⟨y0, y1, y2, y3⟩ := hSw
              have z1 := HIN.out
              have z2 := HJI.out
              have z3 : j < n := Nat.lt_trans z2 z1
              go_simp
              try with_reducible rfl
            case hS0p => assumption
            try simp only [Act.put, List.setIfInBounds_toArray, List.set_cons_zero, List.set_cons_succ]
            refine wpAnyH_take (i := 1) (oi := ?oi1p) (v := ?v1p) ?hi1p ?hs1p ?hf1p ?hr1p ?hQ1p ?hy1p ?hS1p ?h1p
            case hi1p => exact (by simp only [List.getElem?_toArray, List.getElem?_cons_succ, List.getElem?_cons_zero]; rfl)
            case hs1p => kernel_rfl
            case hf1p => kernel_rfl
            case hr1p => kernel_rfl
            case hQ1p => exact fun _ _ _ h => h
            case hy1p =>
              refine Or.inl ⟨rfl, ?_⟩
              intro W hSw
              obtain ⟨y0, y1, y2, y3⟩ := hSw
              have z1 := HIN.out
              have z2 := HJI.out
              have z3 : j < n := Nat.lt_trans z2 z1
              go_simp
              try with_reducible rfl
            case hS1p => assumption
            try simp only [Act.put, List.setIfInBounds_toArray, List.set_cons_zero, List.set_cons_succ]
            refine wpAnyH_take (i := 2) (oi := ?oi2p) (v := ?v2p) ?hi2p ?hs2p ?hf2p ?hr2p ?hQ2p ?hy2p ?hS2p ?h2p
            case hi2p => exact (by simp only [List.getElem?_toArray, List.getElem?_cons_succ, List.getElem?_cons_zero]; rfl)
            case hs2p => kernel_rfl
            case hf2p => kernel_rfl
            case hr2p => kernel_rfl
            case hQ2p => exact fun _ _ _ h => h
            case hy2p =>
              refine Or.inl ⟨rfl, ?_⟩
              intro W hSw
              obtain ⟨y0, y1, y2, y3⟩ := hSw
              have z1 := HIN.out
              have z2 := HJI.out
              have z3 : j < n := Nat.lt_trans z2 z1
              go_simp
              try with_reducible rfl
            case hS2p => assumption
            try simp only [Act.put, List.setIfInBounds_toArray, List.set_cons_zero, List.set_cons_succ]
            refine wpAnyH_take (i := 3) (oi := ?oi3p) (v := ?v3p) ?hi3p ?hs3p ?hf3p ?hr3p ?hQ3p ?hy3p ?hS3p ?h3p
            case hi3p => exact (by simp only [List.getElem?_toArray, List.getElem?_cons_succ, List.getElem?_cons_zero]; rfl)
            case hs3p => kernel_rfl
            case hf3p => kernel_rfl
            case hr3p => kernel_rfl
            case hQ3p => exact fun _ _ _ h => h
            case hy3p =>
              refine Or.inl ⟨rfl, ?_⟩
              intro W hSw
              obtain ⟨y0, y1, y2, y3⟩ := hSw
              have z1 := HIN.out
              have z2 := HJI.out
              have z3 : j < n := Nat.lt_trans z2 z1
              go_simp
              try with_reducible rfl
            case hS3p => assumption
            try simp only [Act.put, List.setIfInBounds_toArray, List.set_cons_zero, List.set_cons_succ]
            refine wpAnyH_take (i := 4) (oi := ?oi4p) (v := ?v4p) ?hi4p ?hs4p ?hf4p ?hr4p ?hQ4p ?hy4p ?hS4p ?h4p
            case hi4p => exact (by simp only [List.getElem?_toArray, List.getElem?_cons_succ, List.getElem?_cons_zero]; rfl)
            case hs4p => kernel_rfl
            case hf4p => kernel_rfl
            case hr4p => kernel_rfl
            case hQ4p => exact fun _ _ _ h => h
            case hy4p =>
              refine Or.inl ⟨rfl, ?_⟩
              intro W hSw
              obtain ⟨y0, y1, y2, y3⟩ := hSw
              have z1 := HIN.out
              have z2 := HJI.out
              have z3 : j < n := Nat.lt_trans z2 z1
              go_simp
              try with_reducible rfl
            case hS4p => assumption
            try simp only [Act.put, List.setIfInBounds_toArray, List.set_cons_zero, List.set_cons_succ]
            refine wpAnyH_take (i := 5) (oi := ?oi5p) (v := ?v5p) ?hi5p ?hs5p ?hf5p ?hr5p ?hQ5p ?hy5p ?hS5p ?h5p
            case hi5p => exact (by simp only [List.getElem?_toArray, List.getElem?_cons_succ, List.getElem?_cons_zero]; rfl)
            case hs5p => kernel_rfl
            case hf5p => kernel_rfl
            case hr5p => kernel_rfl
            case hQ5p => exact fun _ _ _ h => h
            case hy5p =>
              refine Or.inl ⟨rfl, ?_⟩
              intro W hSw
              obtain ⟨y0, y1, y2, y3⟩ := hSw
              have z1 := HIN.out
              have z2 := HJI.out
              have z3 : j < n := Nat.lt_trans z2 z1
              go_simp
              try with_reducible rfl
            case hS5p => assumption
            try simp only [Act.put, List.setIfInBounds_toArray, List.set_cons_zero, List.set_cons_succ]
            refine wpAnyH_take (i := 6) (oi := ?oi6p) (v := ?v6p) ?hi6p ?hs6p ?hf6p ?hr6p ?hQ6p ?hy6p ?hS6p ?h6p
            case hi6p => exact (by simp only [List.getElem?_toArray, List.getElem?_cons_succ, List.getElem?_cons_zero]; rfl)
            case hs6p => kernel_rfl
            case hf6p => kernel_rfl
            case hr6p => kernel_rfl
            case hQ6p => exact fun _ _ _ h => h
            case hy6p =>
              refine Or.inl ⟨rfl, ?_⟩
              intro W hSw
              obtain ⟨y0, y1, y2, y3⟩ := hSw
              have z1 := HIN.out
              have z2 := HJI.out
              have z3 : j < n := Nat.lt_trans z2 z1
              go_simp
              try with_reducible rfl
            case hS6p => assumption
            try simp only [Act.put, List.setIfInBounds_toArray, List.set_cons_zero, List.set_cons_succ]
            refine wpAnyH_take (i := 7) (oi := ?oi7p) (v := ?v7p) ?hi7p ?hs7p ?hf7p ?hr7p ?hQ7p ?hy7p ?hS7p ?h7p
            case hi7p => exact (by simp only [List.getElem?_toArray, List.getElem?_cons_succ, List.getElem?_cons_zero]; rfl)
            case hs7p => kernel_rfl
            case hf7p => kernel_rfl
            case hr7p => kernel_rfl
            case hQ7p => exact fun _ _ _ h => h
            case hy7p =>
              refine Or.inl ⟨rfl, ?_⟩
              intro W hSw
              obtain ⟨y0, y1, y2, y3⟩ := hSw
              have z1 := HIN.out
              have z2 := HJI.out
              have z3 : j < n := Nat.lt_trans z2 z1
              go_simp
              try with_reducible rfl
            case hS7p => assumption
            try simp only [Act.put, List.setIfInBounds_toArray, List.set_cons_zero, List.set_cons_succ]
            refine wpAnyH_take (i := 8) (oi := ?oi8p) (v := ?v8p) ?hi8p ?hs8p ?hf8p ?hr8p ?hQ8p ?hy8p ?hS8p ?h8p
            case hi8p => exact (by simp only [List.getElem?_toArray, List.getElem?_cons_succ, List.getElem?_cons_zero]; rfl)
            case hs8p => kernel_rfl
            case hf8p => kernel_rfl
            case hr8p => kernel_rfl
            case hQ8p => exact fun _ _ _ h => h
            case hy8p =>
              refine Or.inl ⟨rfl, ?_⟩
              intro W hSw
              obtain ⟨y0, y1, y2, y3⟩ := hSw
              have z1 := HIN.out
              have z2 := HJI.out
              have z3 : j < n := Nat.lt_trans z2 z1
              go_simp
              try with_reducible rfl
            case hS8p => assumption
            try simp only [Act.put, List.setIfInBounds_toArray, List.set_cons_zero, List.set_cons_succ]
            refine wpAnyH_take (i := 9) (oi := ?oi9p) (v := ?v9p) ?hi9p ?hs9p ?hf9p ?hr9p ?hQ9p ?hy9p ?hS9p ?h9p
            case hi9p => exact (by simp only [List.getElem?_toArray, List.getElem?_cons_succ, List.getElem?_cons_zero]; rfl)
            case hs9p => kernel_rfl
            case hf9p => kernel_rfl
            case hr9p => kernel_rfl
            case hQ9p => exact fun _ _ _ h => h
            case hy9p =>
              refine Or.inl ⟨rfl, ?_⟩
              intro W hSw
              obtain ⟨y0, y1, y2, y3⟩ := hSw
              have z1 := HIN.out
              have z2 := HJI.out
              have z3 : j < n := Nat.lt_trans z2 z1
              go_simp
              try with_reducible rfl
            case hS9p => assumption
            try simp only [Act.put, List.setIfInBounds_toArray, List.set_cons_zero, List.set_cons_succ]
            refine wpAnyH_take (i := 10) (oi := ?oi10p) (v := ?v10p) ?hi10p ?hs10p ?hf10p ?hr10p ?hQ10p ?hy10p ?hS10p ?h10p
            case hi10p => exact (by simp only [List.getElem?_toArray, List.getElem?_cons_succ, List.getElem?_cons_zero]; rfl)
            case hs10p => kernel_rfl
            case hf10p => kernel_rfl
            case hr10p => kernel_rfl
            case hQ10p => exact fun _ _ _ h => h
            case hy10p =>
              refine Or.inl ⟨rfl, ?_⟩
              intro W hSw
              obtain ⟨y0, y1, y2, y3⟩ := hSw
              have z1 := HIN.out
              have z2 := HJI.out
              have z3 : j < n := Nat.lt_trans z2 z1
              go_simp
              try with_reducible rfl
            case hS10p => assumption
            try simp only [Act.put, List.setIfInBounds_toArray, List.set_cons_zero, List.set_cons_succ]
            refine wpAnyH_take (i := 11) (oi := ?oi11p) (v := ?v11p) ?hi11p ?hs11p ?hf11p ?hr11p ?hQ11p ?hy11p ?hS11p ?h11p
            case hi11p => exact (by simp only [List.getElem?_toArray, List.getElem?_cons_succ, List.getElem?_cons_zero]; rfl)
            case hs11p => kernel_rfl
            case hf11p => kernel_rfl
            case hr11p => kernel_rfl
            case hQ11p => exact fun _ _ _ h => h
            case hy11p =>
              refine Or.inl ⟨rfl, ?_⟩
              intro W hSw
              obtain ⟨y0, y1, y2, y3⟩ := hSw
              have z1 := HIN.out
              have z2 := HJI.out
              have z3 : j < n := Nat.lt_trans z2 z1
              go_simp
              try with_reducible rfl
            case hS11p => assumption
            try simp only [Act.put, List.setIfInBounds_toArray, List.set_cons_zero, List.set_cons_succ]
            refine wpAnyH_take (i := 12) (oi := ?oi12p) (v := ?v12p) ?hi12p ?hs12p ?hf12p ?hr12p ?hQ12p ?hy12p ?hS12p ?h12p
            case hi12p => exact (by simp only [List.getElem?_toArray, List.getElem?_cons_succ, List.getElem?_cons_zero]; rfl)
            case hs12p => kernel_rfl
            case hf12p => kernel_rfl
            case hr12p => kernel_rfl
            case hQ12p => exact fun _ _ _ h => h
            case hy12p =>
              refine Or.inl ⟨rfl, ?_⟩
              intro W hSw
              obtain ⟨y0, y1, y2, y3⟩ := hSw
              have z1 := HIN.out
              have z2 := HJI.out
              have z3 : j < n := Nat.lt_trans z2 z1
              go_simp
              try with_reducible rfl
            case hS12p => assumption
            try simp only [Act.put, List.setIfInBounds_toArray, List.set_cons_zero, List.set_cons_succ]
            refine wpAnyH_take (i := 13) (oi := ?oi13p) (v := ?v13p) ?hi13p ?hs13p ?hf13p ?hr13p ?hQ13p ?hy13p ?hS13p ?h13p
            case hi13p => exact (by simp only [List.getElem?_toArray, List.getElem?_cons_succ, List.getElem?_cons_zero]; rfl)
            case hs13p => kernel_rfl
            case hf13p => kernel_rfl
            case hr13p => kernel_rfl
            case hQ13p => exact fun _ _ _ h => h
            case hy13p =>
              refine Or.inl ⟨rfl, ?_⟩
              intro W hSw
              obtain ⟨y0, y1, y2, y3⟩ := hSw
              have z1 := HIN.out
              have z2 := HJI.out
              have z3 : j < n := Nat.lt_trans z2 z1
              go_simp
              try with_reducible rfl
            case hS13p => assumption
            try simp only [Act.put, List.setIfInBounds_toArray, List.set_cons_zero, List.set_cons_succ]
            refine wpAnyH_take (i := 14) (oi := ?oi14p) (v := ?v14p) ?hi14p ?hs14p ?hf14p ?hr14p ?hQ14p ?hy14p ?hS14p ?h14p
            case hi14p => exact (by simp only [List.getElem?_toArray, List.getElem?_cons_succ, List.getElem?_cons_zero]; rfl)
            case hs14p => kernel_rfl
            case hf14p => kernel_rfl
            case hr14p => kernel_rfl
            case hQ14p => exact fun _ _ _ h => h
            case hy14p =>
              refine Or.inl ⟨rfl, ?_⟩
              intro W hSw
              obtain ⟨y0, y1, y2, y3⟩ := hSw
              have z1 := HIN.out
              have z2 := HJI.out
              have z3 : j < n := Nat.lt_trans z2 z1
              go_simp
              try with_reducible rfl
            case hS14p => assumption
            try simp only [Act.put, List.setIfInBounds_toArray, List.set_cons_zero, List.set_cons_succ]
            refine wpAnyH_take (i := 15) (oi := ?oi15p) (v := ?v15p) ?hi15p ?hs15p ?hf15p ?hr15p ?hQ15p ?hy15p ?hS15p ?h15p
            case hi15p => exact (by simp only [List.getElem?_toArray, List.getElem?_cons_succ, List.getElem?_cons_zero]; rfl)
            case hs15p => kernel_rfl
            case hf15p => kernel_rfl
            case hr15p => kernel_rfl
            case hQ15p => exact fun _ _ _ h => h
            case hy15p =>
              refine Or.inl ⟨rfl, ?_⟩
              intro W hSw
              obtain ⟨y0, y1, y2, y3⟩ := hSw
              have z1 := HIN.out
              have z2 := HJI.out
              have z3 : j < n := Nat.lt_trans z2 z1
              go_simp
              try with_reducible rfl
            case hS15p => assumption
            try simp only [Act.put, List.setIfInBounds_toArray, List.set_cons_zero, List.set_cons_succ]
            refine wpAnyH_take (i := 16) (oi := ?oi16p) (v := ?v16p) ?hi16p ?hs16p ?hf16p ?hr16p ?hQ16p ?hy16p ?hS16p ?h16p
            case hi16p => exact (by simp only [List.getElem?_toArray, List.getElem?_cons_succ, List.getElem?_cons_zero]; rfl)
            case hs16p => kernel_rfl
            case hf16p => kernel_rfl
            case hr16p => kernel_rfl
            case hQ16p => exact fun _ _ _ h => h
            case hy16p =>
              refine Or.inl ⟨rfl, ?_⟩
              intro W hSw
              obtain ⟨y0, y1, y2, y3⟩ := hSw
              have z1 := HIN.out
              have z2 := HJI.out
              have z3 : j < n := Nat.lt_trans z2 z1
              go_simp
              try with_reducible rfl
            case hS16p => assumption
            try simp only [Act.put, List.setIfInBounds_toArray, List.set_cons_zero, List.set_cons_succ]
            refine wpAnyH_take (i := 17) (oi := ?oi17p) (v := ?v17p) ?hi17p ?hs17p ?hf17p ?hr17p ?hQ17p ?hy17p ?hS17p ?h17p
            case hi17p => exact (by simp only [List.getElem?_toArray, List.getElem?_cons_succ, List.getElem?_cons_zero]; rfl)
            case hs17p => kernel_rfl
            case hf17p => kernel_rfl
            case hr17p => kernel_rfl
            case hQ17p => exact fun _ _ _ h => h
            case hy17p =>
              refine Or.inl ⟨rfl, ?_⟩
              intro W hSw
              obtain ⟨y0, y1, y2, y3⟩ := hSw
              have z1 := HIN.out
              have z2 := HJI.out
              have z3 : j < n := Nat.lt_trans z2 z1
              go_simp
              try with_reducible rfl
            case hS17p => assumption
            try simp only [Act.put, List.setIfInBounds_toArray, List.set_cons_zero, List.set_cons_succ]
            refine wpAnyH_take (i := 18) (oi := ?oi18p) (v := ?v18p) ?hi18p ?hs18p ?hf18p ?hr18p ?hQ18p ?hy18p ?hS18p ?h18p
            case hi18p => exact (by simp only [List.getElem?_toArray, List.getElem?_cons_succ, List.getElem?_cons_zero]; rfl)
            case hs18p => kernel_rfl
            case hf18p => kernel_rfl
            case hr18p => kernel_rfl
            case hQ18p => exact fun _ _ _ h => h
            case hy18p =>
              refine Or.inl ⟨rfl, ?_⟩
              intro W hSw
              obtain ⟨y0, y1, y2, y3⟩ := hSw
              have z1 := HIN.out
              have z2 := HJI.out
              have z3 : j < n := Nat.lt_trans z2 z1
              go_simp
              try with_reducible rfl
            case hS18p => assumption
            try simp only [Act.put, List.setIfInBounds_toArray, List.set_cons_zero, List.set_cons_succ]
            refine wpAnyH_take (i := 19) (oi := ?oi19p) (v := ?v19p) ?hi19p ?hs19p ?hf19p ?hr19p ?hQ19p ?hy19p ?hS19p ?h19p
            case hi19p => exact (by simp only [List.getElem?_toArray, List.getElem?_cons_succ, List.getElem?_cons_zero]; rfl)
            case hs19p => kernel_rfl
            case hf19p => kernel_rfl
            case hr19p => kernel_rfl
            case hQ19p => exact fun _ _ _ h => h
            case hy19p =>
              refine Or.inl ⟨rfl, ?_⟩
              intro W hSw
              obtain ⟨y0, y1, y2, y3⟩ := hSw
              have z1 := HIN.out
              have z2 := HJI.out
              have z3 : j < n := Nat.lt_trans z2 z1
              go_simp
              try with_reducible rfl
            case hS19p => assumption
            try simp only [Act.put, List.setIfInBounds_toArray, List.set_cons_zero, List.set_cons_succ]
            refine wpAnyH_ready (rs := [20]) (by kernel_rfl) (by simp) ?_
            refine AllReadyH.cons (o := _) rfl (fun K hK => ?_) AllReadyH.nil
            go_simp
            refine (HNR.out Wp0).mono ?_
            rintro r Wp1 ⟨rfl, hbq⟩
            have HBp1 := Lib.hid (HDp.out.trans (hbq.mono HDp.out.size))
            clear hbq
            refine hK.out _ _ (HCF.out _ (HBp1.out)) (fun hHeld => ?_)
            clear hK K
            try simp only [Act.put, List.setIfInBounds_toArray, List.set_cons_zero, List.set_cons_succ]
            refine wpAnyH_take (i := 21) (oi := ?oi21p) (v := (.bool false)) ?hi21p ?hs21p ?hf21p ?hr21p ?hQ21p ?hy21p ?hS21p ?h21p
            case hi21p => exact (by simp only [List.getElem?_toArray, List.getElem?_cons_succ, List.getElem?_cons_zero]; rfl)
            case hs21p => kernel_rfl
            case hf21p => kernel_rfl
            case hr21p => kernel_rfl
            case hQ21p => exact fun _ _ _ h => h
            case hy21p =>
              refine Or.inl ⟨rfl, ?_⟩
              intro W hSw
              obtain ⟨y0, y1, y2, y3⟩ := hSw
              have z1 := HIN.out
              have z2 := HJI.out
              have z3 : j < n := Nat.lt_trans z2 z1
              go_simp
              try with_reducible rfl
            case hS21p => assumption
            try simp only [Act.put, List.setIfInBounds_toArray, List.set_cons_zero, List.set_cons_succ]
            refine wpAnyH_done (by kernel_rfl) ?_ _
            go_wp2
            go_roundw
            case rel =>
              refine ⟨j + 1, by omega, by go_num, fun q b' hq hb' => ?_, HBp1.out⟩
              by_cases hqj : q < j
              · exact HX.out.1 q b' hqj hb'
              · obtain rfl : q = j := by omega
                have e := HZ.out
                rw [hb'] at e
                injection e with e
                subst e
                exact HNQ.out.symm
            case measure => simp [intOf] <;> omega
        · have hjn : j = i := by omega
          subst hjn
          have HNX : Hid (FitP (l.take (j + 1))) := by
            intro p q a' b' hqp hp hq
            have hp1 : p < j + 1 := by
              have := (List.getElem?_eq_some_iff.1 hp).1
              rw [List.length_take] at this
              omega
            rw [List.getElem?_take, if_pos hp1] at hp
            rw [List.getElem?_take, if_pos (by omega)] at hq
            by_cases hpj : p < j
            · exact HV.out.1 p q a' b' hqp (by rw [List.getElem?_take, if_pos hpj]; exact hp) (by rw [List.getElem?_take, if_pos (by omega)]; exact hq)
            · obtain rfl : p = j := by omega
              have e := HY.out
              rw [hp] at e
              injection e with e
              subst e
              exact HX.out.1 q b' hqp hq
          go_wp2
          go_roundw
          case rel => exact ⟨j + 1, by omega, by go_num, HNX.out, HX.out.2⟩
          case measure => simp [intOf] <;> omega
    · have hkn : i = n := by omega
      subst hkn
      have HF : Hid (FitP l) := by
        have h := HV.out.1
        rw [List.take_of_length_le (by rw [← HN.out]; exact Nat.le_refl _)] at h
        exact h
      go_wp2
      go_ret
      exact ⟨⟨true, rfl, ⟨fun _ => HF.out, fun _ => rfl⟩⟩, HV.out.2⟩
theorem fit_more {rows : List Rw} {e : Rw} (h : FitP rows) (he : ∀ b ∈ rows, nearP e.r e.v b.r b.v = true) : FitP (rows ++ [e]) := by
  intro i j a b hj hi hb
  have hjl : j < rows.length := by
    have := (List.getElem?_eq_some_iff.1 hi).1
    rw [List.length_append, List.length_singleton] at this
    omega
  rw [List.getElem?_append_left hjl] at hb
  by_cases hil : i < rows.length
  · rw [List.getElem?_append_left hil] at hi
    exact h i j a b hj hi hb
  · have hil' : i = rows.length := by
      have := (List.getElem?_eq_some_iff.1 hi).1
      rw [List.length_append, List.length_singleton] at this
      omega
    subst hil'
    simp at hi
    subst hi
    exact he b (List.mem_of_getElem? hb)
theorem ok_fits {m : Mo} {now : Int} {rows : List Rw} {t : Tk} (h : okP m now rows t = true) : ¬ teamP m t.n rows = 0 ∧ ∀ b ∈ rows, nearP t.r (m.win (waitP now t.s)) b.r b.v = true := by
  unfold okP fitsP at h
  simp only [Bool.and_eq_true, decide_eq_true_eq] at h
  obtain ⟨h1, h2, h3⟩ := h
  refine ⟨h1, fun b hb => ?_⟩
  rw [far_near]
  have h4 : rows.any (farP (rt t.r) (m.win (waitP now t.s))) = false := by simpa using h3
  rw [List.any_eq_false] at h4
  have := h4 b hb
  simpa using this
/-- What a team that has room says. -/
theorem team_says {m : Mo} {p : Int} {rows : List Rw} (h : ¬ teamP m p rows = 0) : 1 ≤ p ∧ ((teamP m p rows = 1 ∧ p ≤ m.k - takP 1 rows) ∨ (teamP m p rows = 2 ∧ p ≤ m.k - takP 2 rows)) := by
  unfold teamP at *
  by_cases h1 : m.wr = [] ∧ 1 ≤ p
  · rw [if_pos h1] at *
    refine ⟨h1.2, ?_⟩
    by_cases h2 : takP 2 rows < takP 1 rows
    · rw [if_pos h2] at *
      by_cases h3 : p ≤ m.k - takP 2 rows
      · rw [if_pos h3]; exact .inr ⟨rfl, h3⟩
      · rw [if_neg h3] at h; exact absurd rfl h
    · rw [if_neg h2] at *
      by_cases h3 : p ≤ m.k - takP 1 rows
      · rw [if_pos h3]; exact .inl ⟨rfl, h3⟩
      · rw [if_neg h3] at h; exact absurd rfl h
  · rw [if_neg h1] at h; exact absurd rfl h
/-- What a find says. -/
theorem find_says (m : Mo) (now : Int) (rows : List Rw) (l : List Tk) :
    ((∀ t ∈ l, okP m now rows t = false) ∧ findR m now rows l = (0, 0, false)) ∨
    ∃ (k : Nat) (t : Tk), l[k]? = some t ∧ okP m now rows t = true ∧ (∀ x ∈ l.take k, okP m now rows x = false) ∧ findR m now rows l = ((k : Int), teamP m t.n rows, true) := by
  by_cases h : ∀ t ∈ l, okP m now rows t = false
  · exact .inl ⟨h, findR_none h⟩
  · right
    cases hf : l.findIdx? (okP m now rows) with
    | none => exact absurd (List.findIdx?_eq_none_iff.1 hf) h
    | some k =>
      obtain ⟨hk, ht, hl⟩ := List.findIdx?_eq_some_iff_getElem.1 hf
      have hall : ∀ x ∈ l.take k, okP m now rows x = false := fun x hx => by
        obtain ⟨j, hj⟩ := List.mem_iff_getElem?.1 hx
        have hjk : j < k := by
          have := (List.getElem?_eq_some_iff.1 hj).1
          rw [List.length_take] at this
          omega
        rw [List.getElem?_take, if_pos hjk, List.getElem?_eq_getElem (by omega)] at hj
        injection hj with hj
        have := hl j hjk
        rw [hj] at this
        simpa using this
      exact ⟨k, l[k], List.getElem?_eq_getElem hk, ht, hall, findR_some (List.getElem?_eq_getElem hk) ht hall⟩
theorem five {w : World} {G t : Nat} {a b c d e : Value} (a' b' c' d' e' : Value) (h : w.heap[G]? = some (.cells #[a, b, c, d, e] t (0, 0))) : (((((w.setCell ⟨G, 0, none⟩ a').setCell ⟨G, 1, none⟩ b').setCell ⟨G, 2, none⟩ c').setCell ⟨G, 3, none⟩ d').setCell ⟨G, 4, none⟩ e').heap[G]? = some (.cells #[a', b', c', d', e'] t (0, 0)) := by
  have h1 := heap_setCell_same w G 0 _ t a' h
  have h2 := heap_setCell_same _ G 1 _ t b' h1
  have h3 := heap_setCell_same _ G 2 _ t c' h2
  have h4 := heap_setCell_same _ G 3 _ t d' h3
  have h5 := heap_setCell_same _ G 4 _ t e' h4
  simpa using h5
theorem five_far {w : World} {G k : Nat} (a' b' c' d' e' : Value) (h : k ≠ G) : (((((w.setCell ⟨G, 0, none⟩ a').setCell ⟨G, 1, none⟩ b').setCell ⟨G, 2, none⟩ c').setCell ⟨G, 3, none⟩ d').setCell ⟨G, 4, none⟩ e').heap[k]? = w.heap[k]? := by
  rw [Below.heap_setCell _ _ _ _ h, Below.heap_setCell _ _ _ _ h, Below.heap_setCell _ _ _ _ h, Below.heap_setCell _ _ _ _ h, Below.heap_setCell _ _ _ _ h]
theorem five_below {w w0 : World} {B G : Nat} (a' b' c' d' e' : Value) (h : Below B w0 w) (hG : B ≤ G) : Below B w0 (((((w.setCell ⟨G, 0, none⟩ a').setCell ⟨G, 1, none⟩ b').setCell ⟨G, 2, none⟩ c').setCell ⟨G, 3, none⟩ d').setCell ⟨G, 4, none⟩ e') :=
  ((((h.setCell hG _).setCell hG _).setCell hG _).setCell hG _).setCell hG _
/-- A row of other things lies elsewhere. -/
theorem own_ne {w : World} {base T s m G t : Nat} {v : Value} {xs : List Value} {cs : Array Value} (h : w.ownsRow base T s v m xs) (hG : w.heap[G]? = some (.cells cs t (0, 0))) (ht : t ≠ T) : v.ownBlock ≠ some G := by
  intro e
  rcases h.2 with ⟨rfl, _⟩ | ⟨g, cap, cur, rfl, _, hg, _⟩
  · cases e
  · injection e with e
    subst e
    rw [hg] at hG
    injection hG with hG
    injection hG with _ e2 _
    exact ht e2.symm
end Go.Proofs.Ytccabdhfnjlbdaa
