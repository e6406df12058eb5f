/- Draft: fit. -/
import Derived.Test.YtnloikdfbdpilaaD9
import Derived.WalkMore
namespace Go.Proofs.Ytnloikdfbdpilaa
open Go.RowKit
set_option maxRecDepth 20000

/-- Are two entries within their windows? -/
def Nr (a b : En) : Prop := dist b.r a.r ≤ min b.v a.v
/-- Do entries fit? -/
def Fit (l : List En) : Prop := l.Pairwise Nr
theorem fit_snoc (l : List En) (e : En) : Fit (l ++ [e]) ↔ Fit l ∧ ∀ o ∈ l, Nr o e := by
  unfold Fit
  rw [List.pairwise_append]
  simp

set_option linter.unusedSimpArgs false in
set_option maxHeartbeats 8000000 in
theorem fit_any (A : Option Addr) (n c : Nat) (l : List En) (w : World) (hn : n = l.length) (hE : Es w w.heap.size A l) (hO : ∀ e ∈ l, Ok e) (hl : n ≤ 1000) (hc : n ≤ c) :
    Calls Try.prog 28 #[.slice A n c] w fun r w' => (∃ t : Bool, r = .returned (.bool t) ∧ (t = true ↔ Fit l)) ∧ Below w.heap.size w w' := by
  have HE := Lib.hid hE
  have HN := Lib.hid hn
  have HO := Lib.hid hO
  have HBr : Hid (Below w.heap.size w w) := Below.refl _ _
  clear hE hn hO
  go_enter Try.func28, Try.ntmps28
  go_wp2_with fail
  go_step3
  go_wp2_with fail
  go_step3
  go_wp2_with fail
  go_loopw [3, 10] (fun t u wr => ∃ k : Nat, k ≤ n ∧ u = .int .i64 (k : Int) ∧ t = .bool true ∧ Hid (Fit (l.take k) ∧ Below w.heap.size w wr)) (fun _ u _ => n - (intOf u).toNat)
  case atStart => exact ⟨0, by omega, rfl, rfl, by simp [Fit], HBr.out⟩
  case round =>
    obtain ⟨k, hk, rfl, rfl, HV⟩ := hrel
    by_cases hlt : k < n
    · obtain ⟨e, hy⟩ : ∃ e, l[k]? = some e := ⟨l[k]'(by rw [← HN.out]; exact hlt), List.getElem?_eq_getElem _⟩
      obtain ⟨b1, o1, rfl, hb1, ha1⟩ := HE.out (by have := HN.out; omega)
      have HB1 := Lib.hid hb1
      have HA1 := Lib.hid ha1
      have HTK : Hid (l.take (k + 1) = l.take k ++ [e]) := by simp only [Hid]; rw [List.take_add_one, hy]; rfl
      have hoe := HO.out e (List.mem_of_getElem? hy)
      obtain ⟨-, -, ho1, ho2, ho3, ho4⟩ := hoe
      obtain ⟨d0', d1', d2', d3'⟩ := ha1 k e hy
      have d0 := (HV.out.2.cell (p := ⟨b1, _, none⟩) hb1).trans d0'
      have d1 := (HV.out.2.cell (p := ⟨b1, _, none⟩) hb1).trans d1'
      have d2 := (HV.out.2.cell (p := ⟨b1, _, none⟩) hb1).trans d2'
      have d3 := (HV.out.2.cell (p := ⟨b1, _, none⟩) hb1).trans d3'
      obtain ⟨w1, hw1⟩ : ∃ w1, w1 = wr.alloc (.cells (ec e).toArray 80) := ⟨_, rfl⟩
      have hg1 : w1.heap[wr.heap.size]? = some (.cells (ec e).toArray 80 (0, 0)) := by rw [hw1]; exact heap_alloc_new wr _
      have HG1 := Lib.hid hg1
      have HB2 : Hid (Below w.heap.size w w1) := by rw [hw1]; exact HV.out.2.alloc HV.out.2.size _
      have HBL : Hid (wr.heap.size < w1.heap.size) := lt_of_block hg1
      have H1 := Lib.hid hw1
      simp only [ec] at H1
      clear hw1 hg1 ha1 hy hb1 d0' d1' d2' d3'
      go_upto_region 5 with (fail)
      rw [← H1.out]
      obtain ⟨X, hX⟩ : ∃ X, X = wr.heap.size := ⟨_, rfl⟩
      rw [← hX] at HG1 HBL ⊢
      clear H1 hX d0 d1 d2 d3
      go_wp2_with fail
      go_loopw [3, 19] (fun t u wq => ∃ i : Nat, i ≤ k ∧ u = .int .i64 (i : Int) ∧ t = .bool true ∧ Hid ((∀ o ∈ l.take i, Nr o e) ∧ Below w1.heap.size w1 wq)) (fun _ u _ => n - (intOf u).toNat)
      case atStart => exact ⟨0, by omega, rfl, rfl, by simp, Below.refl _ _⟩
      case round =>
        obtain ⟨i, hi, rfl, rfl, HI⟩ := hrel
        by_cases hil : i < k
        · obtain ⟨o, ho⟩ : ∃ o, l[i]? = some o := ⟨l[i]'(by rw [← HN.out]; omega), List.getElem?_eq_getElem _⟩
          have HT2 : Hid (l.take (i + 1) = l.take i ++ [o]) := by simp only [Hid]; rw [List.take_add_one, ho]; rfl
          have HME : Hid (o ∈ l.take k) := by
            simp only [Hid]
            refine List.mem_of_getElem? (i := i) ?_
            rw [List.getElem?_take, if_pos hil, ho]
          have hoo := HO.out o (List.mem_of_getElem? ho)
          obtain ⟨-, -, hp1, hp2, hp3, hp4⟩ := hoo
          obtain ⟨d0', d1', d2', d3'⟩ := HA1.out i o ho
          have HBQ : Hid (Below w.heap.size w wr) := HB2.out.trans (HI.out.2.mono HB2.out.size)
          have d0 := (HBQ.out.cell (p := ⟨b1, _, none⟩) HB1.out).trans d0'
          have d1 := (HBQ.out.cell (p := ⟨b1, _, none⟩) HB1.out).trans d1'
          have d2 := (HBQ.out.cell (p := ⟨b1, _, none⟩) HB1.out).trans d2'
          have d3 := (HBQ.out.cell (p := ⟨b1, _, none⟩) HB1.out).trans d3'
          obtain ⟨w2, hw2⟩ : ∃ w2, w2 = wr.alloc (.cells (ec o).toArray 80) := ⟨_, rfl⟩
          have hg2 : w2.heap[wr.heap.size]? = some (.cells (ec o).toArray 80 (0, 0)) := by rw [hw2]; exact heap_alloc_new wr _
          have HB3 : Hid (Below w1.heap.size w1 w2) := by rw [hw2]; exact HI.out.2.alloc HI.out.2.size _
          have hx2 : w2.heap[X]? = some (.cells (ec e).toArray 80 (0, 0)) := (HB3.out.block _ HBL.out).trans HG1.out
          have H2 := Lib.hid hw2
          simp only [ec] at H2
          obtain ⟨Y, hY⟩ : ∃ Y, Y = wr.heap.size := ⟨_, rfl⟩
          rw [← hY] at hg2
          have HYE := Lib.hid hY
          have HCE : Hid (∀ W, Below w2.heap.size w2 W → W.cell? ⟨X, 2, none⟩ = some (.int .i64 e.r) ∧ W.cell? ⟨X, 3, none⟩ = some (.int .i64 e.v) ∧ W.cell? ⟨Y, 2, none⟩ = some (.int .i64 o.r) ∧ W.cell? ⟨Y, 3, none⟩ = some (.int .i64 o.v)) := fun W hW => by
            have e1 := (hW.block _ (lt_of_block hx2)).trans hx2
            have e2 := (hW.block _ (lt_of_block hg2)).trans hg2
            exact ⟨cell_of_row W _ 2 _ _ _ e1, cell_of_row W _ 3 _ _ _ e1, cell_of_row W _ 2 _ _ _ e2, cell_of_row W _ 3 _ _ _ e2⟩
          have HBS : Hid (Below w2.heap.size w2 w2) := Below.refl _ _
          have HD : Hid (∀ W, Calls Try.prog 40 #[.int .i64 e.r, .int .i64 o.r] W fun r w' => r = .returned (.int .i64 (dist e.r o.r)) ∧ w' = W) := fun W => dist_any e.r o.r W (by omega) (by omega)
          have HNR : Hid (Nr o e ↔ dist e.r o.r ≤ min e.v o.v) := Iff.rfl
          obtain ⟨d, hd⟩ : ∃ d, d = dist e.r o.r := ⟨_, rfl⟩
          rw [← hd] at HD HNR
          obtain ⟨m, hm⟩ : ∃ m, m = min e.v o.v := ⟨_, rfl⟩
          rw [← hm] at HNR
          have HMN : Hid ((if o.v < e.v then o.v else e.v) = m) := by simp only [Hid]; rw [hm]; split <;> omega
          have HBW : Hid (∀ W, Below w2.heap.size w2 W → Below w1.heap.size w1 W) := fun W hW => HB3.out.trans (hW.mono HB3.out.size)
          clear hw2 hg2 hx2 ho d0' d1' d2' d3' hd hm hY
          go_upto_region 8 with (fail)
          rw [← H2.out]
          rw [← HYE.out]
          clear H2 HYE d0 d1 d2 d3
          by_cases hf : d ≤ m
          · have HG : Hid (d ≤ m) := hf
            have HNY : Hid (Nr o e) := HNR.out.2 hf
            clear hf
            have HDp : Hid (Below w2.heap.size w2 w2.drew) := HBS.out.drew
            refine wp_region_held_drew (S := fun W : World => W.cell? ⟨X, 2, none⟩ = some (.int .i64 e.r) ∧ W.cell? ⟨X, 3, none⟩ = some (.int .i64 e.v) ∧ W.cell? ⟨Y, 2, none⟩ = some (.int .i64 o.r) ∧ W.cell? ⟨Y, 3, none⟩ = some (.int .i64 o.v)) (by kernel_rfl) (HCE.out _ HDp.out) (fun hHeld => ?_)
            obtain ⟨Wp0, hW0⟩ : ∃ W0, W0 = w2.drew := ⟨_, rfl⟩
            rw [← hW0] at hHeld HDp ⊢
            clear hW0
            refine wpAnyH_take (i := 0) (oi := ?oi0p) (v := ?v0p) ?hi0p ?hs0p ?hf0p ?hr0p ?hQ0p ?hy0p ?hS0p ?h0p
            case hi0p => exact (by simp only [List.getElem?_toArray, List.getElem?_cons_zero]; rfl)
            case hs0p => kernel_rfl
            case hf0p => kernel_rfl
            case hr0p => kernel_rfl
            case hQ0p => exact fun _ _ _ h => h
            case hy0p =>
              refine Or.inl ⟨rfl, ?_⟩
              intro W hSw
              obtain ⟨y0, y1, y2, y3⟩ := hSw
              go_simp
              try with_reducible rfl
            case hS0p => assumption
            try simp only [Act.put, List.setIfInBounds_toArray, List.set_cons_zero, List.set_cons_succ]
            refine wpAnyH_take (i := 1) (oi := ?oi1p) (v := ?v1p) ?hi1p ?hs1p ?hf1p ?hr1p ?hQ1p ?hy1p ?hS1p ?h1p
            case hi1p => exact (by simp only [List.getElem?_toArray, List.getElem?_cons_succ, List.getElem?_cons_zero]; rfl)
            case hs1p => kernel_rfl
            case hf1p => kernel_rfl
            case hr1p => kernel_rfl
            case hQ1p => exact fun _ _ _ h => h
            case hy1p =>
              refine Or.inl ⟨rfl, ?_⟩
              intro W hSw
              obtain ⟨y0, y1, y2, y3⟩ := hSw
              go_simp
              try with_reducible rfl
            case hS1p => assumption
            try simp only [Act.put, List.setIfInBounds_toArray, List.set_cons_zero, List.set_cons_succ]
            refine wpAnyH_take (i := 2) (oi := ?oi2p) (v := ?v2p) ?hi2p ?hs2p ?hf2p ?hr2p ?hQ2p ?hy2p ?hS2p ?h2p
            case hi2p => exact (by simp only [List.getElem?_toArray, List.getElem?_cons_succ, List.getElem?_cons_zero]; rfl)
            case hs2p => kernel_rfl
            case hf2p => kernel_rfl
            case hr2p => kernel_rfl
            case hQ2p => exact fun _ _ _ h => h
            case hy2p =>
              refine Or.inl ⟨rfl, ?_⟩
              intro W hSw
              obtain ⟨y0, y1, y2, y3⟩ := hSw
              go_simp
              try with_reducible rfl
            case hS2p => assumption
            try simp only [Act.put, List.setIfInBounds_toArray, List.set_cons_zero, List.set_cons_succ]
            refine wpAnyH_take (i := 3) (oi := ?oi3p) (v := ?v3p) ?hi3p ?hs3p ?hf3p ?hr3p ?hQ3p ?hy3p ?hS3p ?h3p
            case hi3p => exact (by simp only [List.getElem?_toArray, List.getElem?_cons_succ, List.getElem?_cons_zero]; rfl)
            case hs3p => kernel_rfl
            case hf3p => kernel_rfl
            case hr3p => kernel_rfl
            case hQ3p => exact fun _ _ _ h => h
            case hy3p =>
              refine Or.inl ⟨rfl, ?_⟩
              intro W hSw
              obtain ⟨y0, y1, y2, y3⟩ := hSw
              go_simp
              try with_reducible rfl
            case hS3p => assumption
            try simp only [Act.put, List.setIfInBounds_toArray, List.set_cons_zero, List.set_cons_succ]
            refine wpAnyH_take (i := 5) (oi := ?oi5p) (v := ?v5p) ?hi5p ?hs5p ?hf5p ?hr5p ?hQ5p ?hy5p ?hS5p ?h5p
            case hi5p => exact (by simp only [List.getElem?_toArray, List.getElem?_cons_succ, List.getElem?_cons_zero]; rfl)
            case hs5p => kernel_rfl
            case hf5p => kernel_rfl
            case hr5p => kernel_rfl
            case hQ5p => exact fun _ _ _ h => h
            case hy5p =>
              refine Or.inl ⟨rfl, ?_⟩
              intro W hSw
              obtain ⟨y0, y1, y2, y3⟩ := hSw
              go_simp
              try with_reducible rfl
            case hS5p => assumption
            try simp only [Act.put, List.setIfInBounds_toArray, List.set_cons_zero, List.set_cons_succ]
            refine wpAnyH_take (i := 6) (oi := ?oi6p) (v := ?v6p) ?hi6p ?hs6p ?hf6p ?hr6p ?hQ6p ?hy6p ?hS6p ?h6p
            case hi6p => exact (by simp only [List.getElem?_toArray, List.getElem?_cons_succ, List.getElem?_cons_zero]; rfl)
            case hs6p => kernel_rfl
            case hf6p => kernel_rfl
            case hr6p => kernel_rfl
            case hQ6p => exact fun _ _ _ h => h
            case hy6p =>
              refine Or.inl ⟨rfl, ?_⟩
              intro W hSw
              obtain ⟨y0, y1, y2, y3⟩ := hSw
              go_simp
              try with_reducible rfl
            case hS6p => assumption
            try simp only [Act.put, List.setIfInBounds_toArray, List.set_cons_zero, List.set_cons_succ]
            refine wpAnyH_take (i := 7) (oi := ?oi7p) (v := ?v7p) ?hi7p ?hs7p ?hf7p ?hr7p ?hQ7p ?hy7p ?hS7p ?h7p
            case hi7p => exact (by simp only [List.getElem?_toArray, List.getElem?_cons_succ, List.getElem?_cons_zero]; rfl)
            case hs7p => kernel_rfl
            case hf7p => kernel_rfl
            case hr7p => kernel_rfl
            case hQ7p => exact fun _ _ _ h => h
            case hy7p =>
              refine Or.inl ⟨rfl, ?_⟩
              intro W hSw
              obtain ⟨y0, y1, y2, y3⟩ := hSw
              go_simp
              try with_reducible rfl
            case hS7p => assumption
            try simp only [Act.put, List.setIfInBounds_toArray, List.set_cons_zero, List.set_cons_succ]
            refine wpAnyH_take (i := 8) (oi := ?oi8p) (v := ?v8p) ?hi8p ?hs8p ?hf8p ?hr8p ?hQ8p ?hy8p ?hS8p ?h8p
            case hi8p => exact (by simp only [List.getElem?_toArray, List.getElem?_cons_succ, List.getElem?_cons_zero]; rfl)
            case hs8p => kernel_rfl
            case hf8p => kernel_rfl
            case hr8p => kernel_rfl
            case hQ8p => exact fun _ _ _ h => h
            case hy8p =>
              refine Or.inl ⟨rfl, ?_⟩
              intro W hSw
              obtain ⟨y0, y1, y2, y3⟩ := hSw
              go_simp
              try with_reducible rfl
            case hS8p => assumption
            try simp only [Act.put, List.setIfInBounds_toArray, List.set_cons_zero, List.set_cons_succ]
            refine wpAnyH_take (i := 9) (oi := ?oi9p) (v := (.int .i64 m)) ?hi9p ?hs9p ?hf9p ?hr9p ?hQ9p ?hy9p ?hS9p ?h9p
            case hi9p => exact (by simp only [List.getElem?_toArray, List.getElem?_cons_succ, List.getElem?_cons_zero]; rfl)
            case hs9p => kernel_rfl
            case hf9p => kernel_rfl
            case hr9p => kernel_rfl
            case hQ9p => exact fun _ _ _ h => h
            case hy9p =>
              refine Or.inl ⟨rfl, ?_⟩
              intro W hSw
              obtain ⟨y0, y1, y2, y3⟩ := hSw
              have z1 := HMN.out
              go_simp
              all_goals first | with_reducible rfl | (simp; done) | (simp; omega) | omega
            case hS9p => assumption
            try simp only [Act.put, List.setIfInBounds_toArray, List.set_cons_zero, List.set_cons_succ]
            refine wpAnyH_ready (rs := [4]) (by kernel_rfl) (by simp) ?_
            refine AllReadyH.cons (o := _) rfl (fun K hK => ?_) AllReadyH.nil
            go_simp
            refine (HD.out Wp0).mono ?_
            rintro r Wp1 ⟨rfl, rfl⟩
            refine hK.out _ _ (HCE.out _ HDp.out) (fun hHeld => ?_)
            clear hK K
            try simp only [Act.put, List.setIfInBounds_toArray, List.set_cons_zero, List.set_cons_succ]
            refine wpAnyH_take (i := 10) (oi := ?oi10p) (v := (.bool false)) ?hi10p ?hs10p ?hf10p ?hr10p ?hQ10p ?hy10p ?hS10p ?h10p
            case hi10p => exact (by simp only [List.getElem?_toArray, List.getElem?_cons_succ, List.getElem?_cons_zero]; rfl)
            case hs10p => kernel_rfl
            case hf10p => kernel_rfl
            case hr10p => kernel_rfl
            case hQ10p => exact fun _ _ _ h => h
            case hy10p =>
              refine Or.inl ⟨rfl, ?_⟩
              intro W hSw
              obtain ⟨y0, y1, y2, y3⟩ := hSw
              have z1 := HG.out
              go_simp
              all_goals first | with_reducible rfl | (simp; done) | (simp; omega) | omega
            case hS10p => assumption
            try simp only [Act.put, List.setIfInBounds_toArray, List.set_cons_zero, List.set_cons_succ]
            refine wpAnyH_done (by kernel_rfl) ?_ _
            go_wp2
            go_roundw
            case rel => exact ⟨i + 1, by omega, by go_num, rfl, fun x hx => by
              rw [HT2.out] at hx
              rcases List.mem_append.1 hx with h | h
              · exact HI.out.1 x h
              · simp at h
                subst h
                exact HNY.out, HBW.out _ HDp.out⟩
            case measure => simp [intOf] <;> omega
          · have HG : Hid (¬ d ≤ m) := hf
            have HNF : Hid (¬ Fit l) := by
              intro h
              have h1 : Fit (l.take (k + 1)) := List.Pairwise.sublist (List.take_sublist _ _) h
              rw [HTK.out, fit_snoc] at h1
              exact hf (HNR.out.1 (h1.2 o HME.out))
            clear hf
            have HDq : Hid (Below w2.heap.size w2 w2.drew) := HBS.out.drew
            refine wp_region_held_drew (S := fun W : World => W.cell? ⟨X, 2, none⟩ = some (.int .i64 e.r) ∧ W.cell? ⟨X, 3, none⟩ = some (.int .i64 e.v) ∧ W.cell? ⟨Y, 2, none⟩ = some (.int .i64 o.r) ∧ W.cell? ⟨Y, 3, none⟩ = some (.int .i64 o.v)) (by kernel_rfl) (HCE.out _ HDq.out) (fun hHeld => ?_)
            obtain ⟨Wq0, hW0⟩ : ∃ W0, W0 = w2.drew := ⟨_, rfl⟩
            rw [← hW0] at hHeld HDq ⊢
            clear hW0
            refine wpAnyH_take (i := 0) (oi := ?oi0q) (v := ?v0q) ?hi0q ?hs0q ?hf0q ?hr0q ?hQ0q ?hy0q ?hS0q ?h0q
            case hi0q => exact (by simp only [List.getElem?_toArray, List.getElem?_cons_zero]; rfl)
            case hs0q => kernel_rfl
            case hf0q => kernel_rfl
            case hr0q => kernel_rfl
            case hQ0q => exact fun _ _ _ h => h
            case hy0q =>
              refine Or.inl ⟨rfl, ?_⟩
              intro W hSw
              obtain ⟨y0, y1, y2, y3⟩ := hSw
              go_simp
              try with_reducible rfl
            case hS0q => assumption
            try simp only [Act.put, List.setIfInBounds_toArray, List.set_cons_zero, List.set_cons_succ]
            refine wpAnyH_take (i := 1) (oi := ?oi1q) (v := ?v1q) ?hi1q ?hs1q ?hf1q ?hr1q ?hQ1q ?hy1q ?hS1q ?h1q
            case hi1q => exact (by simp only [List.getElem?_toArray, List.getElem?_cons_succ, List.getElem?_cons_zero]; rfl)
            case hs1q => kernel_rfl
            case hf1q => kernel_rfl
            case hr1q => kernel_rfl
            case hQ1q => exact fun _ _ _ h => h
            case hy1q =>
              refine Or.inl ⟨rfl, ?_⟩
              intro W hSw
              obtain ⟨y0, y1, y2, y3⟩ := hSw
              go_simp
              try with_reducible rfl
            case hS1q => assumption
            try simp only [Act.put, List.setIfInBounds_toArray, List.set_cons_zero, List.set_cons_succ]
            refine wpAnyH_take (i := 2) (oi := ?oi2q) (v := ?v2q) ?hi2q ?hs2q ?hf2q ?hr2q ?hQ2q ?hy2q ?hS2q ?h2q
            case hi2q => exact (by simp only [List.getElem?_toArray, List.getElem?_cons_succ, List.getElem?_cons_zero]; rfl)
            case hs2q => kernel_rfl
            case hf2q => kernel_rfl
            case hr2q => kernel_rfl
            case hQ2q => exact fun _ _ _ h => h
            case hy2q =>
              refine Or.inl ⟨rfl, ?_⟩
              intro W hSw
              obtain ⟨y0, y1, y2, y3⟩ := hSw
              go_simp
              try with_reducible rfl
            case hS2q => assumption
            try simp only [Act.put, List.setIfInBounds_toArray, List.set_cons_zero, List.set_cons_succ]
            refine wpAnyH_take (i := 3) (oi := ?oi3q) (v := ?v3q) ?hi3q ?hs3q ?hf3q ?hr3q ?hQ3q ?hy3q ?hS3q ?h3q
            case hi3q => exact (by simp only [List.getElem?_toArray, List.getElem?_cons_succ, List.getElem?_cons_zero]; rfl)
            case hs3q => kernel_rfl
            case hf3q => kernel_rfl
            case hr3q => kernel_rfl
            case hQ3q => exact fun _ _ _ h => h
            case hy3q =>
              refine Or.inl ⟨rfl, ?_⟩
              intro W hSw
              obtain ⟨y0, y1, y2, y3⟩ := hSw
              go_simp
              try with_reducible rfl
            case hS3q => assumption
            try simp only [Act.put, List.setIfInBounds_toArray, List.set_cons_zero, List.set_cons_succ]
            refine wpAnyH_take (i := 5) (oi := ?oi5q) (v := ?v5q) ?hi5q ?hs5q ?hf5q ?hr5q ?hQ5q ?hy5q ?hS5q ?h5q
            case hi5q => exact (by simp only [List.getElem?_toArray, List.getElem?_cons_succ, List.getElem?_cons_zero]; rfl)
            case hs5q => kernel_rfl
            case hf5q => kernel_rfl
            case hr5q => kernel_rfl
            case hQ5q => exact fun _ _ _ h => h
            case hy5q =>
              refine Or.inl ⟨rfl, ?_⟩
              intro W hSw
              obtain ⟨y0, y1, y2, y3⟩ := hSw
              go_simp
              try with_reducible rfl
            case hS5q => assumption
            try simp only [Act.put, List.setIfInBounds_toArray, List.set_cons_zero, List.set_cons_succ]
            refine wpAnyH_take (i := 6) (oi := ?oi6q) (v := ?v6q) ?hi6q ?hs6q ?hf6q ?hr6q ?hQ6q ?hy6q ?hS6q ?h6q
            case hi6q => exact (by simp only [List.getElem?_toArray, List.getElem?_cons_succ, List.getElem?_cons_zero]; rfl)
            case hs6q => kernel_rfl
            case hf6q => kernel_rfl
            case hr6q => kernel_rfl
            case hQ6q => exact fun _ _ _ h => h
            case hy6q =>
              refine Or.inl ⟨rfl, ?_⟩
              intro W hSw
              obtain ⟨y0, y1, y2, y3⟩ := hSw
              go_simp
              try with_reducible rfl
            case hS6q => assumption
            try simp only [Act.put, List.setIfInBounds_toArray, List.set_cons_zero, List.set_cons_succ]
            refine wpAnyH_take (i := 7) (oi := ?oi7q) (v := ?v7q) ?hi7q ?hs7q ?hf7q ?hr7q ?hQ7q ?hy7q ?hS7q ?h7q
            case hi7q => exact (by simp only [List.getElem?_toArray, List.getElem?_cons_succ, List.getElem?_cons_zero]; rfl)
            case hs7q => kernel_rfl
            case hf7q => kernel_rfl
            case hr7q => kernel_rfl
            case hQ7q => exact fun _ _ _ h => h
            case hy7q =>
              refine Or.inl ⟨rfl, ?_⟩
              intro W hSw
              obtain ⟨y0, y1, y2, y3⟩ := hSw
              go_simp
              try with_reducible rfl
            case hS7q => assumption
            try simp only [Act.put, List.setIfInBounds_toArray, List.set_cons_zero, List.set_cons_succ]
            refine wpAnyH_take (i := 8) (oi := ?oi8q) (v := ?v8q) ?hi8q ?hs8q ?hf8q ?hr8q ?hQ8q ?hy8q ?hS8q ?h8q
            case hi8q => exact (by simp only [List.getElem?_toArray, List.getElem?_cons_succ, List.getElem?_cons_zero]; rfl)
            case hs8q => kernel_rfl
            case hf8q => kernel_rfl
            case hr8q => kernel_rfl
            case hQ8q => exact fun _ _ _ h => h
            case hy8q =>
              refine Or.inl ⟨rfl, ?_⟩
              intro W hSw
              obtain ⟨y0, y1, y2, y3⟩ := hSw
              go_simp
              try with_reducible rfl
            case hS8q => assumption
            try simp only [Act.put, List.setIfInBounds_toArray, List.set_cons_zero, List.set_cons_succ]
            refine wpAnyH_take (i := 9) (oi := ?oi9q) (v := (.int .i64 m)) ?hi9q ?hs9q ?hf9q ?hr9q ?hQ9q ?hy9q ?hS9q ?h9q
            case hi9q => exact (by simp only [List.getElem?_toArray, List.getElem?_cons_succ, List.getElem?_cons_zero]; rfl)
            case hs9q => kernel_rfl
            case hf9q => kernel_rfl
            case hr9q => kernel_rfl
            case hQ9q => exact fun _ _ _ h => h
            case hy9q =>
              refine Or.inl ⟨rfl, ?_⟩
              intro W hSw
              obtain ⟨y0, y1, y2, y3⟩ := hSw
              have z1 := HMN.out
              go_simp
              all_goals first | with_reducible rfl | (simp; done) | (simp; omega) | omega
            case hS9q => assumption
            try simp only [Act.put, List.setIfInBounds_toArray, List.set_cons_zero, List.set_cons_succ]
            refine wpAnyH_ready (rs := [4]) (by kernel_rfl) (by simp) ?_
            refine AllReadyH.cons (o := _) rfl (fun K hK => ?_) AllReadyH.nil
            go_simp
            refine (HD.out Wq0).mono ?_
            rintro r Wq1 ⟨rfl, rfl⟩
            refine hK.out _ _ (HCE.out _ HDq.out) (fun hHeld => ?_)
            clear hK K
            try simp only [Act.put, List.setIfInBounds_toArray, List.set_cons_zero, List.set_cons_succ]
            refine wpAnyH_take (i := 10) (oi := ?oi10q) (v := (.bool true)) ?hi10q ?hs10q ?hf10q ?hr10q ?hQ10q ?hy10q ?hS10q ?h10q
            case hi10q => exact (by simp only [List.getElem?_toArray, List.getElem?_cons_succ, List.getElem?_cons_zero]; rfl)
            case hs10q => kernel_rfl
            case hf10q => kernel_rfl
            case hr10q => kernel_rfl
            case hQ10q => exact fun _ _ _ h => h
            case hy10q =>
              refine Or.inl ⟨rfl, ?_⟩
              intro W hSw
              obtain ⟨y0, y1, y2, y3⟩ := hSw
              have z1 := HG.out
              go_simp
              all_goals first | with_reducible rfl | (simp; done) | (simp; omega) | omega
            case hS10q => assumption
            try simp only [Act.put, List.setIfInBounds_toArray, List.set_cons_zero, List.set_cons_succ]
            refine wpAnyH_done (by kernel_rfl) ?_ _
            go_wp2
            try rw [Exit.noGoto_ret]
            go_ret
            exact ⟨⟨false, rfl, by simpa using HNF.out⟩, HB2.out.trans ((HBW.out _ HDq.out).mono HB2.out.size)⟩
        · have hik : i = k := by omega
          subst hik
          go_wp2_with fail
          go_roundw
          case rel => exact ⟨i + 1, by omega, by go_num, rfl, by rw [HTK.out, fit_snoc]; exact ⟨HV.out.1, HI.out.1⟩, HB2.out.trans (HI.out.2.mono HB2.out.size)⟩
          case measure => simp [intOf] <;> omega
    · have hkn : k = n := by omega
      subst hkn
      have HF : Hid (Fit l) := by
        have h := HV.out.1
        rw [List.take_of_length_le (by rw [← HN.out]; omega)] at h
        exact h
      go_wp2
      try rw [Exit.noGoto_ret]
      go_ret
      exact ⟨⟨true, rfl, by simpa using HF.out⟩, HV.out.2⟩
end Go.Proofs.Ytnloikdfbdpilaa
