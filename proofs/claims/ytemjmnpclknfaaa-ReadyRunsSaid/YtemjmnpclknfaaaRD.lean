/- Ready: the document's Missing. -/
import Derived.Test.YtemjmnpclknfaaaRC
namespace Go.Proofs.Ytemjmnpclknfaaa.P
open Go.RowKit
set_option maxRecDepth 20000
set_option linter.unusedVariables false
set_option linter.unusedSimpArgs false

theorem miss_snoc (l ys : List Nat) (k x : Nat) (h : l[k]? = some x) : miss (l.take (k + 1)) ys = miss (l.take k) ys ++ if x ∈ ys then [] else [x] := by
  unfold miss
  rw [List.take_add_one, h, List.filter_append]
  congr 1
  by_cases e : x ∈ ys
  · rw [if_pos e]; simp [e]
  · rw [if_neg e]; simp [e]
set_option maxHeartbeats 8000000 in
theorem dmissing_any (id : Nat) (t : Int) (ms vs : Sl) (l ys : List Nat) (w : World) (h1 : ms.n = l.length) (h2 : vs.n = ys.length) (hA : Rn w ms.a l) (hY : Rn w vs.a ys) (hl : l.length ≤ 100) (hyl : ys.length ≤ 100) :
    Calls Try.prog 40 #[.agg (dC id t ms vs)] w fun r w' => ∃ A c, r = .returned (.slice A (miss l ys).length c) ∧ w'.ownsRow w.heap.size 26 1 (.slice A (miss l ys).length c) (miss l ys).length (un (miss l ys)) ∧ Below w.heap.size w w' := by
  obtain ⟨ma, mn, mc⟩ := ms
  obtain ⟨va, vn, vc⟩ := vs
  obtain ⟨X, hX⟩ : ∃ X, X = w.heap.size := ⟨_, rfl⟩
  obtain ⟨w0, hw0⟩ : ∃ w0, w0 = w.alloc (.cells #[.int .u32 (id : Int), .slice ma mn mc, .slice va vn vc, .int .i64 t] 36) := ⟨_, rfl⟩
  have hb0 : Below w.heap.size w w0 := by rw [hw0]; exact (Below.refl _ _).alloc (Nat.le_refl _) _
  have hq0 : w0.heap[X]? = some (.cells #[.int .u32 (id : Int), .slice ma mn mc, .slice va vn vc, .int .i64 t] 36 (0, 0)) := by rw [hw0, hX]; exact heap_alloc_new w _
  have HRA := Lib.hid (hA.after hb0)
  have HRY := Lib.hid (hY.after hb0)
  have HLA : Hid (mn = l.length ∧ l.length ≤ 100) := ⟨h1, hl⟩
  have HLY : Hid (vn = ys.length ∧ ys.length ≤ 100) := ⟨h2, hyl⟩
  have HA := Lib.hid hw0
  have HB0 := Lib.hid hb0
  have HQ0 := Lib.hid hq0
  have HXX := Lib.hid hX
  have HBr : Hid (Below w0.heap.size w0 w0) := Below.refl _ _
  have hmn : mn ≤ 100 := by have e : mn = l.length := h1; omega
  clear h1 h2 hA hY hl hyl hX hw0 hb0 hq0
  go_enter Try.func40, Try.ntmps40
  go_upto_region 1 with (fail)
  rw [← HA.out, ← HXX.out]
  go_wp2_with fail
  go_loopw [3, 4] (fun v u wr => ∃ (k m : Nat) (B2 : Option Addr) (c2 : Nat), k ≤ mn ∧ u = .int .i64 (k : Int) ∧ v = .slice B2 m c2 ∧ Hid (m = (miss (l.take k) ys).length ∧ wr.ownsRow w0.heap.size 26 1 (.slice B2 m c2) m (un (miss (l.take k) ys)) ∧ Below w0.heap.size w0 wr)) (fun _ u _ => mn - (intOf u).toNat)
  case atStart => exact ⟨0, 0, none, 0, by omega, rfl, rfl, rfl, World.ownsRow_nil w0 _ 26 1, HBr.out⟩
  case round =>
    obtain ⟨k, m, B2, c2, hk, rfl, rfl, HV⟩ := hrel
    have HMK : Hid (m ≤ 100) := by have h1 := HV.out.1; have h2 := miss_len (l.take k) ys; rw [List.length_take] at h2; have := HLA.out; simp only [Hid]; omega
    have hqr := (HV.out.2.2.block _ (lt_of_block HQ0.out)).trans HQ0.out
    have y1 := cell_of_row _ X 1 _ _ _ hqr
    simp at y1
    clear hqr
    by_cases hlt : k < mn
    · obtain ⟨x, hx⟩ : ∃ x, l[k]? = some x := ⟨l[k]'(by rw [← HLA.out.1]; exact hlt), List.getElem?_eq_getElem _⟩
      obtain ⟨b, o, rfl, hb, hc⟩ := HRA.out (by have := HLA.out; omega)
      have hcx := hc k x hx
      have HCE : Hid (∀ W, Below wr.heap.size wr W → (fun W : World => W.cell? ⟨X, 1, none⟩ = some (.slice (some ⟨b, o, none⟩) mn mc) ∧ W.cell? ⟨X, 2, none⟩ = some (.slice va vn vc) ∧ W.cell? ⟨b, o + k, none⟩ = some (.int .u32 (x : Int))) W) := fun W hW => by
        have hbw := HV.out.2.2.trans (hW.mono HV.out.2.2.size)
        have hqw := (hbw.block _ (lt_of_block HQ0.out)).trans HQ0.out
        exact ⟨cell_of_row W X 1 _ _ _ hqw, cell_of_row W X 2 _ _ _ hqw, (hbw.cell (p := ⟨b, _, none⟩) hb).trans hcx⟩
      have HTK := Lib.hid (miss_snoc l ys k x hx)
      have HRF : Hid (Below wr.heap.size wr wr) := Below.refl _ _
      have hklt : k < mn := hlt
      clear hx hc hb hcx
      by_cases hp : x ∈ ys
      · rw [if_pos hp, List.append_nil] at HTK
        have HC : Hid (∀ W, Below wr.heap.size wr W → Calls Try.prog 42 #[.slice va vn vc, .int .u32 (x : Int)] W fun r w' => r = .returned (.bool true) ∧ Below W.heap.size W w') := fun W hW => (has_any va vn vc ys x W HLY.out.1 ((HRY.out.after (HV.out.2.2)).after hW) (by have := HLY.out; omega)).mono fun r w' ⟨h1, h2⟩ => ⟨by rw [h1, decide_eq_true hp], by rw [h2]; exact Below.refl _ _⟩
        clear hp
        go_upto_region 5 with (fail)
        have HDa : Hid (Below wr.heap.size wr wr.drew) := HRF.out.drew
        refine wp_region_held_drew (S := fun W : World => W.cell? ⟨X, 1, none⟩ = some (.slice (some ⟨b, o, none⟩) mn mc) ∧ W.cell? ⟨X, 2, none⟩ = some (.slice va vn vc) ∧ W.cell? ⟨b, o + k, none⟩ = some (.int .u32 (x : Int))) (by kernel_rfl) (HCE.out _ (HDa.out)) (fun hHeld => ?_)
        obtain ⟨Wa0, hW0⟩ : ∃ W0, W0 = wr.drew := ⟨_, rfl⟩
        rw [← hW0] at hHeld HDa ⊢
        clear hW0
        refine wpAnyH_take (i := 0) (oi := ?oi0a) (v := ?v0a) ?hi0a ?hs0a ?hf0a ?hr0a ?hQ0a ?hy0a ?hS0a ?h0a
        case hi0a => exact (by simp only [List.getElem?_toArray, List.getElem?_cons_zero]; rfl)
        case hs0a => kernel_rfl
        case hf0a => kernel_rfl
        case hr0a => kernel_rfl
        case hQ0a => exact fun _ _ _ h => h
        case hy0a =>
          refine Or.inl ⟨rfl, ?_⟩
          intro W hSw
          obtain ⟨q0, q1, q2⟩ := hSw
          go_simp
          try with_reducible rfl
        case hS0a => assumption
        try simp only [Act.put, List.setIfInBounds_toArray, List.set_cons_zero, List.set_cons_succ]
        refine wpAnyH_take (i := 1) (oi := ?oi1a) (v := ?v1a) ?hi1a ?hs1a ?hf1a ?hr1a ?hQ1a ?hy1a ?hS1a ?h1a
        case hi1a => exact (by simp only [List.getElem?_toArray, List.getElem?_cons_succ, List.getElem?_cons_zero]; rfl)
        case hs1a => kernel_rfl
        case hf1a => kernel_rfl
        case hr1a => kernel_rfl
        case hQ1a => exact fun _ _ _ h => h
        case hy1a =>
          refine Or.inl ⟨rfl, ?_⟩
          intro W hSw
          obtain ⟨q0, q1, q2⟩ := hSw
          go_simp
          try with_reducible rfl
        case hS1a => assumption
        try simp only [Act.put, List.setIfInBounds_toArray, List.set_cons_zero, List.set_cons_succ]
        refine wpAnyH_take (i := 2) (oi := ?oi2a) (v := ?v2a) ?hi2a ?hs2a ?hf2a ?hr2a ?hQ2a ?hy2a ?hS2a ?h2a
        case hi2a => exact (by simp only [List.getElem?_toArray, List.getElem?_cons_succ, List.getElem?_cons_zero]; rfl)
        case hs2a => kernel_rfl
        case hf2a => kernel_rfl
        case hr2a => kernel_rfl
        case hQ2a => exact fun _ _ _ h => h
        case hy2a =>
          refine Or.inl ⟨rfl, ?_⟩
          intro W hSw
          obtain ⟨q0, q1, q2⟩ := hSw
          go_simp
          try with_reducible rfl
        case hS2a => assumption
        try simp only [Act.put, List.setIfInBounds_toArray, List.set_cons_zero, List.set_cons_succ]
        refine wpAnyH_take (i := 3) (oi := ?oi3a) (v := ?v3a) ?hi3a ?hs3a ?hf3a ?hr3a ?hQ3a ?hy3a ?hS3a ?h3a
        case hi3a => exact (by simp only [List.getElem?_toArray, List.getElem?_cons_succ, List.getElem?_cons_zero]; rfl)
        case hs3a => kernel_rfl
        case hf3a => kernel_rfl
        case hr3a => kernel_rfl
        case hQ3a => exact fun _ _ _ h => h
        case hy3a =>
          refine Or.inl ⟨rfl, ?_⟩
          intro W hSw
          obtain ⟨q0, q1, q2⟩ := hSw
          go_simp
          try with_reducible rfl
        case hS3a => assumption
        try simp only [Act.put, List.setIfInBounds_toArray, List.set_cons_zero, List.set_cons_succ]
        refine wpAnyH_take (i := 4) (oi := ?oi4a) (v := ?v4a) ?hi4a ?hs4a ?hf4a ?hr4a ?hQ4a ?hy4a ?hS4a ?h4a
        case hi4a => exact (by simp only [List.getElem?_toArray, List.getElem?_cons_succ, List.getElem?_cons_zero]; rfl)
        case hs4a => kernel_rfl
        case hf4a => kernel_rfl
        case hr4a => kernel_rfl
        case hQ4a => exact fun _ _ _ h => h
        case hy4a =>
          refine Or.inl ⟨rfl, ?_⟩
          intro W hSw
          obtain ⟨q0, q1, q2⟩ := hSw
          go_simp
          try with_reducible rfl
        case hS4a => assumption
        try simp only [Act.put, List.setIfInBounds_toArray, List.set_cons_zero, List.set_cons_succ]
        refine wpAnyH_take (i := 5) (oi := ?oi5a) (v := ?v5a) ?hi5a ?hs5a ?hf5a ?hr5a ?hQ5a ?hy5a ?hS5a ?h5a
        case hi5a => exact (by simp only [List.getElem?_toArray, List.getElem?_cons_succ, List.getElem?_cons_zero]; rfl)
        case hs5a => kernel_rfl
        case hf5a => kernel_rfl
        case hr5a => kernel_rfl
        case hQ5a => exact fun _ _ _ h => h
        case hy5a =>
          refine Or.inl ⟨rfl, ?_⟩
          intro W hSw
          obtain ⟨q0, q1, q2⟩ := hSw
          go_simp
          try with_reducible rfl
        case hS5a => assumption
        try simp only [Act.put, List.setIfInBounds_toArray, List.set_cons_zero, List.set_cons_succ]
        refine wpAnyH_take (i := 6) (oi := ?oi6a) (v := ?v6a) ?hi6a ?hs6a ?hf6a ?hr6a ?hQ6a ?hy6a ?hS6a ?h6a
        case hi6a => exact (by simp only [List.getElem?_toArray, List.getElem?_cons_succ, List.getElem?_cons_zero]; rfl)
        case hs6a => kernel_rfl
        case hf6a => kernel_rfl
        case hr6a => kernel_rfl
        case hQ6a => exact fun _ _ _ h => h
        case hy6a =>
          refine Or.inl ⟨rfl, ?_⟩
          intro W hSw
          obtain ⟨q0, q1, q2⟩ := hSw
          go_simp
          try with_reducible rfl
        case hS6a => assumption
        try simp only [Act.put, List.setIfInBounds_toArray, List.set_cons_zero, List.set_cons_succ]
        refine wpAnyH_ready (rs := [7]) (by kernel_rfl) (by simp) ?_
        refine AllReadyH.cons (o := _) rfl (fun K hK => ?_) AllReadyH.nil
        go_simp
        refine ((HC.out Wa0 (HDa.out))).mono ?_
        rintro r Wa1 ⟨rfl, hbq⟩
        have HBa1 := Lib.hid (HDa.out.trans (hbq.mono HDa.out.size))
        clear hbq
        refine hK.out _ _ (HCE.out _ (HBa1.out)) (fun hHeld => ?_)
        clear hK K
        try simp only [Act.put, List.setIfInBounds_toArray, List.set_cons_zero, List.set_cons_succ]
        refine wpAnyH_take (i := 8) (oi := ?oi8a) (v := ?v8a) ?hi8a ?hs8a ?hf8a ?hr8a ?hQ8a ?hy8a ?hS8a ?h8a
        case hi8a => exact (by simp only [List.getElem?_toArray, List.getElem?_cons_succ, List.getElem?_cons_zero]; rfl)
        case hs8a => kernel_rfl
        case hf8a => kernel_rfl
        case hr8a => kernel_rfl
        case hQ8a => exact fun _ _ _ h => h
        case hy8a =>
          refine Or.inl ⟨rfl, ?_⟩
          intro W hSw
          obtain ⟨q0, q1, q2⟩ := hSw
          go_simp
          try with_reducible rfl
        case hS8a => assumption
        try simp only [Act.put, List.setIfInBounds_toArray, List.set_cons_zero, List.set_cons_succ]
        refine wpAnyH_done (by kernel_rfl) ?_ _
        have HBW : Hid (Below w0.heap.size w0 Wa1) := HV.out.2.2.trans (HBa1.out.mono HV.out.2.2.size)
        have HOW : Hid (Wa1.ownsRow w0.heap.size 26 1 (.slice B2 m c2) m (un (miss (l.take k) ys))) := own_blk HV.out.2.1 HBa1.out
        obtain ⟨z1, z2, z3⟩ := HCE.out _ (HBa1.out)
        go_wp2_with fail
        go_roundw
        case rel => exact ⟨k + 1, m, B2, c2, by omega, by go_num, rfl, by rw [HTK.out]; exact HV.out.1, by rw [HTK.out]; exact HOW.out, HBW.out⟩
        case measure => simp [intOf] <;> omega

      · rw [if_neg hp] at HTK
        have HC : Hid (∀ W, Below wr.heap.size wr W → Calls Try.prog 42 #[.slice va vn vc, .int .u32 (x : Int)] W fun r w' => r = .returned (.bool false) ∧ Below W.heap.size W w') := fun W hW => (has_any va vn vc ys x W HLY.out.1 ((HRY.out.after (HV.out.2.2)).after hW) (by have := HLY.out; omega)).mono fun r w' ⟨h1, h2⟩ => ⟨by rw [h1, decide_eq_false hp], by rw [h2]; exact Below.refl _ _⟩
        clear hp
        go_upto_region 5 with (fail)
        have HDb : Hid (Below wr.heap.size wr wr.drew) := HRF.out.drew
        refine wp_region_held_drew (S := fun W : World => W.cell? ⟨X, 1, none⟩ = some (.slice (some ⟨b, o, none⟩) mn mc) ∧ W.cell? ⟨X, 2, none⟩ = some (.slice va vn vc) ∧ W.cell? ⟨b, o + k, none⟩ = some (.int .u32 (x : Int))) (by kernel_rfl) (HCE.out _ (HDb.out)) (fun hHeld => ?_)
        obtain ⟨Wb0, hW0⟩ : ∃ W0, W0 = wr.drew := ⟨_, rfl⟩
        rw [← hW0] at hHeld HDb ⊢
        clear hW0
        refine wpAnyH_take (i := 0) (oi := ?oi0b) (v := ?v0b) ?hi0b ?hs0b ?hf0b ?hr0b ?hQ0b ?hy0b ?hS0b ?h0b
        case hi0b => exact (by simp only [List.getElem?_toArray, List.getElem?_cons_zero]; rfl)
        case hs0b => kernel_rfl
        case hf0b => kernel_rfl
        case hr0b => kernel_rfl
        case hQ0b => exact fun _ _ _ h => h
        case hy0b =>
          refine Or.inl ⟨rfl, ?_⟩
          intro W hSw
          obtain ⟨q0, q1, q2⟩ := hSw
          go_simp
          try with_reducible rfl
        case hS0b => assumption
        try simp only [Act.put, List.setIfInBounds_toArray, List.set_cons_zero, List.set_cons_succ]
        refine wpAnyH_take (i := 1) (oi := ?oi1b) (v := ?v1b) ?hi1b ?hs1b ?hf1b ?hr1b ?hQ1b ?hy1b ?hS1b ?h1b
        case hi1b => exact (by simp only [List.getElem?_toArray, List.getElem?_cons_succ, List.getElem?_cons_zero]; rfl)
        case hs1b => kernel_rfl
        case hf1b => kernel_rfl
        case hr1b => kernel_rfl
        case hQ1b => exact fun _ _ _ h => h
        case hy1b =>
          refine Or.inl ⟨rfl, ?_⟩
          intro W hSw
          obtain ⟨q0, q1, q2⟩ := hSw
          go_simp
          try with_reducible rfl
        case hS1b => assumption
        try simp only [Act.put, List.setIfInBounds_toArray, List.set_cons_zero, List.set_cons_succ]
        refine wpAnyH_take (i := 2) (oi := ?oi2b) (v := ?v2b) ?hi2b ?hs2b ?hf2b ?hr2b ?hQ2b ?hy2b ?hS2b ?h2b
        case hi2b => exact (by simp only [List.getElem?_toArray, List.getElem?_cons_succ, List.getElem?_cons_zero]; rfl)
        case hs2b => kernel_rfl
        case hf2b => kernel_rfl
        case hr2b => kernel_rfl
        case hQ2b => exact fun _ _ _ h => h
        case hy2b =>
          refine Or.inl ⟨rfl, ?_⟩
          intro W hSw
          obtain ⟨q0, q1, q2⟩ := hSw
          go_simp
          try with_reducible rfl
        case hS2b => assumption
        try simp only [Act.put, List.setIfInBounds_toArray, List.set_cons_zero, List.set_cons_succ]
        refine wpAnyH_take (i := 3) (oi := ?oi3b) (v := ?v3b) ?hi3b ?hs3b ?hf3b ?hr3b ?hQ3b ?hy3b ?hS3b ?h3b
        case hi3b => exact (by simp only [List.getElem?_toArray, List.getElem?_cons_succ, List.getElem?_cons_zero]; rfl)
        case hs3b => kernel_rfl
        case hf3b => kernel_rfl
        case hr3b => kernel_rfl
        case hQ3b => exact fun _ _ _ h => h
        case hy3b =>
          refine Or.inl ⟨rfl, ?_⟩
          intro W hSw
          obtain ⟨q0, q1, q2⟩ := hSw
          go_simp
          try with_reducible rfl
        case hS3b => assumption
        try simp only [Act.put, List.setIfInBounds_toArray, List.set_cons_zero, List.set_cons_succ]
        refine wpAnyH_take (i := 4) (oi := ?oi4b) (v := ?v4b) ?hi4b ?hs4b ?hf4b ?hr4b ?hQ4b ?hy4b ?hS4b ?h4b
        case hi4b => exact (by simp only [List.getElem?_toArray, List.getElem?_cons_succ, List.getElem?_cons_zero]; rfl)
        case hs4b => kernel_rfl
        case hf4b => kernel_rfl
        case hr4b => kernel_rfl
        case hQ4b => exact fun _ _ _ h => h
        case hy4b =>
          refine Or.inl ⟨rfl, ?_⟩
          intro W hSw
          obtain ⟨q0, q1, q2⟩ := hSw
          go_simp
          try with_reducible rfl
        case hS4b => assumption
        try simp only [Act.put, List.setIfInBounds_toArray, List.set_cons_zero, List.set_cons_succ]
        refine wpAnyH_take (i := 5) (oi := ?oi5b) (v := ?v5b) ?hi5b ?hs5b ?hf5b ?hr5b ?hQ5b ?hy5b ?hS5b ?h5b
        case hi5b => exact (by simp only [List.getElem?_toArray, List.getElem?_cons_succ, List.getElem?_cons_zero]; rfl)
        case hs5b => kernel_rfl
        case hf5b => kernel_rfl
        case hr5b => kernel_rfl
        case hQ5b => exact fun _ _ _ h => h
        case hy5b =>
          refine Or.inl ⟨rfl, ?_⟩
          intro W hSw
          obtain ⟨q0, q1, q2⟩ := hSw
          go_simp
          try with_reducible rfl
        case hS5b => assumption
        try simp only [Act.put, List.setIfInBounds_toArray, List.set_cons_zero, List.set_cons_succ]
        refine wpAnyH_take (i := 6) (oi := ?oi6b) (v := ?v6b) ?hi6b ?hs6b ?hf6b ?hr6b ?hQ6b ?hy6b ?hS6b ?h6b
        case hi6b => exact (by simp only [List.getElem?_toArray, List.getElem?_cons_succ, List.getElem?_cons_zero]; rfl)
        case hs6b => kernel_rfl
        case hf6b => kernel_rfl
        case hr6b => kernel_rfl
        case hQ6b => exact fun _ _ _ h => h
        case hy6b =>
          refine Or.inl ⟨rfl, ?_⟩
          intro W hSw
          obtain ⟨q0, q1, q2⟩ := hSw
          go_simp
          try with_reducible rfl
        case hS6b => assumption
        try simp only [Act.put, List.setIfInBounds_toArray, List.set_cons_zero, List.set_cons_succ]
        refine wpAnyH_ready (rs := [7]) (by kernel_rfl) (by simp) ?_
        refine AllReadyH.cons (o := _) rfl (fun K hK => ?_) AllReadyH.nil
        go_simp
        refine ((HC.out Wb0 (HDb.out))).mono ?_
        rintro r Wb1 ⟨rfl, hbq⟩
        have HBb1 := Lib.hid (HDb.out.trans (hbq.mono HDb.out.size))
        clear hbq
        refine hK.out _ _ (HCE.out _ (HBb1.out)) (fun hHeld => ?_)
        clear hK K
        try simp only [Act.put, List.setIfInBounds_toArray, List.set_cons_zero, List.set_cons_succ]
        refine wpAnyH_take (i := 8) (oi := ?oi8b) (v := ?v8b) ?hi8b ?hs8b ?hf8b ?hr8b ?hQ8b ?hy8b ?hS8b ?h8b
        case hi8b => exact (by simp only [List.getElem?_toArray, List.getElem?_cons_succ, List.getElem?_cons_zero]; rfl)
        case hs8b => kernel_rfl
        case hf8b => kernel_rfl
        case hr8b => kernel_rfl
        case hQ8b => exact fun _ _ _ h => h
        case hy8b =>
          refine Or.inl ⟨rfl, ?_⟩
          intro W hSw
          obtain ⟨q0, q1, q2⟩ := hSw
          go_simp
          try with_reducible rfl
        case hS8b => assumption
        try simp only [Act.put, List.setIfInBounds_toArray, List.set_cons_zero, List.set_cons_succ]
        refine wpAnyH_done (by kernel_rfl) ?_ _
        have HBW : Hid (Below w0.heap.size w0 Wb1) := HV.out.2.2.trans (HBb1.out.mono HV.out.2.2.size)
        have HOW : Hid (Wb1.ownsRow w0.heap.size 26 1 (.slice B2 m c2) m (un (miss (l.take k) ys))) := own_blk HV.out.2.1 HBb1.out
        obtain ⟨z1, z2, z3⟩ := HCE.out _ (HBb1.out)
        go_wp2_with (at_builtin; refine wpList_append_u32 rfl _ _ rfl w0.heap.size Wb1.heap.size (.slice B2 m c2) m _ x rfl rfl (HOW.out.alloc _) (heap_alloc_new _ _) (by have := HMK.out; omega) (by have := HBW.out.size; simp; omega) ?_; intro v7 w7 hown7 hg7; obtain ⟨A8, c8, rfl⟩ := own_form1 hown7; have HO7 := Lib.hid hown7; have HB7 : Hid (Below w0.heap.size w0 w7) := (HBW.out.alloc HBW.out.size _).grown hg7 (by have := HBW.out.size; simp; omega) (fun g h => (ownlt HOW.out g h).1); clear hown7 hg7)
        go_roundw
        case rel => exact ⟨k + 1, m + 1, A8, c8, by omega, by go_num, rfl, by rw [HTK.out, List.length_append, ← HV.out.1]; rfl, by rw [HTK.out, un_snoc]; exact HO7.out, HB7.out⟩
        case measure => simp [intOf] <;> omega

    · obtain rfl : k = mn := by omega
      have HF : Hid (l.take k = l) := List.take_of_length_le (by rw [← HLA.out.1]; exact Nat.le_refl _)
      have hm : m = (miss l ys).length := by have := HV.out.1; rw [HF.out] at this; exact this
      have HOF : Hid (wr.ownsRow w.heap.size 26 1 (.slice B2 m c2) m (un (miss l ys))) := own_base' (by have := HV.out.2.1; rw [HF.out] at this; exact this) HB0.out.size
      have HBF : Hid (Below w.heap.size w wr) := HB0.out.trans (HV.out.2.2.mono HB0.out.size)
      have HM := Lib.hid hm
      clear hm
      go_wp2_with fail
      go_ret
      exact ⟨B2, c2, by first | (rw [← HM.out]; rfl) | (rw [← HM.out]), by rw [← HM.out]; exact HOF.out, HBF.out⟩
end Go.Proofs.Ytemjmnpclknfaaa.P
