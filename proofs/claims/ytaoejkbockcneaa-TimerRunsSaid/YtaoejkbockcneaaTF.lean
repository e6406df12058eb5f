/- Timer: the document's First and Due; a timer as the program's. -/
import Derived.Test.YtaoejkbockcneaaTE
namespace Go.Proofs.Ytaoejkbockcneaa
open Go.RowKit
set_option maxRecDepth 20000

abbrev Ris (L : List It) : Prop := L.Pairwise (fun a b => a.2.2.2.2 < b.2.2.2.2)
theorem IsT.ris {w : World} {B0 Q M tn : Nat} {L : List It} (h : IsT w B0 Q M tn L) : Ris L := by
  obtain ⟨v0, hp, D, cnt, _, _, _, _, _, _, _, _, _, hA⟩ := h
  exact hA
theorem min_one {L : List It} (hs : Ris L) {e e' : It} (he : e ∈ L) (he' : e' ∈ L) (h : lt e e' = false) (h' : lt e' e = false) : e = e' := by
  rw [lt_iff'] at h h'
  have ht : e.2.2.2.2 = e'.2.2.2.2 := by omega
  obtain ⟨i, hi⟩ := List.getElem?_of_mem he
  obtain ⟨j, hj⟩ := List.getElem?_of_mem he'
  obtain ⟨hil, hie⟩ := List.getElem?_eq_some_iff.1 hi
  obtain ⟨hjl, hje⟩ := List.getElem?_eq_some_iff.1 hj
  have hp := List.pairwise_iff_getElem.1 hs
  rcases Nat.lt_trichotomy i j with h1 | h1 | h1
  · have := hp i j hil hjl h1
    rw [hie, hje] at this
    omega
  · subst h1
    rw [hi] at hj
    injection hj
  · have := hp j i hjl hil h1
    rw [hie, hje] at this
    omega
theorem ris_take {L : List It} (hs : Ris L) {i : Nat} {y e : It} (hy : L[i]? = some y) (he : e ∈ L.take i) : e.2.2.2.2 < y.2.2.2.2 := by
  obtain ⟨j, hj⟩ := List.getElem?_of_mem he
  rw [List.getElem?_take] at hj
  split at hj
  · obtain ⟨hil, hie⟩ := List.getElem?_eq_some_iff.1 hy
    obtain ⟨hjl, hje⟩ := List.getElem?_eq_some_iff.1 hj
    have := List.pairwise_iff_getElem.1 hs j i hjl hil (by omega)
    rw [hie, hje] at this
    exact this
  · cases hj

set_option linter.unusedSimpArgs false in
set_option maxHeartbeats 4000000 in
theorem own_any (k : Int) (x : Nat) (a : Int) (w : World) : Calls Try.prog 19 #[tV k x a] w fun r w' => r = .returned (tV k x a) ∧ Below w.heap.size w w' := by
  have hb : Below w.heap.size w ((w.alloc (.cells #[.int .i64 k, .int .u32 (x : Int), .int .i64 a] 38)).alloc (.cells #[.int .i64 k, .int .u32 (x : Int), .int .i64 a] 35)) := ((Below.refl _ _).alloc (Nat.le_refl _) _).alloc (by simp) _
  have HB := Lib.hid hb
  have hq := heap_alloc_new (w.alloc (.cells #[.int .i64 k, .int .u32 (x : Int), .int .i64 a] 38)) (.cells #[.int .i64 k, .int .u32 (x : Int), .int .i64 a] 35)
  rw [World.size_alloc] at hq
  have e0 := cell_of_row _ (w.heap.size + 1) 0 _ _ _ hq
  have e1 := cell_of_row _ (w.heap.size + 1) 1 _ _ _ hq
  have e2 := cell_of_row _ (w.heap.size + 1) 2 _ _ _ hq
  simp at e0 e1 e2
  clear hb hq
  go_enter Try.func19, Try.ntmps19
  go_wp2
  exact bodyPost_ret (v := tV k x a) (by simp [results, Try.results19, go_sem, e0, e1, e2]) rfl ⟨rfl, HB.out⟩

set_option linter.unusedSimpArgs false in
set_option maxHeartbeats 4000000 in
theorem rfirst_nil (A : Option Addr) (c : Nat) (w : World) : Calls Try.prog 23 #[.slice A 0 c] w fun r w' => r = .returned (.tuple #[tV 0 0 0, .bool false]) ∧ Below w.heap.size w w' := by
  have hb : Below w.heap.size w (w.alloc (.cells #[.int .i64 0, .int .u32 0, .int .i64 0] 38)) := (Below.refl _ _).alloc (Nat.le_refl _) _
  have hq := heap_alloc_new w (.cells #[.int .i64 0, .int .u32 0, .int .i64 0] 38)
  have e0 := cell_of_row _ w.heap.size 0 _ _ _ hq
  have e1 := cell_of_row _ w.heap.size 1 _ _ _ hq
  have e2 := cell_of_row _ w.heap.size 2 _ _ _ hq
  simp at e0 e1 e2
  clear hq
  go_enter Try.func23, Try.ntmps23
  go_wp2
  exact bodyPost_ret (v := .tuple #[tV 0 0 0, .bool false]) (by simp [results, Try.results23, go_sem, e0, e1, e2]) rfl ⟨rfl, hb⟩

theorem cells3 {W : World} {G T : Nat} {u0 u1 u2 : Value} {k x a : Value} (hG : W.heap[G]? = some (.cells #[u0, u1, u2] T (0, 0))) :
    (((W.setCell ⟨G, 0, none⟩ k).setCell ⟨G, 1, none⟩ x).setCell ⟨G, 2, none⟩ a).heap[G]? = some (.cells #[k, x, a] T (0, 0)) := by
  have g1 := heap_setCell_same W G 0 _ T k hG
  have g2 := heap_setCell_same _ G 1 _ T x g1
  have g3 := heap_setCell_same _ G 2 _ T a g2
  simpa using g3
theorem keep3 {W : World} {G : Nat} {k x a : Value} (g : Nat) (hg : g ≠ G) : (((W.setCell ⟨G, 0, none⟩ k).setCell ⟨G, 1, none⟩ x).setCell ⟨G, 2, none⟩ a).heap[g]? = W.heap[g]? :=
  (Below.heap_setCell _ _ _ _ hg).trans ((Below.heap_setCell _ _ _ _ hg).trans (Below.heap_setCell _ _ _ _ hg))
set_option linter.unusedSimpArgs false in
set_option maxHeartbeats 8000000 in
theorem rfirst_some (A : Option Addr) (n c : Nat) (L : List It) (m : It) (w : World) (hn : n = L.length) (hR : Rt w w.heap.size A L) (hl : n ≤ 900) (hs : Ris L) (hm : m ∈ L) (hmin : ∀ y ∈ L, lt y m = false) :
    Calls Try.prog 23 #[.slice A n c] w fun r w' => r = .returned (.tuple #[tV m.2.1 m.2.2.1 m.2.2.2.1, .bool true]) ∧ Below w.heap.size w w' := by
  have hL0 : 0 < L.length := List.length_pos_of_mem hm
  obtain ⟨e0, he0⟩ : ∃ e, L[0]? = some e := ⟨L[0]'hL0, List.getElem?_eq_getElem _⟩
  obtain ⟨b1, o1, rfl, hb1, ha1⟩ := hR hL0
  have HAT : Hid (∀ (i : Nat) (e : It), L[i]? = some e → w.cell? ⟨b1, o1 + i * 3, none⟩ = some (.int .i64 e.2.1) ∧ w.cell? ⟨b1, o1 + i * 3 + 1, none⟩ = some (.int .u32 (e.2.2.1 : Int)) ∧ w.cell? ⟨b1, o1 + i * 3 + 2, none⟩ = some (.int .i64 e.2.2.2.1)) := ha1
  have HB1 := Lib.hid hb1
  obtain ⟨T2, hT2⟩ : ∃ T2, T2 = w.heap.size := ⟨_, rfl⟩
  obtain ⟨T4, hT4⟩ : ∃ T4, T4 = w.heap.size + 1 := ⟨_, rfl⟩
  obtain ⟨w0, hw0⟩ : ∃ w0, w0 = (w.alloc (.cells #[.int .i64 0, .int .u32 0, .int .i64 0] 38)).alloc (.cells #[.int .i64 e0.2.1, .int .u32 (e0.2.2.1 : Int), .int .i64 e0.2.2.2.1] 38) := ⟨_, rfl⟩
  have hb0 : Below w.heap.size w w0 := by rw [hw0]; exact ((Below.refl _ _).alloc (Nat.le_refl _) _).alloc (by simp) _
  have hr2 : w0.heap[T2]? = some (.cells #[.int .i64 0, .int .u32 0, .int .i64 0] 38 (0, 0)) := by
    rw [hw0, hT2]
    exact (Below.heap_alloc _ _ _ (by simp)).trans (heap_alloc_new w _)
  have hr4 : w0.heap[T4]? = some (.cells #[.int .i64 e0.2.1, .int .u32 (e0.2.2.1 : Int), .int .i64 e0.2.2.2.1] 38 (0, 0)) := by
    have h := heap_alloc_new (w.alloc (.cells #[.int .i64 0, .int .u32 0, .int .i64 0] 38)) (.cells #[.int .i64 e0.2.1, .int .u32 (e0.2.2.1 : Int), .int .i64 e0.2.2.2.1] 38)
    rw [World.size_alloc] at h
    rw [hw0, hT4]
    exact h
  have f0 := (ha1 0 e0 he0).1
  have f1 := (ha1 0 e0 he0).2.1
  have f2 := (ha1 0 e0 he0).2.2
  simp only [Nat.zero_mul, Nat.add_zero] at f0 f1 f2
  have HX : Hid (∀ W, Below w.heap.size w W → ∀ (i : Nat) (e : It), L[i]? = some e → W.cell? ⟨b1, o1 + i * 3, none⟩ = some (.int .i64 e.2.1) ∧ W.cell? ⟨b1, o1 + i * 3 + 1, none⟩ = some (.int .u32 (e.2.2.1 : Int)) ∧ W.cell? ⟨b1, o1 + i * 3 + 2, none⟩ = some (.int .i64 e.2.2.2.1)) := fun W hW i e he => ⟨(hW.cell (p := ⟨b1, _, none⟩) HB1.out).trans (HAT.out i e he).1, (hW.cell (p := ⟨b1, _, none⟩) HB1.out).trans (HAT.out i e he).2.1, (hW.cell (p := ⟨b1, _, none⟩) HB1.out).trans (HAT.out i e he).2.2⟩
  have g0 := (hb0.cell (p := ⟨b1, _, none⟩) hb1).trans f0
  have HST : Hid (e0 ∈ L.take 1 ∧ ∀ y ∈ L.take 1, lt y e0 = false) := by
    have h1 : L.take 1 = [e0] := by
      have := List.take_add_one (l := L) (i := 0)
      rw [he0] at this
      simpa using this
    rw [h1]
    exact ⟨by simp, fun y hy => by
      simp at hy
      subst hy
      rw [lt_iff']
      omega⟩
  have HN := Lib.hid hn
  have HM := Lib.hid (And.intro hm hmin)
  have HSR := Lib.hid hs
  have HT := Lib.hid (And.intro hT2 hT4)
  have HB0 := Lib.hid hb0
  have HR2 := Lib.hid hr2
  have HR4 := Lib.hid hr4
  have H0 := Lib.hid hw0
  have hn0 : 0 < n := by omega
  have hn1 : ¬ (n : Int) = 0 := by omega
  have hneq : T2 ≠ T4 := by omega
  have p0 : (w.alloc (.cells #[.int .i64 0, .int .u32 0, .int .i64 0] 38)).cell? ⟨b1, o1, none⟩ = some (.int .i64 e0.2.1) := by rw [World.cell?_alloc_lt _ _ _ hb1]; exact f0
  have p1 : (w.alloc (.cells #[.int .i64 0, .int .u32 0, .int .i64 0] 38)).cell? ⟨b1, o1 + 1, none⟩ = some (.int .u32 (e0.2.2.1 : Int)) := by rw [World.cell?_alloc_lt _ _ _ hb1]; exact f1
  have p2 : (w.alloc (.cells #[.int .i64 0, .int .u32 0, .int .i64 0] 38)).cell? ⟨b1, o1 + 2, none⟩ = some (.int .i64 e0.2.2.2.1) := by rw [World.cell?_alloc_lt _ _ _ hb1]; exact f2
  clear hm hmin hs hr2 hr4 hb0 hw0 hn hL0 he0 hb1 ha1 hR g0
  go_enter Try.func23, Try.ntmps23
  go_upto_region 4 with (fail)
  rw [← H0.out, ← hT4, ← hT2]
  clear hT2 hT4 f0 f1 f2 p0 p1 p2
  go_wp2_with fail
  go_loopw [5] (fun u wr => ∃ (i : Nat) (e : It), 1 ≤ i ∧ i ≤ n ∧ u = .int .i64 (i : Int) ∧ Hid (Below w.heap.size w wr ∧ wr.heap[T2]? = some (.cells #[.int .i64 0, .int .u32 0, .int .i64 0] 38 (0, 0)) ∧ wr.heap[T4]? = some (.cells #[.int .i64 e.2.1, .int .u32 (e.2.2.1 : Int), .int .i64 e.2.2.2.1] 38 (0, 0))) ∧ Hid (e ∈ L.take i ∧ ∀ y ∈ L.take i, lt y e = false)) (fun u _ => n - (intOf u).toNat)
  case atStart => exact ⟨1, e0, by omega, by omega, rfl, ⟨HB0.out, HR2.out, HR4.out⟩, HST⟩
  case round =>
    obtain ⟨i, e, hi1, hi, rfl, HV, HE⟩ := hrel
    by_cases hlt : i < n
    · obtain ⟨y, hy⟩ : ∃ y, L[i]? = some y := ⟨L[i]'(by rw [← HN.out]; exact hlt), List.getElem?_eq_getElem _⟩
      have d0 := (HX.out wr HV.out.1 i y hy).1
      have d1 := (HX.out wr HV.out.1 i y hy).2.1
      have d2 := (HX.out wr HV.out.1 i y hy).2.2
      have c2 := cell_of_row wr T4 2 _ _ _ HV.out.2.2
      simp at c2
      have HTK : Hid (L.take (i + 1) = L.take i ++ [y]) := by simp only [Hid]; rw [List.take_add_one, hy]; rfl
      have htn := ris_take HSR.out hy HE.out.1
      have HY := Lib.hid hy
      have HTN := Lib.hid htn
      clear hy htn
      by_cases hyl : y.2.2.2.1 < e.2.2.2.1
      · have HE2 : Hid (y ∈ L.take (i + 1) ∧ ∀ z ∈ L.take (i + 1), lt z y = false) := by
          simp only [Hid]
          rw [HTK.out]
          refine ⟨by simp, fun z hz => ?_⟩
          rcases List.mem_append.1 hz with hz | hz
          · exact ge_lt (HE.out.2 z hz) ((lt_iff _ _).2 (.inl hyl))
          · simp at hz
            subst hz
            rw [lt_iff']
            omega
        go_upto_region 7 with (fail)
        have HSW : Hid ((fun W : World => W.cell? ⟨b1, o1 + i * 3 + 2, none⟩ = some (.int .i64 y.2.2.2.1) ∧ W.cell? ⟨T4, 2, none⟩ = some (.int .i64 e.2.2.2.1)) wr.drew) := ⟨d2, c2⟩
        refine wp_region_held_drew (S := fun W : World => W.cell? ⟨b1, o1 + i * 3 + 2, none⟩ = some (.int .i64 y.2.2.2.1) ∧ W.cell? ⟨T4, 2, none⟩ = some (.int .i64 e.2.2.2.1)) (by kernel_rfl) HSW.out (fun hHeld => ?_)
        obtain ⟨w2, hw2⟩ : ∃ w2, w2 = wr.drew := ⟨_, rfl⟩
        rw [← hw2] at hHeld ⊢
        have HB2 : Hid (Below w.heap.size w w2) := by rw [hw2]; exact HV.out.1.drew
        have HK2 : Hid (∀ g : Nat, w2.heap[g]? = wr.heap[g]?) := fun g => by rw [hw2]; rfl
        clear hw2
        refine wpAnyH_take (i := 0) (oi := ?oi0a) (v := ?v0a) ?hi0a ?hs0a ?hf0a ?hr0a ?hQ0a ?hy0a ?hS0a ?h0a
        case hi0a => exact (by simp only [List.getElem?_toArray, List.getElem?_cons_zero]; rfl)
        case hs0a => kernel_rfl
        case hf0a => kernel_rfl
        case hr0a => kernel_rfl
        case hQ0a => exact fun _ _ _ h => h
        case hy0a =>
          refine Or.inl ⟨rfl, ?_⟩
          intro W hSw
          obtain ⟨y0, y1⟩ := hSw
          go_simp
          try with_reducible rfl
        case hS0a => assumption
        try simp only [Act.put, List.setIfInBounds_toArray, List.set_cons_zero, List.set_cons_succ]
        refine wpAnyH_take (i := 1) (oi := ?oi1a) (v := ?v1a) ?hi1a ?hs1a ?hf1a ?hr1a ?hQ1a ?hy1a ?hS1a ?h1a
        case hi1a => exact (by simp only [List.getElem?_toArray, List.getElem?_cons_succ, List.getElem?_cons_zero]; rfl)
        case hs1a => kernel_rfl
        case hf1a => kernel_rfl
        case hr1a => kernel_rfl
        case hQ1a => exact fun _ _ _ h => h
        case hy1a =>
          refine Or.inl ⟨rfl, ?_⟩
          intro W hSw
          obtain ⟨y0, y1⟩ := hSw
          go_simp
          try with_reducible rfl
        case hS1a => assumption
        try simp only [Act.put, List.setIfInBounds_toArray, List.set_cons_zero, List.set_cons_succ]
        refine wpAnyH_take (i := 2) (oi := ?oi2a) (v := ?v2a) ?hi2a ?hs2a ?hf2a ?hr2a ?hQ2a ?hy2a ?hS2a ?h2a
        case hi2a => exact (by simp only [List.getElem?_toArray, List.getElem?_cons_succ, List.getElem?_cons_zero]; rfl)
        case hs2a => kernel_rfl
        case hf2a => kernel_rfl
        case hr2a => kernel_rfl
        case hQ2a => exact fun _ _ _ h => h
        case hy2a =>
          refine Or.inl ⟨rfl, ?_⟩
          intro W hSw
          obtain ⟨y0, y1⟩ := hSw
          go_simp
          try with_reducible rfl
        case hS2a => assumption
        try simp only [Act.put, List.setIfInBounds_toArray, List.set_cons_zero, List.set_cons_succ]
        refine wpAnyH_take (i := 3) (oi := ?oi3a) (v := ?v3a) ?hi3a ?hs3a ?hf3a ?hr3a ?hQ3a ?hy3a ?hS3a ?h3a
        case hi3a => exact (by simp only [List.getElem?_toArray, List.getElem?_cons_succ, List.getElem?_cons_zero]; rfl)
        case hs3a => kernel_rfl
        case hf3a => kernel_rfl
        case hr3a => kernel_rfl
        case hQ3a => exact fun _ _ _ h => h
        case hy3a =>
          refine Or.inl ⟨rfl, ?_⟩
          intro W hSw
          obtain ⟨y0, y1⟩ := hSw
          go_simp
          try with_reducible rfl
        case hS3a => assumption
        try simp only [Act.put, List.setIfInBounds_toArray, List.set_cons_zero, List.set_cons_succ]
        refine wpAnyH_take (i := 4) (oi := ?oi4a) (v := ?v4a) ?hi4a ?hs4a ?hf4a ?hr4a ?hQ4a ?hy4a ?hS4a ?h4a
        case hi4a => exact (by simp only [List.getElem?_toArray, List.getElem?_cons_succ, List.getElem?_cons_zero]; rfl)
        case hs4a => kernel_rfl
        case hf4a => kernel_rfl
        case hr4a => kernel_rfl
        case hQ4a => exact fun _ _ _ h => h
        case hy4a =>
          refine Or.inl ⟨rfl, ?_⟩
          intro W hSw
          obtain ⟨y0, y1⟩ := hSw
          go_simp
          try with_reducible rfl
        case hS4a => assumption
        try simp only [Act.put, List.setIfInBounds_toArray, List.set_cons_zero, List.set_cons_succ]
        refine wpAnyH_take (i := 5) (oi := ?oi5a) (v := ?v5a) ?hi5a ?hs5a ?hf5a ?hr5a ?hQ5a ?hy5a ?hS5a ?h5a
        case hi5a => exact (by simp only [List.getElem?_toArray, List.getElem?_cons_succ, List.getElem?_cons_zero]; rfl)
        case hs5a => kernel_rfl
        case hf5a => kernel_rfl
        case hr5a => kernel_rfl
        case hQ5a => exact fun _ _ _ h => h
        case hy5a =>
          refine Or.inl ⟨rfl, ?_⟩
          intro W hSw
          obtain ⟨y0, y1⟩ := hSw
          go_simp
          try with_reducible rfl
        case hS5a => assumption
        try simp only [Act.put, List.setIfInBounds_toArray, List.set_cons_zero, List.set_cons_succ]
        refine wpAnyH_take (i := 6) (oi := ?oi6a) (v := ?v6a) ?hi6a ?hs6a ?hf6a ?hr6a ?hQ6a ?hy6a ?hS6a ?h6a
        case hi6a => exact (by simp only [List.getElem?_toArray, List.getElem?_cons_succ, List.getElem?_cons_zero]; rfl)
        case hs6a => kernel_rfl
        case hf6a => kernel_rfl
        case hr6a => kernel_rfl
        case hQ6a => exact fun _ _ _ h => h
        case hy6a =>
          refine Or.inl ⟨rfl, ?_⟩
          intro W hSw
          obtain ⟨y0, y1⟩ := hSw
          go_simp
          try with_reducible rfl
        case hS6a => assumption
        try simp only [Act.put, List.setIfInBounds_toArray, List.set_cons_zero, List.set_cons_succ]
        refine wpAnyH_take (i := 7) (oi := ?oi7a) (v := (.bool true)) ?hi7a ?hs7a ?hf7a ?hr7a ?hQ7a ?hy7a ?hS7a ?h7a
        case hi7a => exact (by simp only [List.getElem?_toArray, List.getElem?_cons_succ, List.getElem?_cons_zero]; rfl)
        case hs7a => kernel_rfl
        case hf7a => kernel_rfl
        case hr7a => kernel_rfl
        case hQ7a => exact fun _ _ _ h => h
        case hy7a =>
          refine Or.inl ⟨rfl, ?_⟩
          intro W hSw
          obtain ⟨y0, y1⟩ := hSw
          go_simp
          all_goals first | with_reducible rfl | (simp; done) | (simp; omega) | (simp [hyl]; done)
        case hS7a => assumption
        try simp only [Act.put, List.setIfInBounds_toArray, List.set_cons_zero, List.set_cons_succ]
        refine wpAnyH_done (by kernel_rfl) ?_ _
        obtain ⟨x0, x1, x2⟩ := HX.out w2 HB2.out i y HY.out
        have hr4 := (HK2.out T4).trans HV.out.2.2
        have hr2 := (HK2.out T2).trans HV.out.2.1
        have g0 := cell_of_row w2 T4 0 _ _ _ hr4
        have g1 := cell_of_row w2 T4 1 _ _ _ hr4
        have g2 := cell_of_row w2 T4 2 _ _ _ hr4
        have gf : ∀ i, w2.frozen? ⟨T4, i, none⟩ = false := fun i => frozen_of_row w2 _ i _ _ hr4
        simp at g0 g1 g2
        have HW3 : Hid (Below w.heap.size w (((w2.setCell ⟨T4, 0, none⟩ (.int .i64 y.2.1)).setCell ⟨T4, 1, none⟩ (.int .u32 (y.2.2.1 : Int))).setCell ⟨T4, 2, none⟩ (.int .i64 y.2.2.2.1)) ∧ (((w2.setCell ⟨T4, 0, none⟩ (.int .i64 y.2.1)).setCell ⟨T4, 1, none⟩ (.int .u32 (y.2.2.1 : Int))).setCell ⟨T4, 2, none⟩ (.int .i64 y.2.2.2.1)).heap[T2]? = some (.cells #[.int .i64 0, .int .u32 0, .int .i64 0] 38 (0, 0)) ∧ (((w2.setCell ⟨T4, 0, none⟩ (.int .i64 y.2.1)).setCell ⟨T4, 1, none⟩ (.int .u32 (y.2.2.1 : Int))).setCell ⟨T4, 2, none⟩ (.int .i64 y.2.2.2.1)).heap[T4]? = some (.cells #[.int .i64 y.2.1, .int .u32 (y.2.2.1 : Int), .int .i64 y.2.2.2.1] 38 (0, 0))) := by
          have hT := HT.out.2
          exact ⟨((HB2.out.setCell (by show w.heap.size ≤ T4; omega) _).setCell (by show w.heap.size ≤ T4; omega) _).setCell (by show w.heap.size ≤ T4; omega) _, (keep3 T2 hneq).trans hr2, cells3 hr4⟩
        clear hr4 hr2 d0 d1 d2 c2
        go_wp2
        go_roundw
        case rel => exact ⟨i + 1, y, by omega, by omega, by go_num, HW3.out, HE2.out⟩
        case measure => simp [intOf] <;> omega
      · have HE2 : Hid (e ∈ L.take (i + 1) ∧ ∀ z ∈ L.take (i + 1), lt z e = false) := by
          simp only [Hid]
          rw [HTK.out]
          refine ⟨List.mem_append.2 (.inl HE.out.1), fun z hz => ?_⟩
          rcases List.mem_append.1 hz with hz | hz
          · exact HE.out.2 z hz
          · simp at hz
            subst hz
            rw [lt_iff']
            have := HTN.out
            omega
        go_upto_region 7 with (fail)
        have HSW : Hid ((fun W : World => W.cell? ⟨b1, o1 + i * 3 + 2, none⟩ = some (.int .i64 y.2.2.2.1) ∧ W.cell? ⟨T4, 2, none⟩ = some (.int .i64 e.2.2.2.1)) wr.drew) := ⟨d2, c2⟩
        refine wp_region_held_drew (S := fun W : World => W.cell? ⟨b1, o1 + i * 3 + 2, none⟩ = some (.int .i64 y.2.2.2.1) ∧ W.cell? ⟨T4, 2, none⟩ = some (.int .i64 e.2.2.2.1)) (by kernel_rfl) HSW.out (fun hHeld => ?_)
        obtain ⟨w2, hw2⟩ : ∃ w2, w2 = wr.drew := ⟨_, rfl⟩
        rw [← hw2] at hHeld ⊢
        have HB2 : Hid (Below w.heap.size w w2) := by rw [hw2]; exact HV.out.1.drew
        have HK2 : Hid (∀ g : Nat, w2.heap[g]? = wr.heap[g]?) := fun g => by rw [hw2]; rfl
        clear hw2
        refine wpAnyH_take (i := 0) (oi := ?oi0b) (v := ?v0b) ?hi0b ?hs0b ?hf0b ?hr0b ?hQ0b ?hy0b ?hS0b ?h0b
        case hi0b => exact (by simp only [List.getElem?_toArray, List.getElem?_cons_zero]; rfl)
        case hs0b => kernel_rfl
        case hf0b => kernel_rfl
        case hr0b => kernel_rfl
        case hQ0b => exact fun _ _ _ h => h
        case hy0b =>
          refine Or.inl ⟨rfl, ?_⟩
          intro W hSw
          obtain ⟨y0, y1⟩ := hSw
          go_simp
          try with_reducible rfl
        case hS0b => assumption
        try simp only [Act.put, List.setIfInBounds_toArray, List.set_cons_zero, List.set_cons_succ]
        refine wpAnyH_take (i := 1) (oi := ?oi1b) (v := ?v1b) ?hi1b ?hs1b ?hf1b ?hr1b ?hQ1b ?hy1b ?hS1b ?h1b
        case hi1b => exact (by simp only [List.getElem?_toArray, List.getElem?_cons_succ, List.getElem?_cons_zero]; rfl)
        case hs1b => kernel_rfl
        case hf1b => kernel_rfl
        case hr1b => kernel_rfl
        case hQ1b => exact fun _ _ _ h => h
        case hy1b =>
          refine Or.inl ⟨rfl, ?_⟩
          intro W hSw
          obtain ⟨y0, y1⟩ := hSw
          go_simp
          try with_reducible rfl
        case hS1b => assumption
        try simp only [Act.put, List.setIfInBounds_toArray, List.set_cons_zero, List.set_cons_succ]
        refine wpAnyH_take (i := 2) (oi := ?oi2b) (v := ?v2b) ?hi2b ?hs2b ?hf2b ?hr2b ?hQ2b ?hy2b ?hS2b ?h2b
        case hi2b => exact (by simp only [List.getElem?_toArray, List.getElem?_cons_succ, List.getElem?_cons_zero]; rfl)
        case hs2b => kernel_rfl
        case hf2b => kernel_rfl
        case hr2b => kernel_rfl
        case hQ2b => exact fun _ _ _ h => h
        case hy2b =>
          refine Or.inl ⟨rfl, ?_⟩
          intro W hSw
          obtain ⟨y0, y1⟩ := hSw
          go_simp
          try with_reducible rfl
        case hS2b => assumption
        try simp only [Act.put, List.setIfInBounds_toArray, List.set_cons_zero, List.set_cons_succ]
        refine wpAnyH_take (i := 3) (oi := ?oi3b) (v := ?v3b) ?hi3b ?hs3b ?hf3b ?hr3b ?hQ3b ?hy3b ?hS3b ?h3b
        case hi3b => exact (by simp only [List.getElem?_toArray, List.getElem?_cons_succ, List.getElem?_cons_zero]; rfl)
        case hs3b => kernel_rfl
        case hf3b => kernel_rfl
        case hr3b => kernel_rfl
        case hQ3b => exact fun _ _ _ h => h
        case hy3b =>
          refine Or.inl ⟨rfl, ?_⟩
          intro W hSw
          obtain ⟨y0, y1⟩ := hSw
          go_simp
          try with_reducible rfl
        case hS3b => assumption
        try simp only [Act.put, List.setIfInBounds_toArray, List.set_cons_zero, List.set_cons_succ]
        refine wpAnyH_take (i := 4) (oi := ?oi4b) (v := ?v4b) ?hi4b ?hs4b ?hf4b ?hr4b ?hQ4b ?hy4b ?hS4b ?h4b
        case hi4b => exact (by simp only [List.getElem?_toArray, List.getElem?_cons_succ, List.getElem?_cons_zero]; rfl)
        case hs4b => kernel_rfl
        case hf4b => kernel_rfl
        case hr4b => kernel_rfl
        case hQ4b => exact fun _ _ _ h => h
        case hy4b =>
          refine Or.inl ⟨rfl, ?_⟩
          intro W hSw
          obtain ⟨y0, y1⟩ := hSw
          go_simp
          try with_reducible rfl
        case hS4b => assumption
        try simp only [Act.put, List.setIfInBounds_toArray, List.set_cons_zero, List.set_cons_succ]
        refine wpAnyH_take (i := 5) (oi := ?oi5b) (v := ?v5b) ?hi5b ?hs5b ?hf5b ?hr5b ?hQ5b ?hy5b ?hS5b ?h5b
        case hi5b => exact (by simp only [List.getElem?_toArray, List.getElem?_cons_succ, List.getElem?_cons_zero]; rfl)
        case hs5b => kernel_rfl
        case hf5b => kernel_rfl
        case hr5b => kernel_rfl
        case hQ5b => exact fun _ _ _ h => h
        case hy5b =>
          refine Or.inl ⟨rfl, ?_⟩
          intro W hSw
          obtain ⟨y0, y1⟩ := hSw
          go_simp
          try with_reducible rfl
        case hS5b => assumption
        try simp only [Act.put, List.setIfInBounds_toArray, List.set_cons_zero, List.set_cons_succ]
        refine wpAnyH_take (i := 6) (oi := ?oi6b) (v := ?v6b) ?hi6b ?hs6b ?hf6b ?hr6b ?hQ6b ?hy6b ?hS6b ?h6b
        case hi6b => exact (by simp only [List.getElem?_toArray, List.getElem?_cons_succ, List.getElem?_cons_zero]; rfl)
        case hs6b => kernel_rfl
        case hf6b => kernel_rfl
        case hr6b => kernel_rfl
        case hQ6b => exact fun _ _ _ h => h
        case hy6b =>
          refine Or.inl ⟨rfl, ?_⟩
          intro W hSw
          obtain ⟨y0, y1⟩ := hSw
          go_simp
          try with_reducible rfl
        case hS6b => assumption
        try simp only [Act.put, List.setIfInBounds_toArray, List.set_cons_zero, List.set_cons_succ]
        refine wpAnyH_take (i := 7) (oi := ?oi7b) (v := (.bool false)) ?hi7b ?hs7b ?hf7b ?hr7b ?hQ7b ?hy7b ?hS7b ?h7b
        case hi7b => exact (by simp only [List.getElem?_toArray, List.getElem?_cons_succ, List.getElem?_cons_zero]; rfl)
        case hs7b => kernel_rfl
        case hf7b => kernel_rfl
        case hr7b => kernel_rfl
        case hQ7b => exact fun _ _ _ h => h
        case hy7b =>
          refine Or.inl ⟨rfl, ?_⟩
          intro W hSw
          obtain ⟨y0, y1⟩ := hSw
          go_simp
          all_goals first | with_reducible rfl | (simp; done) | (simp; omega) | (simp [hyl]; done)
        case hS7b => assumption
        try simp only [Act.put, List.setIfInBounds_toArray, List.set_cons_zero, List.set_cons_succ]
        refine wpAnyH_done (by kernel_rfl) ?_ _
        have HW3 : Hid (Below w.heap.size w w2 ∧ w2.heap[T2]? = some (.cells #[.int .i64 0, .int .u32 0, .int .i64 0] 38 (0, 0)) ∧ w2.heap[T4]? = some (.cells #[.int .i64 e.2.1, .int .u32 (e.2.2.1 : Int), .int .i64 e.2.2.2.1] 38 (0, 0))) := ⟨HB2.out, (HK2.out T2).trans HV.out.2.1, (HK2.out T4).trans HV.out.2.2⟩
        clear d0 d1 d2 c2
        go_wp2
        go_roundw
        case rel => exact ⟨i + 1, e, by omega, by omega, by go_num, HW3.out, HE2.out⟩
        case measure => simp [intOf] <;> omega
    · have hkn : i = n := by omega
      have HEM : Hid (e = m) := by
        have h1 := HE.out
        rw [hkn, HN.out, List.take_length] at h1
        exact min_one HSR.out h1.1 HM.out.1 (HM.out.2 e h1.1) (h1.2 m HM.out.1)
      have hv2 := HV.out.2.1
      have hv4 := HV.out.2.2
      rw [HEM.out] at hv4
      have g0 := cell_of_row wr T4 0 _ _ _ hv4
      have g1 := cell_of_row wr T4 1 _ _ _ hv4
      have g2 := cell_of_row wr T4 2 _ _ _ hv4
      have gf : ∀ i, wr.frozen? ⟨T4, i, none⟩ = false := fun i => frozen_of_row wr _ i _ _ hv4
      simp at g0 g1 g2
      have x0 := cell_of_row wr T2 0 _ _ _ hv2
      have x1 := cell_of_row wr T2 1 _ _ _ hv2
      have x2 := cell_of_row wr T2 2 _ _ _ hv2
      have xf : ∀ i, wr.frozen? ⟨T2, i, none⟩ = false := fun i => frozen_of_row wr _ i _ _ hv2
      simp at x0 x1 x2
      have hc3 := cells3 (k := .int .i64 m.2.1) (x := .int .u32 (m.2.2.1 : Int)) (a := .int .i64 m.2.2.2.1) hv2
      have z0 := cell_of_row _ T2 0 _ _ _ hc3
      have z1 := cell_of_row _ T2 1 _ _ _ hc3
      have z2 := cell_of_row _ T2 2 _ _ _ hc3
      simp at z0 z1 z2
      have HBF : Hid (Below w.heap.size w (((wr.setCell ⟨T2, 0, none⟩ (.int .i64 m.2.1)).setCell ⟨T2, 1, none⟩ (.int .u32 (m.2.2.1 : Int))).setCell ⟨T2, 2, none⟩ (.int .i64 m.2.2.2.1))) := by
        have hT := HT.out.1
        exact ((HV.out.1.setCell (by show w.heap.size ≤ T2; omega) _).setCell (by show w.heap.size ≤ T2; omega) _).setCell (by show w.heap.size ≤ T2; omega) _
      clear hc3 hv2 hv4
      go_wp2
      exact bodyPost_ret (v := .tuple #[tV m.2.1 m.2.2.1 m.2.2.2.1, .bool true]) (by simp [results, Try.results23, go_sem, z0, z1, z2]) rfl ⟨rfl, HBF.out⟩
end Go.Proofs.Ytaoejkbockcneaa
