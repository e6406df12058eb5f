/- Queue: clashes. -/
import Derived.Test.YtemjmnpclknfaaaGreatM2
import Derived.Deep.CutBlock
namespace Go.Proofs.YtemjmnpclknfaaaGreat.T
open Go.RowKit
open Go.Proofs.YtemjmnpclknfaaaGreat.P (Sl un)
set_option maxRecDepth 20000
set_option linter.unusedVariables false
set_option linter.unusedSimpArgs false

def clashP (L : List Tk) (id : Nat) (l : List Nat) : Prop := id ∈ L.map (·.id) ∨ (∃ e ∈ L, ¬ ∀ x ∈ e.mem, x ∉ l) ∨ ¬ l.Nodup
set_option maxHeartbeats 8000000 in
open Classical in
theorem clash_any (B R : Nat) (mo : Int) (vi : Value) (ms : Sl) (L : List Tk) (id : Nat) (md rt sn : Int) (s : Sl) (l : List Nat) (b : Bool) (w : World) (h : Bq w B R mo vi ms L) (hl : L.length ≤ 1000) (hm : ∀ e ∈ L, e.mem.length ≤ 1000) (h1 : s.n = l.length) (hR : P.Rn w s.a l) (hll : l.length ≤ 1000) (hb : b = true ↔ clashP L id l) :
    Calls Tryz.prog 32 #[qp B, .agg (mC id md s rt sn)] w fun r w' => r = .returned (.bool b) ∧ Below w.heap.size w w' := by
  obtain ⟨G, hG⟩ : ∃ G, G = w.heap.size := ⟨_, rfl⟩
  obtain ⟨w0, hw0⟩ : ∃ W, W = w.alloc (.cells (mC id md s rt sn) 39) := ⟨_, rfl⟩
  have hq0 : w0.heap[G]? = some (.cells (mC id md s rt sn) 39 (0, 0)) := by rw [hw0, hG]; exact heap_alloc_new w _
  have hb0 : Below w.heap.size w w0 := by rw [hw0]; exact (Below.refl _ _).alloc (Nat.le_refl _) _
  obtain ⟨w1, hw1⟩ : ∃ W, W = w0.alloc (.cells #[.slice s.a s.n s.c] 34) := ⟨_, rfl⟩
  have hb1 : Below w0.heap.size w0 w1 := by rw [hw1]; exact (Below.refl _ _).alloc (Nat.le_refl _) _
  have hq1 : w1.heap[w0.heap.size]? = some (.cells #[.slice s.a s.n s.c] 34 (0, 0)) := by rw [hw1]; exact heap_alloc_new w0 _
  have HVAL : Hid (Calls Tryz.prog 55 #[.slice s.a s.n s.c] w0 fun e w' => e = .returned (.func (.func 71) #[] #[.pointer (some ⟨w0.heap.size, 0, none⟩)]) ∧ w' = w1) := by rw [hw1]; exact P.values_any s.a s.n s.c w0
  have HSRT := Lib.hid (P.sorted_any w0.heap.size s.a s.n s.c l h1 (by omega) w1 (lt_of_block hq1) (by have := cell_of_row w1 _ 0 _ _ _ hq1; simpa using this) ((hR.after hb0).after hb1))
  have HB0 := Lib.hid hb0
  have HB1 := Lib.hid (hb0.trans (hb1.mono hb0.size))
  have HQ0 := Lib.hid hq0
  have HQ1 := Lib.hid ((hb1.block G (lt_of_block hq0)).trans hq0)
  have HQB := Lib.hid h
  have HG := Lib.hid hG
  have H0 := Lib.hid hw0
  have HLL := Lib.hid hll
  have HH1 := Lib.hid h1
  have HW1 : Hid (w.heap.size ≤ w1.heap.size) := HB1.out.size
  have HBI := Lib.hid hb
  have HM := Lib.hid hm
  have HL := Lib.hid hl
  have z2 := cell_of_row w0 G 2 _ _ _ hq0
  simp at z2
  clear hw0 hb0 hq0 hw1 hb1 hq1 h hR hG hb hm h1 hl
  go_enter Tryz.func32, Tryz.ntmps32
  go_upto_region 1 with (fail)
  rw [← H0.out, ← HG.out]
  go_wp2_with fail
  refine HVAL.out.mono ?_
  rintro r w1' ⟨rfl, hw⟩
  subst hw
  go_wp2_with fail
  refine HSRT.out.mono ?_
  rintro r w2 ⟨v, rfl, ho, hb2⟩
  obtain ⟨Av, cv, rfl⟩ := own_form1 ho
  obtain ⟨KP, hK⟩ : ∃ KP, KP = w2.heap.size := ⟨_, rfl⟩
  obtain ⟨w3, hw3⟩ : ∃ W, W = w2.alloc (.cells #[.slice Av l.length cv] 34) := ⟨_, rfl⟩
  have hb3 : Below w2.heap.size w2 w3 := by rw [hw3]; exact (Below.refl _ _).alloc (Nat.le_refl _) _
  have hq3 : w3.heap[KP]? = some (.cells #[.slice Av l.length cv] 34 (0, 0)) := by rw [hw3, hK]; exact heap_alloc_new w2 _
  have hb13 := hb2.trans (hb3.mono hb2.size)
  have HOW : Hid (w3.ownsRow w1'.heap.size 33 1 (.slice Av l.length cv) l.length (un (Go.Proofs.YtemjmnpclknfaaaGreat.Z.sortedN l))) := P.own_blk ho hb3
  have HOL : Hid (∀ g, (Value.slice Av l.length cv).ownBlock = some g → w1'.heap.size ≤ g ∧ g < KP) := fun g hg => by rw [hK]; exact ownlt ho g hg
  have HB3 : Hid (Below w.heap.size w w3) := HB1.out.trans (hb13.mono HB1.out.size)
  have HKC : Hid (w3.cell? ⟨KP, 0, none⟩ = some (.slice Av l.length cv)) := by have := cell_of_row w3 KP 0 _ _ _ hq3; simp only [Hid]; simpa using this
  have HKL : Hid (KP < w3.heap.size) := lt_of_block hq3
  have hg3 := (hb13.block G (lt_of_block HQ1.out)).trans HQ1.out
  have HGL : Hid (G < w3.heap.size) := lt_of_block hg3
  have HGC : Hid (w3.cell? ⟨G, 0, none⟩ = some (.int .u32 (id : Int)) ∧ w3.cell? ⟨G, 2, none⟩ = some (.slice s.a s.n s.c)) := by
    have e0 := cell_of_row w3 G 0 _ _ _ hg3
    have e2 := cell_of_row w3 G 2 _ _ _ hg3
    exact ⟨by simpa using e0, by simpa using e2⟩
  have HNK : Hid ((Value.slice Av l.length cv).ownBlock ≠ some KP) := fun e => by have := (HOL.out KP e).2; omega
  have HNG : Hid ((Value.slice Av l.length cv).ownBlock ≠ some G) := fun e => by have := (HOL.out G e).1; have := lt_of_block HQ1.out; omega
  have HGT : Hid (∀ W, Below w3.heap.size w3 W → Calls Tryz.prog 40 #[qp R, .int .u32 (id : Int)] W fun r w' => ∃ (y1 : Nat) (y2 : Int) (y3 : Sl) (y4 y5 : Int), r = .returned (.tuple #[mV y1 y2 y3 y4 y5, .bool (decide (id ∈ L.map (·.id)))]) ∧ Below W.heap.size W w') := fun W hW => by
    obtain ⟨vt, ths, hi, _⟩ := ((HQB.out.after HB3.out).after hW).ex
    by_cases hx : id ∈ L.map (·.id)
    · rw [decide_eq_true hx]
      exact (get_there R mo vi vt _ ths id W hi (by rw [List.length_map]; exact HL.out) hx).mono fun r w' ⟨⟨p, y1, y2, y3, y4, y5, _, _, e⟩, hb⟩ => ⟨y1, y2, y3, y4, y5, e, hb⟩
    · rw [decide_eq_false hx]
      exact (get_none R mo vi vt _ ths id W hi (by rw [List.length_map]; exact HL.out) hx).mono fun r w' ⟨e, hb⟩ => ⟨0, 0, ⟨none, 0, 0⟩, 0, 0, e, hb⟩
  have HS2 : Hid (∀ W, Below w3.heap.size w3 W → (fun W : World => W.cell? ⟨B, 14, none⟩ = some (qp R) ∧ W.cell? ⟨G, 0, none⟩ = some (.int .u32 (id : Int))) W) := fun W hW => ⟨((HQB.out.after HB3.out).after hW).ptr, (hW.cell (p := ⟨G, _, none⟩) HGL.out).trans HGC.out.1⟩
  obtain ⟨th, hth⟩ : ∃ th, th = decide (id ∈ L.map (·.id)) := ⟨_, rfl⟩
  rw [← hth] at HGT
  have HTH := Lib.hid hth
  have H3 := Lib.hid hw3
  have HKK := Lib.hid hK
  clear ho hb2 hb3 hq3 hb13 hg3 hw3 hK z2 hth
  go_upto_region 2 with (fail)
  rw [← H3.out, ← HKK.out]
  go_cut [7] (fun tv wx => tv = .bool th ∧ Hid (Below w3.heap.size w3 wx))
  case first =>
    have HDk : Hid (Below w3.heap.size w3 w3.drew) := (Below.refl _ _).drew
    refine wp_region_held_drew (S := fun W : World => W.cell? ⟨B, 14, none⟩ = some (qp R) ∧ W.cell? ⟨G, 0, none⟩ = some (.int .u32 (id : Int))) (by kernel_rfl) (HS2.out _ (HDk.out)) (fun hHeld => ?_)
    obtain ⟨Wk0, hW0⟩ : ∃ W0, W0 = w3.drew := ⟨_, rfl⟩
    rw [← hW0] at hHeld HDk ⊢
    clear hW0
    refine wpAnyH_take (i := 0) (oi := ?oi0k) (v := ?v0k) ?hi0k ?hs0k ?hf0k ?hr0k ?hQ0k ?hy0k ?hS0k ?h0k
    case hi0k => exact (by simp only [List.getElem?_toArray, List.getElem?_cons_zero]; rfl)
    case hs0k => kernel_rfl
    case hf0k => kernel_rfl
    case hr0k => kernel_rfl
    case hQ0k => exact fun _ _ _ h => h
    case hy0k =>
      refine Or.inl ⟨rfl, ?_⟩
      intro W hSw
      obtain ⟨q0, q1⟩ := hSw
      go_simp
      try with_reducible rfl
    case hS0k => assumption
    try simp only [Act.put, List.setIfInBounds_toArray, List.set_cons_zero, List.set_cons_succ]
    refine wpAnyH_take (i := 1) (oi := ?oi1k) (v := ?v1k) ?hi1k ?hs1k ?hf1k ?hr1k ?hQ1k ?hy1k ?hS1k ?h1k
    case hi1k => exact (by simp only [List.getElem?_toArray, List.getElem?_cons_succ, List.getElem?_cons_zero]; rfl)
    case hs1k => kernel_rfl
    case hf1k => kernel_rfl
    case hr1k => kernel_rfl
    case hQ1k => exact fun _ _ _ h => h
    case hy1k =>
      refine Or.inl ⟨rfl, ?_⟩
      intro W hSw
      obtain ⟨q0, q1⟩ := hSw
      go_simp
      try with_reducible rfl
    case hS1k => assumption
    try simp only [Act.put, List.setIfInBounds_toArray, List.set_cons_zero, List.set_cons_succ]
    refine wpAnyH_take (i := 2) (oi := ?oi2k) (v := ?v2k) ?hi2k ?hs2k ?hf2k ?hr2k ?hQ2k ?hy2k ?hS2k ?h2k
    case hi2k => exact (by simp only [List.getElem?_toArray, List.getElem?_cons_succ, List.getElem?_cons_zero]; rfl)
    case hs2k => kernel_rfl
    case hf2k => kernel_rfl
    case hr2k => kernel_rfl
    case hQ2k => exact fun _ _ _ h => h
    case hy2k =>
      refine Or.inl ⟨rfl, ?_⟩
      intro W hSw
      obtain ⟨q0, q1⟩ := hSw
      go_simp
      try with_reducible rfl
    case hS2k => assumption
    try simp only [Act.put, List.setIfInBounds_toArray, List.set_cons_zero, List.set_cons_succ]
    refine wpAnyH_take (i := 3) (oi := ?oi3k) (v := ?v3k) ?hi3k ?hs3k ?hf3k ?hr3k ?hQ3k ?hy3k ?hS3k ?h3k
    case hi3k => exact (by simp only [List.getElem?_toArray, List.getElem?_cons_succ, List.getElem?_cons_zero]; rfl)
    case hs3k => kernel_rfl
    case hf3k => kernel_rfl
    case hr3k => kernel_rfl
    case hQ3k => exact fun _ _ _ h => h
    case hy3k =>
      refine Or.inl ⟨rfl, ?_⟩
      intro W hSw
      obtain ⟨q0, q1⟩ := hSw
      go_simp
      try with_reducible rfl
    case hS3k => assumption
    try simp only [Act.put, List.setIfInBounds_toArray, List.set_cons_zero, List.set_cons_succ]
    refine wpAnyH_take (i := 4) (oi := ?oi4k) (v := ?v4k) ?hi4k ?hs4k ?hf4k ?hr4k ?hQ4k ?hy4k ?hS4k ?h4k
    case hi4k => exact (by simp only [List.getElem?_toArray, List.getElem?_cons_succ, List.getElem?_cons_zero]; rfl)
    case hs4k => kernel_rfl
    case hf4k => kernel_rfl
    case hr4k => kernel_rfl
    case hQ4k => exact fun _ _ _ h => h
    case hy4k =>
      refine Or.inl ⟨rfl, ?_⟩
      intro W hSw
      obtain ⟨q0, q1⟩ := hSw
      go_simp
      try with_reducible rfl
    case hS4k => assumption
    try simp only [Act.put, List.setIfInBounds_toArray, List.set_cons_zero, List.set_cons_succ]
    refine wpAnyH_take (i := 5) (oi := ?oi5k) (v := ?v5k) ?hi5k ?hs5k ?hf5k ?hr5k ?hQ5k ?hy5k ?hS5k ?h5k
    case hi5k => exact (by simp only [List.getElem?_toArray, List.getElem?_cons_succ, List.getElem?_cons_zero]; rfl)
    case hs5k => kernel_rfl
    case hf5k => kernel_rfl
    case hr5k => kernel_rfl
    case hQ5k => exact fun _ _ _ h => h
    case hy5k =>
      refine Or.inl ⟨rfl, ?_⟩
      intro W hSw
      obtain ⟨q0, q1⟩ := hSw
      go_simp
      try with_reducible rfl
    case hS5k => assumption
    try simp only [Act.put, List.setIfInBounds_toArray, List.set_cons_zero, List.set_cons_succ]
    refine wpAnyH_ready (rs := [6, 10]) (by kernel_rfl) (by simp) ?_
    refine AllReadyH.cons (o := _) rfl (fun K hK => ?_) (AllReadyH.cons (o := _) rfl (fun K hK => ?_) AllReadyH.nil)
    · go_simp
      refine (HGT.out Wk0 HDk.out).mono ?_
      rintro r Wa1 ⟨y1, y2, y3, y4, y5, rfl, hbq⟩
      have HBWa1 := Lib.hid (HDk.out.trans (hbq.mono HDk.out.size))
      clear hbq
      refine hK.out _ _ (HS2.out _ (HBWa1.out)) (fun hHeld => ?_)
      clear hK K
      try simp only [Act.put, List.setIfInBounds_toArray, List.set_cons_zero, List.set_cons_succ]
      refine wpAnyH_take (i := 7) (oi := ?oi7ka) (v := ?v7ka) ?hi7ka ?hs7ka ?hf7ka ?hr7ka ?hQ7ka ?hy7ka ?hS7ka ?h7ka
      case hi7ka => exact (by simp only [List.getElem?_toArray, List.getElem?_cons_succ, List.getElem?_cons_zero]; rfl)
      case hs7ka => kernel_rfl
      case hf7ka => kernel_rfl
      case hr7ka => kernel_rfl
      case hQ7ka => exact fun _ _ _ h => h
      case hy7ka =>
        refine Or.inl ⟨rfl, ?_⟩
        intro W hSw
        obtain ⟨q0, q1⟩ := hSw
        go_simp
        try with_reducible rfl
      case hS7ka => assumption
      try simp only [Act.put, List.setIfInBounds_toArray, List.set_cons_zero, List.set_cons_succ]
      refine wpAnyH_take (i := 8) (oi := ?oi8ka) (v := ?v8ka) ?hi8ka ?hs8ka ?hf8ka ?hr8ka ?hQ8ka ?hy8ka ?hS8ka ?h8ka
      case hi8ka => exact (by simp only [List.getElem?_toArray, List.getElem?_cons_succ, List.getElem?_cons_zero]; rfl)
      case hs8ka => kernel_rfl
      case hf8ka => kernel_rfl
      case hr8ka => kernel_rfl
      case hQ8ka => exact fun _ _ _ h => h
      case hy8ka =>
        refine Or.inl ⟨rfl, ?_⟩
        intro W hSw
        obtain ⟨q0, q1⟩ := hSw
        go_simp
        try with_reducible rfl
      case hS8ka => assumption
      try simp only [Act.put, List.setIfInBounds_toArray, List.set_cons_zero, List.set_cons_succ]
      refine wpAnyH_take (i := 9) (oi := ?oi9ka) (v := ?v9ka) ?hi9ka ?hs9ka ?hf9ka ?hr9ka ?hQ9ka ?hy9ka ?hS9ka ?h9ka
      case hi9ka => exact (by simp only [List.getElem?_toArray, List.getElem?_cons_succ, List.getElem?_cons_zero]; rfl)
      case hs9ka => kernel_rfl
      case hf9ka => kernel_rfl
      case hr9ka => kernel_rfl
      case hQ9ka => exact fun _ _ _ h => h
      case hy9ka =>
        refine Or.inl ⟨rfl, ?_⟩
        intro W hSw
        obtain ⟨q0, q1⟩ := hSw
        go_simp
        try with_reducible rfl
      case hS9ka => assumption
      try simp only [Act.put, List.setIfInBounds_toArray, List.set_cons_zero, List.set_cons_succ]
      refine wpAnyH_ready (rs := [10]) (by kernel_rfl) (by simp) ?_
      refine AllReadyH.cons (o := _) rfl (fun K hK => ?_) AllReadyH.nil
      go_simp
      obtain ⟨KB, hKB⟩ : ∃ k, k = Wa1.heap.size := ⟨_, rfl⟩
      obtain ⟨Wa2, hWa2⟩ : ∃ W, W = Wa1.alloc (.cells #[.int .u32 0, .int .i64 0, .slice none 0 0, .int .i64 0, .int .i64 0] 39) := ⟨_, rfl⟩
      have hba : Below Wa1.heap.size Wa1 Wa2 := by rw [hWa2]; exact (Below.refl _ _).alloc (Nat.le_refl _) _
      have HBWa2 := Lib.hid (HBWa1.out.trans (hba.mono HBWa1.out.size))
      have HQWa2 : Hid (Wa2.heap[KB]? = some (.cells #[.int .u32 0, .int .i64 0, .slice none 0 0, .int .i64 0, .int .i64 0] 39 (0, 0))) := by rw [hWa2, hKB]; exact heap_alloc_new _ _
      have HKB : Hid (w3.heap.size ≤ KB) := by rw [hKB]; exact HBWa1.out.size
      rw [← hWa2, ← hKB]
      clear hWa2 hKB
      refine hK.out _ _ (HS2.out _ (HBWa2.out)) (fun hHeld => ?_)
      clear hK K
      try simp only [Act.put, List.setIfInBounds_toArray, List.set_cons_zero, List.set_cons_succ]
      refine wpAnyH_ready (rs := [11]) (by kernel_rfl) (by simp) ?_
      refine AllReadyH.cons (o := _) rfl (fun K hK => ?_) AllReadyH.nil
      have hqr := HQWa2.out
      have x0 := cell_of_row _ KB 0 _ _ _ hqr
      have x1 := cell_of_row _ KB 1 _ _ _ hqr
      have x2 := cell_of_row _ KB 2 _ _ _ hqr
      have x3 := cell_of_row _ KB 3 _ _ _ hqr
      have x4 := cell_of_row _ KB 4 _ _ _ hqr
      simp at x0 x1 x2 x3 x4
      have xf : ∀ i, Wa2.frozen? ⟨KB, i, none⟩ = false := fun i => frozen_of_row _ _ i _ _ hqr
      go_simp
      obtain ⟨W9, hW9⟩ : ∃ W, W = (((((Wa2.setCell ⟨KB, 0, none⟩ (.int .u32 (y1 : Int))).setCell ⟨KB, 1, none⟩ (.int .i64 y2)).setCell ⟨KB, 2, none⟩ (.slice y3.a y3.n y3.c)).setCell ⟨KB, 3, none⟩ (.int .i64 y4)).setCell ⟨KB, 4, none⟩ (.int .i64 y5)) := ⟨_, rfl⟩
      have HC9 : Hid (W9.cell? ⟨KB, 0, none⟩ = some (.int .u32 (y1 : Int))) := by rw [hW9]; exact (three (.int .u32 (y1 : Int)) (.int .i64 y2) (.slice y3.a y3.n y3.c) (.int .i64 y4) (.int .i64 y5) hqr).1
      have HB9 : Hid (Below w3.heap.size w3 W9) := by rw [hW9]; exact three_below (.int .u32 (y1 : Int)) (.int .i64 y2) (.slice y3.a y3.n y3.c) (.int .i64 y4) (.int .i64 y5) HBWa2.out HKB.out
      have HL9 : Hid (KB < W9.heap.size) := by rw [hW9]; have := lt_of_block hqr; simp only [Hid]; simpa using this
      rw [← hW9]
      clear hW9 hqr xf x0 x1 x2 x3 x4
      refine hK.out _ _ (HS2.out _ (HB9.out)) (fun hHeld => ?_)
      clear hK K
      try simp only [Act.put, List.setIfInBounds_toArray, List.set_cons_zero, List.set_cons_succ]
      refine wpAnyH_take (i := 12) (oi := ?oi12ka) (v := ?v12ka) ?hi12ka ?hs12ka ?hf12ka ?hr12ka ?hQ12ka ?hy12ka ?hS12ka ?h12ka
      case hi12ka => exact (by simp only [List.getElem?_toArray, List.getElem?_cons_succ, List.getElem?_cons_zero]; rfl)
      case hs12ka => kernel_rfl
      case hf12ka => kernel_rfl
      case hr12ka => kernel_rfl
      case hQ12ka => exact fun _ _ _ h => h
      case hy12ka =>
        refine Or.inl ⟨rfl, ?_⟩
        intro W hSw
        obtain ⟨q0, q1⟩ := hSw
        go_simp
        try with_reducible rfl
      case hS12ka => assumption
      try simp only [Act.put, List.setIfInBounds_toArray, List.set_cons_zero, List.set_cons_succ]
      refine wpAnyH_done (by kernel_rfl) ?_ _
      go_wp2_with fail
      go_meet
      case rel => exact ⟨rfl, HB9⟩
    · go_simp
      obtain ⟨KB, hKB⟩ : ∃ k, k = Wk0.heap.size := ⟨_, rfl⟩
      obtain ⟨Wb1, hWb1⟩ : ∃ W, W = Wk0.alloc (.cells #[.int .u32 0, .int .i64 0, .slice none 0 0, .int .i64 0, .int .i64 0] 39) := ⟨_, rfl⟩
      have hba : Below Wk0.heap.size Wk0 Wb1 := by rw [hWb1]; exact (Below.refl _ _).alloc (Nat.le_refl _) _
      have HBWb1 := Lib.hid (HDk.out.trans (hba.mono HDk.out.size))
      have HQWb1 : Hid (Wb1.heap[KB]? = some (.cells #[.int .u32 0, .int .i64 0, .slice none 0 0, .int .i64 0, .int .i64 0] 39 (0, 0))) := by rw [hWb1, hKB]; exact heap_alloc_new _ _
      have HKB : Hid (w3.heap.size ≤ KB) := by rw [hKB]; exact HDk.out.size
      rw [← hWb1, ← hKB]
      clear hWb1 hKB
      refine hK.out _ _ (HS2.out _ (HBWb1.out)) (fun hHeld => ?_)
      clear hK K
      try simp only [Act.put, List.setIfInBounds_toArray, List.set_cons_zero, List.set_cons_succ]
      refine wpAnyH_ready (rs := [6]) (by kernel_rfl) (by simp) ?_
      refine AllReadyH.cons (o := _) rfl (fun K hK => ?_) AllReadyH.nil
      go_simp
      refine (HGT.out Wb1 HBWb1.out).mono ?_
      rintro r Wb2 ⟨y1, y2, y3, y4, y5, rfl, hbq⟩
      have HBWb2 := Lib.hid (HBWb1.out.trans (hbq.mono HBWb1.out.size))
      have HQ9 := Lib.hid ((hbq.block _ (lt_of_block HQWb1.out)).trans HQWb1.out)
      clear hbq
      refine hK.out _ _ (HS2.out _ (HBWb2.out)) (fun hHeld => ?_)
      clear hK K
      try simp only [Act.put, List.setIfInBounds_toArray, List.set_cons_zero, List.set_cons_succ]
      refine wpAnyH_take (i := 7) (oi := ?oi7kb) (v := ?v7kb) ?hi7kb ?hs7kb ?hf7kb ?hr7kb ?hQ7kb ?hy7kb ?hS7kb ?h7kb
      case hi7kb => exact (by simp only [List.getElem?_toArray, List.getElem?_cons_succ, List.getElem?_cons_zero]; rfl)
      case hs7kb => kernel_rfl
      case hf7kb => kernel_rfl
      case hr7kb => kernel_rfl
      case hQ7kb => exact fun _ _ _ h => h
      case hy7kb =>
        refine Or.inl ⟨rfl, ?_⟩
        intro W hSw
        obtain ⟨q0, q1⟩ := hSw
        go_simp
        try with_reducible rfl
      case hS7kb => assumption
      try simp only [Act.put, List.setIfInBounds_toArray, List.set_cons_zero, List.set_cons_succ]
      refine wpAnyH_take (i := 8) (oi := ?oi8kb) (v := ?v8kb) ?hi8kb ?hs8kb ?hf8kb ?hr8kb ?hQ8kb ?hy8kb ?hS8kb ?h8kb
      case hi8kb => exact (by simp only [List.getElem?_toArray, List.getElem?_cons_succ, List.getElem?_cons_zero]; rfl)
      case hs8kb => kernel_rfl
      case hf8kb => kernel_rfl
      case hr8kb => kernel_rfl
      case hQ8kb => exact fun _ _ _ h => h
      case hy8kb =>
        refine Or.inl ⟨rfl, ?_⟩
        intro W hSw
        obtain ⟨q0, q1⟩ := hSw
        go_simp
        try with_reducible rfl
      case hS8kb => assumption
      try simp only [Act.put, List.setIfInBounds_toArray, List.set_cons_zero, List.set_cons_succ]
      refine wpAnyH_take (i := 9) (oi := ?oi9kb) (v := ?v9kb) ?hi9kb ?hs9kb ?hf9kb ?hr9kb ?hQ9kb ?hy9kb ?hS9kb ?h9kb
      case hi9kb => exact (by simp only [List.getElem?_toArray, List.getElem?_cons_succ, List.getElem?_cons_zero]; rfl)
      case hs9kb => kernel_rfl
      case hf9kb => kernel_rfl
      case hr9kb => kernel_rfl
      case hQ9kb => exact fun _ _ _ h => h
      case hy9kb =>
        refine Or.inl ⟨rfl, ?_⟩
        intro W hSw
        obtain ⟨q0, q1⟩ := hSw
        go_simp
        try with_reducible rfl
      case hS9kb => assumption
      try simp only [Act.put, List.setIfInBounds_toArray, List.set_cons_zero, List.set_cons_succ]
      refine wpAnyH_ready (rs := [11]) (by kernel_rfl) (by simp) ?_
      refine AllReadyH.cons (o := _) rfl (fun K hK => ?_) AllReadyH.nil
      have hqr := HQ9.out
      have x0 := cell_of_row _ KB 0 _ _ _ hqr
      have x1 := cell_of_row _ KB 1 _ _ _ hqr
      have x2 := cell_of_row _ KB 2 _ _ _ hqr
      have x3 := cell_of_row _ KB 3 _ _ _ hqr
      have x4 := cell_of_row _ KB 4 _ _ _ hqr
      simp at x0 x1 x2 x3 x4
      have xf : ∀ i, Wb2.frozen? ⟨KB, i, none⟩ = false := fun i => frozen_of_row _ _ i _ _ hqr
      go_simp
      obtain ⟨W9, hW9⟩ : ∃ W, W = (((((Wb2.setCell ⟨KB, 0, none⟩ (.int .u32 (y1 : Int))).setCell ⟨KB, 1, none⟩ (.int .i64 y2)).setCell ⟨KB, 2, none⟩ (.slice y3.a y3.n y3.c)).setCell ⟨KB, 3, none⟩ (.int .i64 y4)).setCell ⟨KB, 4, none⟩ (.int .i64 y5)) := ⟨_, rfl⟩
      have HC9 : Hid (W9.cell? ⟨KB, 0, none⟩ = some (.int .u32 (y1 : Int))) := by rw [hW9]; exact (three (.int .u32 (y1 : Int)) (.int .i64 y2) (.slice y3.a y3.n y3.c) (.int .i64 y4) (.int .i64 y5) hqr).1
      have HB9 : Hid (Below w3.heap.size w3 W9) := by rw [hW9]; exact three_below (.int .u32 (y1 : Int)) (.int .i64 y2) (.slice y3.a y3.n y3.c) (.int .i64 y4) (.int .i64 y5) HBWb2.out HKB.out
      have HL9 : Hid (KB < W9.heap.size) := by rw [hW9]; have := lt_of_block hqr; simp only [Hid]; simpa using this
      rw [← hW9]
      clear hW9 hqr xf x0 x1 x2 x3 x4
      refine hK.out _ _ (HS2.out _ (HB9.out)) (fun hHeld => ?_)
      clear hK K
      try simp only [Act.put, List.setIfInBounds_toArray, List.set_cons_zero, List.set_cons_succ]
      refine wpAnyH_take (i := 12) (oi := ?oi12kb) (v := ?v12kb) ?hi12kb ?hs12kb ?hf12kb ?hr12kb ?hQ12kb ?hy12kb ?hS12kb ?h12kb
      case hi12kb => exact (by simp only [List.getElem?_toArray, List.getElem?_cons_succ, List.getElem?_cons_zero]; rfl)
      case hs12kb => kernel_rfl
      case hf12kb => kernel_rfl
      case hr12kb => kernel_rfl
      case hQ12kb => exact fun _ _ _ h => h
      case hy12kb =>
        refine Or.inl ⟨rfl, ?_⟩
        intro W hSw
        obtain ⟨q0, q1⟩ := hSw
        go_simp
        try with_reducible rfl
      case hS12kb => assumption
      try simp only [Act.put, List.setIfInBounds_toArray, List.set_cons_zero, List.set_cons_succ]
      refine wpAnyH_done (by kernel_rfl) ?_ _
      go_wp2_with fail
      go_meet
      case rel => exact ⟨rfl, HB9⟩
  case rest =>
  obtain ⟨rfl, HR4⟩ := hcut
  rename World => w4
  have HUP : Hid (Upw (Go.Proofs.YtemjmnpclknfaaaGreat.Z.sortedN l)) := fun i j x y hij hx hy => by
    obtain ⟨a1, rfl⟩ := List.getElem?_eq_some_iff.1 hx
    obtain ⟨a2, rfl⟩ := List.getElem?_eq_some_iff.1 hy
    exact List.pairwise_iff_getElem.1 (Go.Proofs.YtemjmnpclknfaaaGreat.Z.sortedN_le l) i j a1 a2 hij
  have HTS := Lib.hid (those_92 B R mo vi ms L KP (fun e => decide (¬ ∀ x ∈ e.mem, x ∉ Go.Proofs.YtemjmnpclknfaaaGreat.Z.sortedN l)) w4 ((HQB.out.after HB3.out).after HR4.out) HL.out (fun W e s' hW he hf =>
    have hbw : Below w3.heap.size w3 W := HR4.out.trans (hW.mono HR4.out.size)
    have how : W.ownsRow w1'.heap.size 33 1 (.slice Av l.length cv) l.length (un (Go.Proofs.YtemjmnpclknfaaaGreat.Z.sortedN l)) := P.own_blk HOW.out hbw
    share_cl R vi (Go.Proofs.YtemjmnpclknfaaaGreat.Z.sortedN l) (.slice Av l.length cv) e.id e.md e.rt e.sn s' e.mem KP W HUP.out (by rw [Go.Proofs.YtemjmnpclknfaaaGreat.Z.sorted_len]; exact HLL.out) (Nat.lt_of_lt_of_le HKL.out hbw.size) ((hbw.cell (p := ⟨KP, _, none⟩) HKL.out).trans HKC.out) (P.srt_own (by rw [Go.Proofs.YtemjmnpclknfaaaGreat.Z.sorted_len]; exact how)) (fun g hg => (ownlt how g hg).2) hf (HM.out e he)))
  clear HGT HS2
  go_wp2_with fail
  refine HTS.out.mono ?_
  rintro r w5 ⟨A5, n5, c5, rfl, hpw, hb5⟩
  have HR5 : Hid (Below w3.heap.size w3 w5) := HR4.out.trans (hb5.mono HR4.out.size)
  have HBW5 : Hid (Below w.heap.size w w5) := HB3.out.trans (HR5.out.mono HB3.out.size)
  have HBR5 : Hid (Below w5.heap.size w5 w5) := Below.refl _ _
  have HS4 : Hid (∀ W, Below w5.heap.size w5 W → (fun W : World => W.cell? ⟨KP, 0, none⟩ = some (.slice Av l.length cv) ∧ W.cell? ⟨G, 2, none⟩ = some (.slice s.a s.n s.c)) W) := fun W hW => by
    have hbw : Below w3.heap.size w3 W := HR5.out.trans (hW.mono HR5.out.size)
    exact ⟨(hbw.cell (p := ⟨KP, _, none⟩) HKL.out).trans HKC.out, (hbw.cell (p := ⟨G, _, none⟩) HGL.out).trans HGC.out.2⟩
  have HCMP : Hid (∀ W, Below w5.heap.size w5 W → Calls Tryz.prog 59 #[.slice Av l.length cv] W fun r w' => ∃ v' zs, r = .returned v' ∧ w'.ownsRow w1'.heap.size 33 1 v' zs.length (un zs) ∧ zs.Pairwise (· < ·) ∧ (∀ y, y ∈ zs ↔ y ∈ Go.Proofs.YtemjmnpclknfaaaGreat.Z.sortedN l) ∧ Below w1'.heap.size W w' ∧ ∀ k, (Value.slice Av l.length cv).ownBlock ≠ some k → w'.heap[k]? = W.heap[k]?) := fun W hW => by
    have hbw : Below w3.heap.size w3 W := HR5.out.trans (hW.mono HR5.out.size)
    exact comp_own w1'.heap.size (.slice Av l.length cv) (Go.Proofs.YtemjmnpclknfaaaGreat.Z.sortedN l) W (by rw [Go.Proofs.YtemjmnpclknfaaaGreat.Z.sorted_len]; exact P.own_blk HOW.out hbw) (Go.Proofs.YtemjmnpclknfaaaGreat.Z.sortedN_le l)
  have HSH : Hid (0 < n5 ↔ ∃ e ∈ L, ¬ ∀ x ∈ e.mem, x ∉ l) := by
    have := hpw.len
    simp only [Hid]
    rw [this, List.length_pos_iff_exists_mem]
    constructor
    · rintro ⟨e, he⟩
      obtain ⟨h1, h2⟩ := List.mem_filter.1 he
      have h2 := of_decide_eq_true h2
      exact ⟨e, h1, fun hh => h2 fun x hx hm => hh x hx ((Go.Proofs.YtemjmnpclknfaaaGreat.Z.sortedN_mem l x).1 hm)⟩
    · rintro ⟨e, h1, h2⟩
      exact ⟨e, List.mem_filter.2 ⟨h1, decide_eq_true fun hh => h2 fun x hx hm => hh x hx ((Go.Proofs.YtemjmnpclknfaaaGreat.Z.sortedN_mem l x).2 hm)⟩⟩
  clear hpw hb5 HTS
  cases th
  · have hno : ¬ id ∈ L.map (·.id) := of_decide_eq_false HTH.out.symm
    by_cases hn : 0 < n5
    · have HDN : Hid (decide (0 < n5) = true) := decide_eq_true hn
      have HBT : Hid (b = true) := HBI.out.2 (.inr (.inl (HSH.out.1 hn)))
      clear hn hno
      go_upto_region 4 with (fail)
      have HDb : Hid (Below w5.heap.size w5 w5.drew) := HBR5.out.drew
      refine wp_region_held_drew (S := fun W : World => W.cell? ⟨KP, 0, none⟩ = some (.slice Av l.length cv) ∧ W.cell? ⟨G, 2, none⟩ = some (.slice s.a s.n s.c)) (by kernel_rfl) (HS4.out _ (HDb.out)) (fun hHeld => ?_)
      obtain ⟨Wb0, hW0⟩ : ∃ W0, W0 = w5.drew := ⟨_, rfl⟩
      rw [← hW0] at hHeld HDb ⊢
      clear hW0
      refine wpAnyH_take (i := 0) (oi := ?oi0b) (v := ?v0b) ?hi0b ?hs0b ?hf0b ?hr0b ?hQ0b ?hy0b ?hS0b ?h0b
      case hi0b => exact (by simp only [List.getElem?_toArray, List.getElem?_cons_zero]; rfl)
      case hs0b => kernel_rfl
      case hf0b => kernel_rfl
      case hr0b => kernel_rfl
      case hQ0b => exact fun _ _ _ h => h
      case hy0b =>
        refine Or.inl ⟨rfl, ?_⟩
        intro W hSw
        obtain ⟨q0, q1⟩ := hSw
        go_simp
        try with_reducible rfl
      case hS0b => assumption
      try simp only [Act.put, List.setIfInBounds_toArray, List.set_cons_zero, List.set_cons_succ]
      refine wpAnyH_take (i := 1) (oi := ?oi1b) (v := ?v1b) ?hi1b ?hs1b ?hf1b ?hr1b ?hQ1b ?hy1b ?hS1b ?h1b
      case hi1b => exact (by simp only [List.getElem?_toArray, List.getElem?_cons_succ, List.getElem?_cons_zero]; rfl)
      case hs1b => kernel_rfl
      case hf1b => kernel_rfl
      case hr1b => kernel_rfl
      case hQ1b => exact fun _ _ _ h => h
      case hy1b =>
        refine Or.inl ⟨rfl, ?_⟩
        intro W hSw
        obtain ⟨q0, q1⟩ := hSw
        go_simp
        try with_reducible rfl
      case hS1b => assumption
      try simp only [Act.put, List.setIfInBounds_toArray, List.set_cons_zero, List.set_cons_succ]
      refine wpAnyH_take (i := 2) (oi := ?oi2b) (v := ?v2b) ?hi2b ?hs2b ?hf2b ?hr2b ?hQ2b ?hy2b ?hS2b ?h2b
      case hi2b => exact (by simp only [List.getElem?_toArray, List.getElem?_cons_succ, List.getElem?_cons_zero]; rfl)
      case hs2b => kernel_rfl
      case hf2b => kernel_rfl
      case hr2b => kernel_rfl
      case hQ2b => exact fun _ _ _ h => h
      case hy2b =>
        refine Or.inl ⟨rfl, ?_⟩
        intro W hSw
        obtain ⟨q0, q1⟩ := hSw
        go_simp
        try with_reducible rfl
      case hS2b => assumption
      try simp only [Act.put, List.setIfInBounds_toArray, List.set_cons_zero, List.set_cons_succ]
      refine wpAnyH_take (i := 3) (oi := ?oi3b) (v := ?v3b) ?hi3b ?hs3b ?hf3b ?hr3b ?hQ3b ?hy3b ?hS3b ?h3b
      case hi3b => exact (by simp only [List.getElem?_toArray, List.getElem?_cons_succ, List.getElem?_cons_zero]; rfl)
      case hs3b => kernel_rfl
      case hf3b => kernel_rfl
      case hr3b => kernel_rfl
      case hQ3b => exact fun _ _ _ h => h
      case hy3b =>
        refine Or.inl ⟨rfl, ?_⟩
        intro W hSw
        obtain ⟨q0, q1⟩ := hSw
        go_simp
        try with_reducible rfl
      case hS3b => assumption
      try simp only [Act.put, List.setIfInBounds_toArray, List.set_cons_zero, List.set_cons_succ]
      refine wpAnyH_take (i := 4) (oi := ?oi4b) (v := .bool true) ?hi4b ?hs4b ?hf4b ?hr4b ?hQ4b ?hy4b ?hS4b ?h4b
      case hi4b => exact (by simp only [List.getElem?_toArray, List.getElem?_cons_succ, List.getElem?_cons_zero]; rfl)
      case hs4b => kernel_rfl
      case hf4b => kernel_rfl
      case hr4b => kernel_rfl
      case hQ4b => exact fun _ _ _ h => h
      case hy4b =>
        refine Or.inl ⟨rfl, ?_⟩
        intro W hSw
        go_simp
        first | exact of_decide_eq_true HDN.out | (have := of_decide_eq_false HDN.out; omega)
      case hS4b => assumption
      try simp only [Act.put, List.setIfInBounds_toArray, List.set_cons_zero, List.set_cons_succ]
      refine wpAnyH_take (i := 5) (oi := ?oi5b) (v := ?v5b) ?hi5b ?hs5b ?hf5b ?hr5b ?hQ5b ?hy5b ?hS5b ?h5b
      case hi5b => exact (by simp only [List.getElem?_toArray, List.getElem?_cons_succ, List.getElem?_cons_zero]; rfl)
      case hs5b => kernel_rfl
      case hf5b => kernel_rfl
      case hr5b => kernel_rfl
      case hQ5b => exact fun _ _ _ h => h
      case hy5b =>
        refine Or.inl ⟨rfl, ?_⟩
        intro W hSw
        obtain ⟨q0, q1⟩ := hSw
        go_simp
        try with_reducible rfl
      case hS5b => assumption
      try simp only [Act.put, List.setIfInBounds_toArray, List.set_cons_zero, List.set_cons_succ]
      refine wpAnyH_take (i := 6) (oi := ?oi6b) (v := ?v6b) ?hi6b ?hs6b ?hf6b ?hr6b ?hQ6b ?hy6b ?hS6b ?h6b
      case hi6b => exact (by simp only [List.getElem?_toArray, List.getElem?_cons_succ, List.getElem?_cons_zero]; rfl)
      case hs6b => kernel_rfl
      case hf6b => kernel_rfl
      case hr6b => kernel_rfl
      case hQ6b => exact fun _ _ _ h => h
      case hy6b =>
        refine Or.inl ⟨rfl, ?_⟩
        intro W hSw
        obtain ⟨q0, q1⟩ := hSw
        go_simp
        try with_reducible rfl
      case hS6b => assumption
      try simp only [Act.put, List.setIfInBounds_toArray, List.set_cons_zero, List.set_cons_succ]
      refine wpAnyH_take (i := 7) (oi := ?oi7b) (v := undef) ?hi7b ?hs7b ?hf7b ?hr7b ?hQ7b ?hy7b ?hS7b ?h7b
      case hi7b => exact (by simp only [List.getElem?_toArray, List.getElem?_cons_succ, List.getElem?_cons_zero]; rfl)
      case hs7b => kernel_rfl
      case hf7b => kernel_rfl
      case hr7b => kernel_rfl
      case hQ7b => exact fun _ _ _ h => h
      case hy7b =>
        exact Or.inr ⟨rfl, rfl⟩
      case hS7b => assumption
      try simp only [Act.put, List.setIfInBounds_toArray, List.set_cons_zero, List.set_cons_succ]
      refine wpAnyH_take (i := 8) (oi := ?oi8b) (v := undef) ?hi8b ?hs8b ?hf8b ?hr8b ?hQ8b ?hy8b ?hS8b ?h8b
      case hi8b => exact (by simp only [List.getElem?_toArray, List.getElem?_cons_succ, List.getElem?_cons_zero]; rfl)
      case hs8b => kernel_rfl
      case hf8b => kernel_rfl
      case hr8b => kernel_rfl
      case hQ8b => exact fun _ _ _ h => h
      case hy8b =>
        exact Or.inr ⟨rfl, rfl⟩
      case hS8b => assumption
      try simp only [Act.put, List.setIfInBounds_toArray, List.set_cons_zero, List.set_cons_succ]
      refine wpAnyH_take (i := 9) (oi := ?oi9b) (v := undef) ?hi9b ?hs9b ?hf9b ?hr9b ?hQ9b ?hy9b ?hS9b ?h9b
      case hi9b => exact (by simp only [List.getElem?_toArray, List.getElem?_cons_succ, List.getElem?_cons_zero]; rfl)
      case hs9b => kernel_rfl
      case hf9b => kernel_rfl
      case hr9b => kernel_rfl
      case hQ9b => exact fun _ _ _ h => h
      case hy9b =>
        exact Or.inr ⟨rfl, rfl⟩
      case hS9b => assumption
      try simp only [Act.put, List.setIfInBounds_toArray, List.set_cons_zero, List.set_cons_succ]
      refine wpAnyH_take (i := 10) (oi := ?oi10b) (v := undef) ?hi10b ?hs10b ?hf10b ?hr10b ?hQ10b ?hy10b ?hS10b ?h10b
      case hi10b => exact (by simp only [List.getElem?_toArray, List.getElem?_cons_succ, List.getElem?_cons_zero]; rfl)
      case hs10b => kernel_rfl
      case hf10b => kernel_rfl
      case hr10b => kernel_rfl
      case hQ10b => exact fun _ _ _ h => h
      case hy10b =>
        exact Or.inr ⟨rfl, rfl⟩
      case hS10b => assumption
      try simp only [Act.put, List.setIfInBounds_toArray, List.set_cons_zero, List.set_cons_succ]
      refine wpAnyH_take (i := 11) (oi := ?oi11b) (v := undef) ?hi11b ?hs11b ?hf11b ?hr11b ?hQ11b ?hy11b ?hS11b ?h11b
      case hi11b => exact (by simp only [List.getElem?_toArray, List.getElem?_cons_succ, List.getElem?_cons_zero]; rfl)
      case hs11b => kernel_rfl
      case hf11b => kernel_rfl
      case hr11b => kernel_rfl
      case hQ11b => exact fun _ _ _ h => h
      case hy11b =>
        exact Or.inr ⟨rfl, rfl⟩
      case hS11b => assumption
      try simp only [Act.put, List.setIfInBounds_toArray, List.set_cons_zero, List.set_cons_succ]
      refine wpAnyH_take (i := 12) (oi := ?oi12b) (v := undef) ?hi12b ?hs12b ?hf12b ?hr12b ?hQ12b ?hy12b ?hS12b ?h12b
      case hi12b => exact (by simp only [List.getElem?_toArray, List.getElem?_cons_succ, List.getElem?_cons_zero]; rfl)
      case hs12b => kernel_rfl
      case hf12b => kernel_rfl
      case hr12b => kernel_rfl
      case hQ12b => exact fun _ _ _ h => h
      case hy12b =>
        exact Or.inr ⟨rfl, rfl⟩
      case hS12b => assumption
      try simp only [Act.put, List.setIfInBounds_toArray, List.set_cons_zero, List.set_cons_succ]
      refine wpAnyH_take (i := 13) (oi := ?oi13b) (v := undef) ?hi13b ?hs13b ?hf13b ?hr13b ?hQ13b ?hy13b ?hS13b ?h13b
      case hi13b => exact (by simp only [List.getElem?_toArray, List.getElem?_cons_succ, List.getElem?_cons_zero]; rfl)
      case hs13b => kernel_rfl
      case hf13b => kernel_rfl
      case hr13b => kernel_rfl
      case hQ13b => exact fun _ _ _ h => h
      case hy13b =>
        exact Or.inr ⟨rfl, rfl⟩
      case hS13b => assumption
      try simp only [Act.put, List.setIfInBounds_toArray, List.set_cons_zero, List.set_cons_succ]
      refine wpAnyH_take (i := 14) (oi := ?oi14b) (v := ?v14b) ?hi14b ?hs14b ?hf14b ?hr14b ?hQ14b ?hy14b ?hS14b ?h14b
      case hi14b => exact (by simp only [List.getElem?_toArray, List.getElem?_cons_succ, List.getElem?_cons_zero]; rfl)
      case hs14b => kernel_rfl
      case hf14b => kernel_rfl
      case hr14b => kernel_rfl
      case hQ14b => exact fun _ _ _ h => h
      case hy14b =>
        refine Or.inl ⟨rfl, ?_⟩
        intro W hSw
        obtain ⟨q0, q1⟩ := hSw
        go_simp
        try with_reducible rfl
      case hS14b => assumption
      try simp only [Act.put, List.setIfInBounds_toArray, List.set_cons_zero, List.set_cons_succ]
      refine wpAnyH_take (i := 15) (oi := ?oi15b) (v := ?v15b) ?hi15b ?hs15b ?hf15b ?hr15b ?hQ15b ?hy15b ?hS15b ?h15b
      case hi15b => exact (by simp only [List.getElem?_toArray, List.getElem?_cons_succ, List.getElem?_cons_zero]; rfl)
      case hs15b => kernel_rfl
      case hf15b => kernel_rfl
      case hr15b => kernel_rfl
      case hQ15b => exact fun _ _ _ h => h
      case hy15b =>
        refine Or.inl ⟨rfl, ?_⟩
        intro W hSw
        obtain ⟨q0, q1⟩ := hSw
        go_simp
        try with_reducible rfl
      case hS15b => assumption
      try simp only [Act.put, List.setIfInBounds_toArray, List.set_cons_zero, List.set_cons_succ]
      refine wpAnyH_done (by kernel_rfl) ?_ _
      go_wp2_with fail
      go_ret
      exact ⟨by rw [HBT.out]; first | rfl | simp, HBW5.out.trans (HDb.out.mono HBW5.out.size)⟩
    · have HDN : Hid (decide (0 < n5) = false) := decide_eq_false hn
      have HBF : Hid (b = true ↔ ¬ l.Nodup) := by
        rw [Hid, HBI.out]
        unfold clashP
        rw [← HSH.out]
        constructor
        · rintro (h | h | h)
          · exact absurd h hno
          · exact absurd h hn
          · exact h
        · exact fun h => .inr (.inr h)
      clear hn hno
      go_upto_region 4 with (fail)
      have HDc : Hid (Below w5.heap.size w5 w5.drew) := HBR5.out.drew
      refine wp_region_held_drew (S := fun W : World => W.cell? ⟨KP, 0, none⟩ = some (.slice Av l.length cv) ∧ W.cell? ⟨G, 2, none⟩ = some (.slice s.a s.n s.c)) (by kernel_rfl) (HS4.out _ (HDc.out)) (fun hHeld => ?_)
      obtain ⟨Wc0, hW0⟩ : ∃ W0, W0 = w5.drew := ⟨_, rfl⟩
      rw [← hW0] at hHeld HDc ⊢
      clear hW0
      refine wpAnyH_take (i := 0) (oi := ?oi0c) (v := ?v0c) ?hi0c ?hs0c ?hf0c ?hr0c ?hQ0c ?hy0c ?hS0c ?h0c
      case hi0c => exact (by simp only [List.getElem?_toArray, List.getElem?_cons_zero]; rfl)
      case hs0c => kernel_rfl
      case hf0c => kernel_rfl
      case hr0c => kernel_rfl
      case hQ0c => exact fun _ _ _ h => h
      case hy0c =>
        refine Or.inl ⟨rfl, ?_⟩
        intro W hSw
        obtain ⟨q0, q1⟩ := hSw
        go_simp
        try with_reducible rfl
      case hS0c => assumption
      try simp only [Act.put, List.setIfInBounds_toArray, List.set_cons_zero, List.set_cons_succ]
      refine wpAnyH_take (i := 1) (oi := ?oi1c) (v := ?v1c) ?hi1c ?hs1c ?hf1c ?hr1c ?hQ1c ?hy1c ?hS1c ?h1c
      case hi1c => exact (by simp only [List.getElem?_toArray, List.getElem?_cons_succ, List.getElem?_cons_zero]; rfl)
      case hs1c => kernel_rfl
      case hf1c => kernel_rfl
      case hr1c => kernel_rfl
      case hQ1c => exact fun _ _ _ h => h
      case hy1c =>
        refine Or.inl ⟨rfl, ?_⟩
        intro W hSw
        obtain ⟨q0, q1⟩ := hSw
        go_simp
        try with_reducible rfl
      case hS1c => assumption
      try simp only [Act.put, List.setIfInBounds_toArray, List.set_cons_zero, List.set_cons_succ]
      refine wpAnyH_take (i := 2) (oi := ?oi2c) (v := ?v2c) ?hi2c ?hs2c ?hf2c ?hr2c ?hQ2c ?hy2c ?hS2c ?h2c
      case hi2c => exact (by simp only [List.getElem?_toArray, List.getElem?_cons_succ, List.getElem?_cons_zero]; rfl)
      case hs2c => kernel_rfl
      case hf2c => kernel_rfl
      case hr2c => kernel_rfl
      case hQ2c => exact fun _ _ _ h => h
      case hy2c =>
        refine Or.inl ⟨rfl, ?_⟩
        intro W hSw
        obtain ⟨q0, q1⟩ := hSw
        go_simp
        try with_reducible rfl
      case hS2c => assumption
      try simp only [Act.put, List.setIfInBounds_toArray, List.set_cons_zero, List.set_cons_succ]
      refine wpAnyH_take (i := 3) (oi := ?oi3c) (v := ?v3c) ?hi3c ?hs3c ?hf3c ?hr3c ?hQ3c ?hy3c ?hS3c ?h3c
      case hi3c => exact (by simp only [List.getElem?_toArray, List.getElem?_cons_succ, List.getElem?_cons_zero]; rfl)
      case hs3c => kernel_rfl
      case hf3c => kernel_rfl
      case hr3c => kernel_rfl
      case hQ3c => exact fun _ _ _ h => h
      case hy3c =>
        refine Or.inl ⟨rfl, ?_⟩
        intro W hSw
        obtain ⟨q0, q1⟩ := hSw
        go_simp
        try with_reducible rfl
      case hS3c => assumption
      try simp only [Act.put, List.setIfInBounds_toArray, List.set_cons_zero, List.set_cons_succ]
      refine wpAnyH_take (i := 4) (oi := ?oi4c) (v := .bool false) ?hi4c ?hs4c ?hf4c ?hr4c ?hQ4c ?hy4c ?hS4c ?h4c
      case hi4c => exact (by simp only [List.getElem?_toArray, List.getElem?_cons_succ, List.getElem?_cons_zero]; rfl)
      case hs4c => kernel_rfl
      case hf4c => kernel_rfl
      case hr4c => kernel_rfl
      case hQ4c => exact fun _ _ _ h => h
      case hy4c =>
        refine Or.inl ⟨rfl, ?_⟩
        intro W hSw
        go_simp
        first | exact of_decide_eq_true HDN.out | (have := of_decide_eq_false HDN.out; omega)
      case hS4c => assumption
      try simp only [Act.put, List.setIfInBounds_toArray, List.set_cons_zero, List.set_cons_succ]
      refine wpAnyH_take (i := 5) (oi := ?oi5c) (v := ?v5c) ?hi5c ?hs5c ?hf5c ?hr5c ?hQ5c ?hy5c ?hS5c ?h5c
      case hi5c => exact (by simp only [List.getElem?_toArray, List.getElem?_cons_succ, List.getElem?_cons_zero]; rfl)
      case hs5c => kernel_rfl
      case hf5c => kernel_rfl
      case hr5c => kernel_rfl
      case hQ5c => exact fun _ _ _ h => h
      case hy5c =>
        refine Or.inl ⟨rfl, ?_⟩
        intro W hSw
        obtain ⟨q0, q1⟩ := hSw
        go_simp
        try with_reducible rfl
      case hS5c => assumption
      try simp only [Act.put, List.setIfInBounds_toArray, List.set_cons_zero, List.set_cons_succ]
      refine wpAnyH_take (i := 6) (oi := ?oi6c) (v := ?v6c) ?hi6c ?hs6c ?hf6c ?hr6c ?hQ6c ?hy6c ?hS6c ?h6c
      case hi6c => exact (by simp only [List.getElem?_toArray, List.getElem?_cons_succ, List.getElem?_cons_zero]; rfl)
      case hs6c => kernel_rfl
      case hf6c => kernel_rfl
      case hr6c => kernel_rfl
      case hQ6c => exact fun _ _ _ h => h
      case hy6c =>
        refine Or.inl ⟨rfl, ?_⟩
        intro W hSw
        obtain ⟨q0, q1⟩ := hSw
        go_simp
        try with_reducible rfl
      case hS6c => assumption
      try simp only [Act.put, List.setIfInBounds_toArray, List.set_cons_zero, List.set_cons_succ]
      refine wpAnyH_take (i := 7) (oi := ?oi7c) (v := ?v7c) ?hi7c ?hs7c ?hf7c ?hr7c ?hQ7c ?hy7c ?hS7c ?h7c
      case hi7c => exact (by simp only [List.getElem?_toArray, List.getElem?_cons_succ, List.getElem?_cons_zero]; rfl)
      case hs7c => kernel_rfl
      case hf7c => kernel_rfl
      case hr7c => kernel_rfl
      case hQ7c => exact fun _ _ _ h => h
      case hy7c =>
        refine Or.inl ⟨rfl, ?_⟩
        intro W hSw
        obtain ⟨q0, q1⟩ := hSw
        go_simp
        try with_reducible rfl
      case hS7c => assumption
      try simp only [Act.put, List.setIfInBounds_toArray, List.set_cons_zero, List.set_cons_succ]
      refine wpAnyH_take (i := 10) (oi := ?oi10c) (v := ?v10c) ?hi10c ?hs10c ?hf10c ?hr10c ?hQ10c ?hy10c ?hS10c ?h10c
      case hi10c => exact (by simp only [List.getElem?_toArray, List.getElem?_cons_succ, List.getElem?_cons_zero]; rfl)
      case hs10c => kernel_rfl
      case hf10c => kernel_rfl
      case hr10c => kernel_rfl
      case hQ10c => exact fun _ _ _ h => h
      case hy10c =>
        refine Or.inl ⟨rfl, ?_⟩
        intro W hSw
        obtain ⟨q0, q1⟩ := hSw
        go_simp
        try with_reducible rfl
      case hS10c => assumption
      try simp only [Act.put, List.setIfInBounds_toArray, List.set_cons_zero, List.set_cons_succ]
      refine wpAnyH_take (i := 11) (oi := ?oi11c) (v := ?v11c) ?hi11c ?hs11c ?hf11c ?hr11c ?hQ11c ?hy11c ?hS11c ?h11c
      case hi11c => exact (by simp only [List.getElem?_toArray, List.getElem?_cons_succ, List.getElem?_cons_zero]; rfl)
      case hs11c => kernel_rfl
      case hf11c => kernel_rfl
      case hr11c => kernel_rfl
      case hQ11c => exact fun _ _ _ h => h
      case hy11c =>
        refine Or.inl ⟨rfl, ?_⟩
        intro W hSw
        obtain ⟨q0, q1⟩ := hSw
        go_simp
        try with_reducible rfl
      case hS11c => assumption
      try simp only [Act.put, List.setIfInBounds_toArray, List.set_cons_zero, List.set_cons_succ]
      refine wpAnyH_take (i := 12) (oi := ?oi12c) (v := ?v12c) ?hi12c ?hs12c ?hf12c ?hr12c ?hQ12c ?hy12c ?hS12c ?h12c
      case hi12c => exact (by simp only [List.getElem?_toArray, List.getElem?_cons_succ, List.getElem?_cons_zero]; rfl)
      case hs12c => kernel_rfl
      case hf12c => kernel_rfl
      case hr12c => kernel_rfl
      case hQ12c => exact fun _ _ _ h => h
      case hy12c =>
        refine Or.inl ⟨rfl, ?_⟩
        intro W hSw
        obtain ⟨q0, q1⟩ := hSw
        go_simp
        try with_reducible rfl
      case hS12c => assumption
      try simp only [Act.put, List.setIfInBounds_toArray, List.set_cons_zero, List.set_cons_succ]
      refine wpAnyH_ready (rs := [8]) (by kernel_rfl) (by simp) ?_
      refine AllReadyH.cons (o := _) rfl (fun K hK => ?_) AllReadyH.nil
      go_simp
      refine (HCMP.out Wc0 HDc.out).mono ?_
      rintro r Wc ⟨vz, zs, rfl, ho, hup, hmm, hbc, hoth⟩
      obtain ⟨Az, cz, rfl⟩ := own_form1 ho
      have HBC : Hid (Below w.heap.size w Wc) := (HBW5.out.trans (HDc.out.mono HBW5.out.size)).trans (hbc.mono HW1.out)
      have HCC : Hid (Wc.cell? ⟨KP, 0, none⟩ = some (.slice Av l.length cv) ∧ Wc.cell? ⟨G, 2, none⟩ = some (.slice s.a s.n s.c)) := by
        obtain ⟨q0, q1⟩ := HS4.out _ HDc.out
        exact ⟨(World.cell?_of_block (hoth KP HNK.out)).trans q0, (World.cell?_of_block (hoth G HNG.out)).trans q1⟩
      have HZL : Hid (zs.length < l.length ↔ ¬ l.Nodup) := by
        have := rise_len hup hmm
        rw [Go.Proofs.YtemjmnpclknfaaaGreat.Z.sorted_len, (Go.Proofs.YtemjmnpclknfaaaGreat.Z.sortedN_perm l).nodup_iff] at this
        exact this
      clear ho hup hmm hbc hoth
      refine hK.out _ _ (HCC.out) (fun hHeld => ?_)
      clear hK K
      try simp only [Act.put, List.setIfInBounds_toArray, List.set_cons_zero, List.set_cons_succ]
      refine wpAnyH_take (i := 9) (oi := ?oi9c) (v := ?v9c) ?hi9c ?hs9c ?hf9c ?hr9c ?hQ9c ?hy9c ?hS9c ?h9c
      case hi9c => exact (by simp only [List.getElem?_toArray, List.getElem?_cons_succ, List.getElem?_cons_zero]; rfl)
      case hs9c => kernel_rfl
      case hf9c => kernel_rfl
      case hr9c => kernel_rfl
      case hQ9c => exact fun _ _ _ h => h
      case hy9c =>
        refine Or.inl ⟨rfl, ?_⟩
        intro W hSw
        obtain ⟨q0, q1⟩ := hSw
        go_simp
        try with_reducible rfl
      case hS9c => assumption
      try simp only [Act.put, List.setIfInBounds_toArray, List.set_cons_zero, List.set_cons_succ]
      refine wpAnyH_take (i := 13) (oi := ?oi13c) (v := ?v13c) ?hi13c ?hs13c ?hf13c ?hr13c ?hQ13c ?hy13c ?hS13c ?h13c
      case hi13c => exact (by simp only [List.getElem?_toArray, List.getElem?_cons_succ, List.getElem?_cons_zero]; rfl)
      case hs13c => kernel_rfl
      case hf13c => kernel_rfl
      case hr13c => kernel_rfl
      case hQ13c => exact fun _ _ _ h => h
      case hy13c =>
        refine Or.inl ⟨rfl, ?_⟩
        intro W hSw
        obtain ⟨q0, q1⟩ := hSw
        go_simp
        try with_reducible rfl
      case hS13c => assumption
      try simp only [Act.put, List.setIfInBounds_toArray, List.set_cons_zero, List.set_cons_succ]
      refine wpAnyH_take (i := 14) (oi := ?oi14c) (v := ?v14c) ?hi14c ?hs14c ?hf14c ?hr14c ?hQ14c ?hy14c ?hS14c ?h14c
      case hi14c => exact (by simp only [List.getElem?_toArray, List.getElem?_cons_succ, List.getElem?_cons_zero]; rfl)
      case hs14c => kernel_rfl
      case hf14c => kernel_rfl
      case hr14c => kernel_rfl
      case hQ14c => exact fun _ _ _ h => h
      case hy14c =>
        refine Or.inl ⟨rfl, ?_⟩
        intro W hSw
        obtain ⟨q0, q1⟩ := hSw
        go_simp
        try with_reducible rfl
      case hS14c => assumption
      try simp only [Act.put, List.setIfInBounds_toArray, List.set_cons_zero, List.set_cons_succ]
      refine wpAnyH_take (i := 15) (oi := ?oi15c) (v := ?v15c) ?hi15c ?hs15c ?hf15c ?hr15c ?hQ15c ?hy15c ?hS15c ?h15c
      case hi15c => exact (by simp only [List.getElem?_toArray, List.getElem?_cons_succ, List.getElem?_cons_zero]; rfl)
      case hs15c => kernel_rfl
      case hf15c => kernel_rfl
      case hr15c => kernel_rfl
      case hQ15c => exact fun _ _ _ h => h
      case hy15c =>
        refine Or.inl ⟨rfl, ?_⟩
        intro W hSw
        obtain ⟨q0, q1⟩ := hSw
        go_simp
        try with_reducible rfl
      case hS15c => assumption
      try simp only [Act.put, List.setIfInBounds_toArray, List.set_cons_zero, List.set_cons_succ]
      refine wpAnyH_done (by kernel_rfl) ?_ _
      go_wp2_with fail
      go_ret
      refine ⟨?_, HBC.out⟩
      have e : b = decide ((zs.length : Int) < (s.n : Int)) := by
        rw [Bool.eq_iff_iff, HBF.out, ← HZL.out, decide_eq_true_iff, HH1.out]
        omega
      rw [e]
      first | rfl | simp
  · have HBT : Hid (b = true) := HBI.out.2 (.inl (of_decide_eq_true HTH.out.symm))
    go_upto_region 4 with (fail)
    have HDa : Hid (Below w5.heap.size w5 w5.drew) := HBR5.out.drew
    refine wp_region_held_drew (S := fun W : World => W.cell? ⟨KP, 0, none⟩ = some (.slice Av l.length cv) ∧ W.cell? ⟨G, 2, none⟩ = some (.slice s.a s.n s.c)) (by kernel_rfl) (HS4.out _ (HDa.out)) (fun hHeld => ?_)
    obtain ⟨Wa0, hW0⟩ : ∃ W0, W0 = w5.drew := ⟨_, rfl⟩
    rw [← hW0] at hHeld HDa ⊢
    clear hW0
    refine wpAnyH_take (i := 0) (oi := ?oi0a) (v := ?v0a) ?hi0a ?hs0a ?hf0a ?hr0a ?hQ0a ?hy0a ?hS0a ?h0a
    case hi0a => exact (by simp only [List.getElem?_toArray, List.getElem?_cons_zero]; rfl)
    case hs0a => kernel_rfl
    case hf0a => kernel_rfl
    case hr0a => kernel_rfl
    case hQ0a => exact fun _ _ _ h => h
    case hy0a =>
      refine Or.inl ⟨rfl, ?_⟩
      intro W hSw
      obtain ⟨q0, q1⟩ := hSw
      go_simp
      try with_reducible rfl
    case hS0a => assumption
    try simp only [Act.put, List.setIfInBounds_toArray, List.set_cons_zero, List.set_cons_succ]
    refine wpAnyH_take (i := 1) (oi := ?oi1a) (v := ?v1a) ?hi1a ?hs1a ?hf1a ?hr1a ?hQ1a ?hy1a ?hS1a ?h1a
    case hi1a => exact (by simp only [List.getElem?_toArray, List.getElem?_cons_succ, List.getElem?_cons_zero]; rfl)
    case hs1a => kernel_rfl
    case hf1a => kernel_rfl
    case hr1a => kernel_rfl
    case hQ1a => exact fun _ _ _ h => h
    case hy1a =>
      refine Or.inl ⟨rfl, ?_⟩
      intro W hSw
      obtain ⟨q0, q1⟩ := hSw
      go_simp
      try with_reducible rfl
    case hS1a => assumption
    try simp only [Act.put, List.setIfInBounds_toArray, List.set_cons_zero, List.set_cons_succ]
    refine wpAnyH_take (i := 2) (oi := ?oi2a) (v := undef) ?hi2a ?hs2a ?hf2a ?hr2a ?hQ2a ?hy2a ?hS2a ?h2a
    case hi2a => exact (by simp only [List.getElem?_toArray, List.getElem?_cons_succ, List.getElem?_cons_zero]; rfl)
    case hs2a => kernel_rfl
    case hf2a => kernel_rfl
    case hr2a => kernel_rfl
    case hQ2a => exact fun _ _ _ h => h
    case hy2a =>
      exact Or.inr ⟨rfl, rfl⟩
    case hS2a => assumption
    try simp only [Act.put, List.setIfInBounds_toArray, List.set_cons_zero, List.set_cons_succ]
    refine wpAnyH_take (i := 3) (oi := ?oi3a) (v := undef) ?hi3a ?hs3a ?hf3a ?hr3a ?hQ3a ?hy3a ?hS3a ?h3a
    case hi3a => exact (by simp only [List.getElem?_toArray, List.getElem?_cons_succ, List.getElem?_cons_zero]; rfl)
    case hs3a => kernel_rfl
    case hf3a => kernel_rfl
    case hr3a => kernel_rfl
    case hQ3a => exact fun _ _ _ h => h
    case hy3a =>
      exact Or.inr ⟨rfl, rfl⟩
    case hS3a => assumption
    try simp only [Act.put, List.setIfInBounds_toArray, List.set_cons_zero, List.set_cons_succ]
    refine wpAnyH_take (i := 4) (oi := ?oi4a) (v := undef) ?hi4a ?hs4a ?hf4a ?hr4a ?hQ4a ?hy4a ?hS4a ?h4a
    case hi4a => exact (by simp only [List.getElem?_toArray, List.getElem?_cons_succ, List.getElem?_cons_zero]; rfl)
    case hs4a => kernel_rfl
    case hf4a => kernel_rfl
    case hr4a => kernel_rfl
    case hQ4a => exact fun _ _ _ h => h
    case hy4a =>
      exact Or.inr ⟨rfl, rfl⟩
    case hS4a => assumption
    try simp only [Act.put, List.setIfInBounds_toArray, List.set_cons_zero, List.set_cons_succ]
    refine wpAnyH_take (i := 5) (oi := ?oi5a) (v := ?v5a) ?hi5a ?hs5a ?hf5a ?hr5a ?hQ5a ?hy5a ?hS5a ?h5a
    case hi5a => exact (by simp only [List.getElem?_toArray, List.getElem?_cons_succ, List.getElem?_cons_zero]; rfl)
    case hs5a => kernel_rfl
    case hf5a => kernel_rfl
    case hr5a => kernel_rfl
    case hQ5a => exact fun _ _ _ h => h
    case hy5a =>
      refine Or.inl ⟨rfl, ?_⟩
      intro W hSw
      obtain ⟨q0, q1⟩ := hSw
      go_simp
      try with_reducible rfl
    case hS5a => assumption
    try simp only [Act.put, List.setIfInBounds_toArray, List.set_cons_zero, List.set_cons_succ]
    refine wpAnyH_take (i := 6) (oi := ?oi6a) (v := ?v6a) ?hi6a ?hs6a ?hf6a ?hr6a ?hQ6a ?hy6a ?hS6a ?h6a
    case hi6a => exact (by simp only [List.getElem?_toArray, List.getElem?_cons_succ, List.getElem?_cons_zero]; rfl)
    case hs6a => kernel_rfl
    case hf6a => kernel_rfl
    case hr6a => kernel_rfl
    case hQ6a => exact fun _ _ _ h => h
    case hy6a =>
      refine Or.inl ⟨rfl, ?_⟩
      intro W hSw
      obtain ⟨q0, q1⟩ := hSw
      go_simp
      try with_reducible rfl
    case hS6a => assumption
    try simp only [Act.put, List.setIfInBounds_toArray, List.set_cons_zero, List.set_cons_succ]
    refine wpAnyH_take (i := 7) (oi := ?oi7a) (v := undef) ?hi7a ?hs7a ?hf7a ?hr7a ?hQ7a ?hy7a ?hS7a ?h7a
    case hi7a => exact (by simp only [List.getElem?_toArray, List.getElem?_cons_succ, List.getElem?_cons_zero]; rfl)
    case hs7a => kernel_rfl
    case hf7a => kernel_rfl
    case hr7a => kernel_rfl
    case hQ7a => exact fun _ _ _ h => h
    case hy7a =>
      exact Or.inr ⟨rfl, rfl⟩
    case hS7a => assumption
    try simp only [Act.put, List.setIfInBounds_toArray, List.set_cons_zero, List.set_cons_succ]
    refine wpAnyH_take (i := 8) (oi := ?oi8a) (v := undef) ?hi8a ?hs8a ?hf8a ?hr8a ?hQ8a ?hy8a ?hS8a ?h8a
    case hi8a => exact (by simp only [List.getElem?_toArray, List.getElem?_cons_succ, List.getElem?_cons_zero]; rfl)
    case hs8a => kernel_rfl
    case hf8a => kernel_rfl
    case hr8a => kernel_rfl
    case hQ8a => exact fun _ _ _ h => h
    case hy8a =>
      exact Or.inr ⟨rfl, rfl⟩
    case hS8a => assumption
    try simp only [Act.put, List.setIfInBounds_toArray, List.set_cons_zero, List.set_cons_succ]
    refine wpAnyH_take (i := 9) (oi := ?oi9a) (v := undef) ?hi9a ?hs9a ?hf9a ?hr9a ?hQ9a ?hy9a ?hS9a ?h9a
    case hi9a => exact (by simp only [List.getElem?_toArray, List.getElem?_cons_succ, List.getElem?_cons_zero]; rfl)
    case hs9a => kernel_rfl
    case hf9a => kernel_rfl
    case hr9a => kernel_rfl
    case hQ9a => exact fun _ _ _ h => h
    case hy9a =>
      exact Or.inr ⟨rfl, rfl⟩
    case hS9a => assumption
    try simp only [Act.put, List.setIfInBounds_toArray, List.set_cons_zero, List.set_cons_succ]
    refine wpAnyH_take (i := 10) (oi := ?oi10a) (v := undef) ?hi10a ?hs10a ?hf10a ?hr10a ?hQ10a ?hy10a ?hS10a ?h10a
    case hi10a => exact (by simp only [List.getElem?_toArray, List.getElem?_cons_succ, List.getElem?_cons_zero]; rfl)
    case hs10a => kernel_rfl
    case hf10a => kernel_rfl
    case hr10a => kernel_rfl
    case hQ10a => exact fun _ _ _ h => h
    case hy10a =>
      exact Or.inr ⟨rfl, rfl⟩
    case hS10a => assumption
    try simp only [Act.put, List.setIfInBounds_toArray, List.set_cons_zero, List.set_cons_succ]
    refine wpAnyH_take (i := 11) (oi := ?oi11a) (v := undef) ?hi11a ?hs11a ?hf11a ?hr11a ?hQ11a ?hy11a ?hS11a ?h11a
    case hi11a => exact (by simp only [List.getElem?_toArray, List.getElem?_cons_succ, List.getElem?_cons_zero]; rfl)
    case hs11a => kernel_rfl
    case hf11a => kernel_rfl
    case hr11a => kernel_rfl
    case hQ11a => exact fun _ _ _ h => h
    case hy11a =>
      exact Or.inr ⟨rfl, rfl⟩
    case hS11a => assumption
    try simp only [Act.put, List.setIfInBounds_toArray, List.set_cons_zero, List.set_cons_succ]
    refine wpAnyH_take (i := 12) (oi := ?oi12a) (v := undef) ?hi12a ?hs12a ?hf12a ?hr12a ?hQ12a ?hy12a ?hS12a ?h12a
    case hi12a => exact (by simp only [List.getElem?_toArray, List.getElem?_cons_succ, List.getElem?_cons_zero]; rfl)
    case hs12a => kernel_rfl
    case hf12a => kernel_rfl
    case hr12a => kernel_rfl
    case hQ12a => exact fun _ _ _ h => h
    case hy12a =>
      exact Or.inr ⟨rfl, rfl⟩
    case hS12a => assumption
    try simp only [Act.put, List.setIfInBounds_toArray, List.set_cons_zero, List.set_cons_succ]
    refine wpAnyH_take (i := 13) (oi := ?oi13a) (v := undef) ?hi13a ?hs13a ?hf13a ?hr13a ?hQ13a ?hy13a ?hS13a ?h13a
    case hi13a => exact (by simp only [List.getElem?_toArray, List.getElem?_cons_succ, List.getElem?_cons_zero]; rfl)
    case hs13a => kernel_rfl
    case hf13a => kernel_rfl
    case hr13a => kernel_rfl
    case hQ13a => exact fun _ _ _ h => h
    case hy13a =>
      exact Or.inr ⟨rfl, rfl⟩
    case hS13a => assumption
    try simp only [Act.put, List.setIfInBounds_toArray, List.set_cons_zero, List.set_cons_succ]
    refine wpAnyH_take (i := 14) (oi := ?oi14a) (v := ?v14a) ?hi14a ?hs14a ?hf14a ?hr14a ?hQ14a ?hy14a ?hS14a ?h14a
    case hi14a => exact (by simp only [List.getElem?_toArray, List.getElem?_cons_succ, List.getElem?_cons_zero]; rfl)
    case hs14a => kernel_rfl
    case hf14a => kernel_rfl
    case hr14a => kernel_rfl
    case hQ14a => exact fun _ _ _ h => h
    case hy14a =>
      refine Or.inl ⟨rfl, ?_⟩
      intro W hSw
      obtain ⟨q0, q1⟩ := hSw
      go_simp
      try with_reducible rfl
    case hS14a => assumption
    try simp only [Act.put, List.setIfInBounds_toArray, List.set_cons_zero, List.set_cons_succ]
    refine wpAnyH_take (i := 15) (oi := ?oi15a) (v := ?v15a) ?hi15a ?hs15a ?hf15a ?hr15a ?hQ15a ?hy15a ?hS15a ?h15a
    case hi15a => exact (by simp only [List.getElem?_toArray, List.getElem?_cons_succ, List.getElem?_cons_zero]; rfl)
    case hs15a => kernel_rfl
    case hf15a => kernel_rfl
    case hr15a => kernel_rfl
    case hQ15a => exact fun _ _ _ h => h
    case hy15a =>
      refine Or.inl ⟨rfl, ?_⟩
      intro W hSw
      obtain ⟨q0, q1⟩ := hSw
      go_simp
      try with_reducible rfl
    case hS15a => assumption
    try simp only [Act.put, List.setIfInBounds_toArray, List.set_cons_zero, List.set_cons_succ]
    refine wpAnyH_done (by kernel_rfl) ?_ _
    go_wp2_with fail
    go_ret
    exact ⟨by rw [HBT.out]; first | rfl | simp, HBW5.out.trans (HDa.out.mono HBW5.out.size)⟩
end Go.Proofs.YtemjmnpclknfaaaGreat.T
