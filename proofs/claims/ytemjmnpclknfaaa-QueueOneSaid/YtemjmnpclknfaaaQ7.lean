/- Ready: a check told. -/
import Derived.Test.YtemjmnpclknfaaaQ6
import Derived.Test.YtemjmnpclknfaaaQ3
namespace Go.Proofs.Ytemjmnpclknfaaa.P
open Go.RowKit
set_option maxRecDepth 20000
set_option linter.unusedVariables false
set_option linter.unusedSimpArgs false

abbrev put4 (W : World) (R id : Nat) (a b : Sl) (t : Int) : World := (((W.setCell ⟨R, 0, none⟩ (.int .u32 (id : Int))).setCell ⟨R, 1, none⟩ (.slice a.a a.n a.c)).setCell ⟨R, 2, none⟩ (.slice b.a b.n b.c)).setCell ⟨R, 3, none⟩ (.int .i64 t)
theorem put4_row {W : World} {R : Nat} {z0 z1 z2 z3 : Value} (id : Nat) (a b : Sl) (t : Int) (h : W.heap[R]? = some (.cells #[z0, z1, z2, z3] 33 (0, 0))) : (put4 W R id a b t).heap[R]? = some (.cells (cC id a b t) 33 (0, 0)) := by
  have s1 := heap_setCell_same W R 0 _ 33 (.int .u32 (id : Int)) h
  have s2 := heap_setCell_same _ R 1 _ 33 (.slice a.a a.n a.c) s1
  have s3 := heap_setCell_same _ R 2 _ 33 (.slice b.a b.n b.c) s2
  have s4 := heap_setCell_same _ R 3 _ 33 (.int .i64 t) s3
  exact s4
theorem put4_other {W : World} {R : Nat} (id : Nat) (a b : Sl) (t : Int) {g : Nat} (hg : g ≠ R) : (put4 W R id a b t).heap[g]? = W.heap[g]? :=
  (((Below.heap_setCell _ _ _ _ hg).trans (Below.heap_setCell _ _ _ _ hg)).trans (Below.heap_setCell _ _ _ _ hg)).trans (Below.heap_setCell _ _ _ _ hg)
theorem put4_below {k R : Nat} {w W : World} (id : Nat) (a b : Sl) (t : Int) (h : Below k w W) (hk : k ≤ R) : Below k w (put4 W R id a b t) := (((h.setCell hk _).setCell hk _).setCell hk _).setCell hk _
theorem cell4 {W : World} {R id : Nat} {a b : Sl} {t : Int} (h : W.heap[R]? = some (.cells (cC id a b t) 33 (0, 0))) :
    W.cell? ⟨R, 0, none⟩ = some (.int .u32 (id : Int)) ∧ W.cell? ⟨R, 1, none⟩ = some (.slice a.a a.n a.c) ∧ W.cell? ⟨R, 2, none⟩ = some (.slice b.a b.n b.c) ∧ W.cell? ⟨R, 3, none⟩ = some (.int .i64 t) :=
  ⟨cell_of_row W R 0 _ _ _ h, cell_of_row W R 1 _ _ _ h, cell_of_row W R 2 _ _ _ h, cell_of_row W R 3 _ _ _ h⟩
/-- A check told: its lists are its own. -/
def TldP (id : Nat) (l ys : List Nat) (t : Int) (B : Nat) (w : World) (v : Value) (w' : World) : Prop := ∃ (A1 A2 : Option Addr) (c1 c2 : Nat), v = cV id ⟨A1, l.length, c1⟩ ⟨A2, ys.length, c2⟩ t ∧ w'.ownsRow B 26 1 (.slice A1 l.length c1) l.length (un l) ∧ w'.ownsRow B 26 1 (.slice A2 ys.length c2) ys.length (un ys) ∧ Below B w w'
set_option maxHeartbeats 4000000 in
theorem check_any (id : Nat) (a b : Sl) (t : Int) (l ys : List Nat) (w : World) (ha : a.n = l.length) (hb : b.n = ys.length) (hA : Rn w a.a l) (hB : Rn w b.a ys) (hl : l.length ≤ 100) (hyl : ys.length ≤ 100) :
    Calls Try.prog 38 #[mV a b t, .int .u32 (id : Int)] w fun r w' => ∃ v, r = .returned v ∧ TldP id l ys t w.heap.size w v w' := by
  unfold TldP
  rw [← ha, ← hb]
  obtain ⟨w0, hw0⟩ : ∃ w0, w0 = (w.alloc (.cells (mC a b t) 86)).alloc (.cells #[.int .u32 0, .slice none 0 0, .slice none 0 0, .int .i64 0] 33) := ⟨_, rfl⟩
  have hb0 : Below w.heap.size w w0 := by rw [hw0]; exact ((Below.refl _ _).alloc (Nat.le_refl _) _).alloc (by simp) _
  have hr0 : w0.heap[w.heap.size + 1]? = some (.cells #[.int .u32 0, .slice none 0 0, .slice none 0 0, .int .i64 0] 33 (0, 0)) := by
    have := heap_alloc_new (w.alloc (.cells (mC a b t) 86)) (.cells #[.int .u32 0, .slice none 0 0, .slice none 0 0, .int .i64 0] 33)
    rw [hw0]
    simpa using this
  have hp0 : w0.heap[w.heap.size]? = some (.cells (mC a b t) 86 (0, 0)) := by
    have hbb : Below (w.heap.size + 1) (w.alloc (.cells (mC a b t) 86)) w0 := by rw [hw0]; exact (Below.refl _ _).alloc (by simp) _
    exact (hbb.block _ (by omega)).trans (heap_alloc_new w _)
  have HCE : Hid (∀ W, Below w0.heap.size w0 W → (fun W : World => W.cell? ⟨w.heap.size, 0, none⟩ = some (.slice a.a a.n a.c) ∧ W.cell? ⟨w.heap.size, 1, none⟩ = some (.slice b.a b.n b.c) ∧ W.cell? ⟨w.heap.size, 2, none⟩ = some (.int .i64 t)) W) := fun W hW => by
    have e := (hW.block _ (lt_of_block hp0)).trans hp0
    exact ⟨cell_of_row W _ 0 _ _ _ e, cell_of_row W _ 1 _ _ _ e, cell_of_row W _ 2 _ _ _ e⟩
  have HC1 : Hid (∀ W, Below w0.heap.size w0 W → Calls Try.prog 49 #[.slice a.a a.n a.c] W fun r w' => ∃ A' c', r = .returned (.slice A' a.n c') ∧ w'.ownsRow W.heap.size 26 1 (.slice A' a.n c') a.n (un l) ∧ Below W.heap.size W w') := fun W hW => clone_rn a.a a.n a.c l W ha (hA.after (hb0.trans (hW.mono hb0.size))) (by omega)
  have HC2 : Hid (∀ W, Below w0.heap.size w0 W → Calls Try.prog 49 #[.slice b.a b.n b.c] W fun r w' => ∃ A' c', r = .returned (.slice A' b.n c') ∧ w'.ownsRow W.heap.size 26 1 (.slice A' b.n c') b.n (un ys) ∧ Below W.heap.size W w') := fun W hW => clone_rn b.a b.n b.c ys W hb (hB.after (hb0.trans (hW.mono hb0.size))) (by omega)
  have HBS : Hid (Below w0.heap.size w0 w0) := Below.refl _ _
  have H0 := Lib.hid hw0
  have HR0 := Lib.hid hr0
  have HP0 := Lib.hid hp0
  have HB0 := Lib.hid hb0
  have HSZ : Hid (w.heap.size + 1 < w0.heap.size) := lt_of_block hr0
  clear hw0 hr0 hp0 hb0 ha hb hA hB hl hyl
  go_enter Try.func38, Try.ntmps38
  go_upto_region 1 with (fail)
  rw [← H0.out]
  have HDc : Hid (Below w0.heap.size w0 w0.drew) := HBS.out.drew
  refine wp_region_held_drew (S := fun W : World => W.cell? ⟨w.heap.size, 0, none⟩ = some (.slice a.a a.n a.c) ∧ W.cell? ⟨w.heap.size, 1, none⟩ = some (.slice b.a b.n b.c) ∧ W.cell? ⟨w.heap.size, 2, none⟩ = some (.int .i64 t)) (by kernel_rfl) (HCE.out _ (HDc.out)) (fun hHeld => ?_)
  obtain ⟨Wc0, hW0⟩ : ∃ W0, W0 = w0.drew := ⟨_, rfl⟩
  rw [← hW0] at hHeld HDc ⊢
  clear hW0
  refine wpAnyH_take (i := 0) (oi := ?oi0c) (v := ?v0c) ?hi0c ?hs0c ?hf0c ?hr0c ?hQ0c ?hy0c ?hS0c ?h0c
  case hi0c => exact (by simp only [List.getElem?_toArray, List.getElem?_cons_zero]; rfl)
  case hs0c => kernel_rfl
  case hf0c => kernel_rfl
  case hr0c => kernel_rfl
  case hQ0c => exact fun _ _ _ h => h
  case hy0c =>
    refine Or.inl ⟨rfl, ?_⟩
    intro W hSw
    obtain ⟨y0, y1, y2⟩ := hSw
    go_simp
    try with_reducible rfl
  case hS0c => assumption
  try simp only [Act.put, List.setIfInBounds_toArray, List.set_cons_zero, List.set_cons_succ]
  refine wpAnyH_take (i := 1) (oi := ?oi1c) (v := ?v1c) ?hi1c ?hs1c ?hf1c ?hr1c ?hQ1c ?hy1c ?hS1c ?h1c
  case hi1c => exact (by simp only [List.getElem?_toArray, List.getElem?_cons_succ, List.getElem?_cons_zero]; rfl)
  case hs1c => kernel_rfl
  case hf1c => kernel_rfl
  case hr1c => kernel_rfl
  case hQ1c => exact fun _ _ _ h => h
  case hy1c =>
    refine Or.inl ⟨rfl, ?_⟩
    intro W hSw
    obtain ⟨y0, y1, y2⟩ := hSw
    go_simp
    try with_reducible rfl
  case hS1c => assumption
  try simp only [Act.put, List.setIfInBounds_toArray, List.set_cons_zero, List.set_cons_succ]
  refine wpAnyH_take (i := 2) (oi := ?oi2c) (v := ?v2c) ?hi2c ?hs2c ?hf2c ?hr2c ?hQ2c ?hy2c ?hS2c ?h2c
  case hi2c => exact (by simp only [List.getElem?_toArray, List.getElem?_cons_succ, List.getElem?_cons_zero]; rfl)
  case hs2c => kernel_rfl
  case hf2c => kernel_rfl
  case hr2c => kernel_rfl
  case hQ2c => exact fun _ _ _ h => h
  case hy2c =>
    refine Or.inl ⟨rfl, ?_⟩
    intro W hSw
    obtain ⟨y0, y1, y2⟩ := hSw
    go_simp
    try with_reducible rfl
  case hS2c => assumption
  try simp only [Act.put, List.setIfInBounds_toArray, List.set_cons_zero, List.set_cons_succ]
  refine wpAnyH_take (i := 4) (oi := ?oi4c) (v := ?v4c) ?hi4c ?hs4c ?hf4c ?hr4c ?hQ4c ?hy4c ?hS4c ?h4c
  case hi4c => exact (by simp only [List.getElem?_toArray, List.getElem?_cons_succ, List.getElem?_cons_zero]; rfl)
  case hs4c => kernel_rfl
  case hf4c => kernel_rfl
  case hr4c => kernel_rfl
  case hQ4c => exact fun _ _ _ h => h
  case hy4c =>
    refine Or.inl ⟨rfl, ?_⟩
    intro W hSw
    obtain ⟨y0, y1, y2⟩ := hSw
    go_simp
    try with_reducible rfl
  case hS4c => assumption
  try simp only [Act.put, List.setIfInBounds_toArray, List.set_cons_zero, List.set_cons_succ]
  refine wpAnyH_take (i := 5) (oi := ?oi5c) (v := ?v5c) ?hi5c ?hs5c ?hf5c ?hr5c ?hQ5c ?hy5c ?hS5c ?h5c
  case hi5c => exact (by simp only [List.getElem?_toArray, List.getElem?_cons_succ, List.getElem?_cons_zero]; rfl)
  case hs5c => kernel_rfl
  case hf5c => kernel_rfl
  case hr5c => kernel_rfl
  case hQ5c => exact fun _ _ _ h => h
  case hy5c =>
    refine Or.inl ⟨rfl, ?_⟩
    intro W hSw
    obtain ⟨y0, y1, y2⟩ := hSw
    go_simp
    try with_reducible rfl
  case hS5c => assumption
  try simp only [Act.put, List.setIfInBounds_toArray, List.set_cons_zero, List.set_cons_succ]
  refine wpAnyH_take (i := 7) (oi := ?oi7c) (v := ?v7c) ?hi7c ?hs7c ?hf7c ?hr7c ?hQ7c ?hy7c ?hS7c ?h7c
  case hi7c => exact (by simp only [List.getElem?_toArray, List.getElem?_cons_succ, List.getElem?_cons_zero]; rfl)
  case hs7c => kernel_rfl
  case hf7c => kernel_rfl
  case hr7c => kernel_rfl
  case hQ7c => exact fun _ _ _ h => h
  case hy7c =>
    refine Or.inl ⟨rfl, ?_⟩
    intro W hSw
    obtain ⟨y0, y1, y2⟩ := hSw
    go_simp
    try with_reducible rfl
  case hS7c => assumption
  try simp only [Act.put, List.setIfInBounds_toArray, List.set_cons_zero, List.set_cons_succ]
  refine wpAnyH_take (i := 8) (oi := ?oi8c) (v := ?v8c) ?hi8c ?hs8c ?hf8c ?hr8c ?hQ8c ?hy8c ?hS8c ?h8c
  case hi8c => exact (by simp only [List.getElem?_toArray, List.getElem?_cons_succ, List.getElem?_cons_zero]; rfl)
  case hs8c => kernel_rfl
  case hf8c => kernel_rfl
  case hr8c => kernel_rfl
  case hQ8c => exact fun _ _ _ h => h
  case hy8c =>
    refine Or.inl ⟨rfl, ?_⟩
    intro W hSw
    obtain ⟨y0, y1, y2⟩ := hSw
    go_simp
    try with_reducible rfl
  case hS8c => assumption
  try simp only [Act.put, List.setIfInBounds_toArray, List.set_cons_zero, List.set_cons_succ]
  refine wpAnyH_ready (rs := [3]) (by kernel_rfl) (by simp) ?_
  refine AllReadyH.cons (o := _) rfl (fun K hK => ?_) AllReadyH.nil
  go_simp
  refine (HC1.out Wc0 HDc.out).mono ?_
  rintro r Wc1 ⟨A1, c1, rfl, ho1, hbq⟩
  have HBc1 := Lib.hid (HDc.out.trans (hbq.mono HDc.out.size))
  have HO1 := Lib.hid ho1
  clear ho1
  clear hbq
  refine hK.out _ _ (HCE.out _ (HBc1.out)) (fun hHeld => ?_)
  clear hK K
  try simp only [Act.put, List.setIfInBounds_toArray, List.set_cons_zero, List.set_cons_succ]
  refine wpAnyH_ready (rs := [6]) (by kernel_rfl) (by simp) ?_
  refine AllReadyH.cons (o := _) rfl (fun K hK => ?_) AllReadyH.nil
  go_simp
  refine (HC2.out Wc1 HBc1.out).mono ?_
  rintro r Wc2 ⟨A2, c2, rfl, ho2, hbq⟩
  have HBc2 := Lib.hid (HBc1.out.trans (hbq.mono HBc1.out.size))
  have HO2 := Lib.hid ho2
  have HO1b := Lib.hid (own_after HO1.out fun g hg => hbq.block g (ownlt HO1.out g hg).2)
  clear ho2
  clear hbq
  refine hK.out _ _ (HCE.out _ (HBc2.out)) (fun hHeld => ?_)
  clear hK K
  try simp only [Act.put, List.setIfInBounds_toArray, List.set_cons_zero, List.set_cons_succ]
  refine wpAnyH_take (i := 9) (oi := ?oi9c) (v := ?v9c) ?hi9c ?hs9c ?hf9c ?hr9c ?hQ9c ?hy9c ?hS9c ?h9c
  case hi9c => exact (by simp only [List.getElem?_toArray, List.getElem?_cons_succ, List.getElem?_cons_zero]; rfl)
  case hs9c => kernel_rfl
  case hf9c => kernel_rfl
  case hr9c => kernel_rfl
  case hQ9c => exact fun _ _ _ h => h
  case hy9c =>
    refine Or.inl ⟨rfl, ?_⟩
    intro W hSw
    obtain ⟨y0, y1, y2⟩ := hSw
    go_simp
    try with_reducible rfl
  case hS9c => assumption
  try simp only [Act.put, List.setIfInBounds_toArray, List.set_cons_zero, List.set_cons_succ]
  refine wpAnyH_ready (rs := [10]) (by kernel_rfl) (by simp) ?_
  refine AllReadyH.cons (o := _) rfl (fun K hK => ?_) AllReadyH.nil
  have hq8 := (HBc2.out.block _ (lt_of_block HR0.out)).trans HR0.out
  have x0 := cell_of_row Wc2 (w.heap.size + 1) 0 _ _ _ hq8
  have x1 := cell_of_row Wc2 (w.heap.size + 1) 1 _ _ _ hq8
  have x2 := cell_of_row Wc2 (w.heap.size + 1) 2 _ _ _ hq8
  have x3 := cell_of_row Wc2 (w.heap.size + 1) 3 _ _ _ hq8
  simp at x0 x1 x2 x3
  have xf : ∀ i, Wc2.frozen? ⟨w.heap.size + 1, i, none⟩ = false := fun i => frozen_of_row Wc2 _ i _ _ hq8
  go_simp
  have HRW : Hid ((put4 Wc2 (w.heap.size + 1) id ⟨A1, a.n, c1⟩ ⟨A2, b.n, c2⟩ t).heap[w.heap.size + 1]? = some (.cells (cC id ⟨A1, a.n, c1⟩ ⟨A2, b.n, c2⟩ t) 33 (0, 0))) := put4_row id _ _ t hq8
  obtain ⟨W8, hW8⟩ : ∃ W8, W8 = put4 Wc2 (w.heap.size + 1) id ⟨A1, a.n, c1⟩ ⟨A2, b.n, c2⟩ t := ⟨_, rfl⟩
  rw [← hW8] at HRW
  have HOT : Hid (∀ g, g ≠ w.heap.size + 1 → W8.heap[g]? = Wc2.heap[g]?) := fun g hg => by rw [hW8]; exact put4_other _ _ _ _ hg
  have HB8 : Hid (Below w.heap.size w W8) := by rw [hW8]; exact put4_below id _ _ t (HB0.out.trans (HBc2.out.mono HB0.out.size)) (Nat.le_succ _)
  unfold put4 at hW8
  rw [← hW8]
  clear hW8 hq8 x0 x1 x2 x3 xf
  refine hK.out _ _ ((by have e := (HOT.out w.heap.size (by omega)).trans ((HBc2.out.block _ (lt_of_block HP0.out)).trans HP0.out); exact ⟨cell_of_row W8 _ 0 _ _ _ e, cell_of_row W8 _ 1 _ _ _ e, cell_of_row W8 _ 2 _ _ _ e⟩)) (fun hHeld => ?_)
  clear hK K
  try simp only [Act.put, List.setIfInBounds_toArray, List.set_cons_zero, List.set_cons_succ]
  refine wpAnyH_done (by kernel_rfl) ?_ _
  have hx := cell4 HRW.out
  obtain ⟨e0, e1, e2, e3⟩ := hx
  have hne : ∀ (g : Nat) (B : Nat) (v : Value) (W : World), W.ownsRow B 26 1 v a.n (un l) → w0.heap.size ≤ B → v.ownBlock = some g → g ≠ w.heap.size + 1 := fun g B v W h hB hg => by
    have := (ownlt h g hg).1
    have := HSZ.out
    omega
  have hne2 : ∀ (g : Nat) (B : Nat) (v : Value) (W : World), W.ownsRow B 26 1 v b.n (un ys) → w0.heap.size ≤ B → v.ownBlock = some g → g ≠ w.heap.size + 1 := fun g B v W h hB hg => by
    have := (ownlt h g hg).1
    have := HSZ.out
    omega
  have hs1 : w0.heap.size ≤ Wc0.heap.size := HDc.out.size
  have hs2 : w0.heap.size ≤ Wc1.heap.size := HBc1.out.size
  have o1 := own_base' (own_after HO1b.out fun g hg => HOT.out g (hne g _ _ _ HO1b.out hs1 hg)) (show w.heap.size ≤ _ from Nat.le_trans HB0.out.size hs1)
  have o2 := own_base' (own_after HO2.out fun g hg => HOT.out g (hne2 g _ _ _ HO2.out hs2 hg)) (show w.heap.size ≤ _ from Nat.le_trans HB0.out.size hs2)
  have HF : Hid (W8.ownsRow w.heap.size 26 1 (.slice A1 a.n c1) a.n (un l) ∧ W8.ownsRow w.heap.size 26 1 (.slice A2 b.n c2) b.n (un ys)) := ⟨o1, o2⟩
  clear o1 o2 hne hne2 hs1 hs2
  go_wp2_with fail
  exact bodyPost_ret (v := cV id ⟨A1, a.n, c1⟩ ⟨A2, b.n, c2⟩ t) (by simp [results, Try.results38, go_sem, e0, e1, e2, e3]) rfl ⟨_, rfl, A1, A2, c1, c2, rfl, HF.out.1, HF.out.2, HB8.out⟩
end Go.Proofs.Ytemjmnpclknfaaa.P
