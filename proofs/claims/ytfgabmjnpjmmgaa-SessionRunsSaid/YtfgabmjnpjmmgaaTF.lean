/- Session: the document's Open. -/
import Derived.Test.YtfgabmjnpjmmgaaTE
namespace Go.Proofs.Ytfgabmjnpjmmgaa.T
open Go.RowKit
set_option maxRecDepth 20000
set_option linter.unusedVariables false
set_option linter.unusedSimpArgs false

theorem ins_app_lt {x : Nat} {z : Mk} {b : List Lk} : ∀ {a : List Lk}, (∃ e ∈ a, x < e.1) → insS x z (a ++ b) = insS x z a ++ b
  | [], h => by obtain ⟨e, he, _⟩ := h; simp at he
  | e :: a, h => by
    by_cases he : x < e.1
    · simp [insS, he]
    · have ih := ins_app_lt (x := x) (z := z) (b := b) (a := a) (by
        obtain ⟨e', h1, h2⟩ := h
        rcases List.mem_cons.1 h1 with rfl | h1
        · exact absurd h2 he
        · exact ⟨e', h1, h2⟩)
      simp [insS, he, ih]
theorem ins_app_ge {x : Nat} {z : Mk} {b : List Lk} : ∀ {a : List Lk}, (∀ e ∈ a, ¬ x < e.1) → insS x z (a ++ b) = a ++ insS x z b
  | [], h => rfl
  | e :: a, h => by
    have ih := ins_app_ge (x := x) (z := z) (b := b) (a := a) (fun e' he' => h e' (List.mem_cons_of_mem _ he'))
    simp [insS, h e (List.mem_cons_self ..), ih]
theorem len_ins (x : Nat) (z : Mk) : ∀ l : List Lk, (insS x z l).length = l.length + 1
  | [] => rfl
  | e :: l => by
    unfold insS
    split
    · rfl
    · rw [List.length_cons, len_ins x z l, List.length_cons]
/-- What is in the new table when k links were looked at. -/
def rowsI (x : Nat) (now : Int) (b : Bool) (l : List Lk) : List Lk := if b = true then insS x (now, 0) l else l
def flI (x : Nat) (b : Bool) (l : List Lk) : Prop := if b = true then ∃ e ∈ l, x < e.1 else ∀ e ∈ l, ¬ x < e.1
theorem take_one {l : List Lk} {k : Nat} {e : Lk} (h : l[k]? = some e) : l.take (k + 1) = l.take k ++ [e] := by rw [List.take_add_one, h]; rfl
theorem len_rowsI (x : Nat) (now : Int) (b : Bool) (l : List Lk) (k : Nat) : (rowsI x now b (l.take k)).length ≤ k + 1 := by
  have : (l.take k).length ≤ k := by rw [List.length_take]; omega
  unfold rowsI
  split
  · rw [len_ins]; omega
  · omega

set_option maxHeartbeats 4000000 in
theorem ropen_id (A : Option Addr) (n c : Nat) (most idle : Int) (l : List Lk) (x : Nat) (now : Int) (w : World) (hn : n = l.length) (hR : Rs w w.heap.size A l) (hl : n ≤ 100) (hp : ¬ (1 ≤ x ∧ x ≤ 2147483647)) :
    Calls Try.prog 9 #[rV A n c most idle, .int .u32 (x : Int), .int .i64 now] w (Q2 A most idle 14 l w) := by
  obtain ⟨wa, hwa⟩ : ∃ wa, wa = w.alloc (.cells (rC A n c most idle) 27) := ⟨_, rfl⟩
  have hsa : wa.heap.size = w.heap.size + 1 := by rw [hwa]; simp
  have hba : Below w.heap.size w wa := by rw [hwa]; exact (Below.refl _ _).alloc (Nat.le_refl _) _
  have hqa : wa.heap[w.heap.size]? = some (.cells (rC A n c most idle) 27 (0, 0)) := by rw [hwa]; exact heap_alloc_new w _
  obtain ⟨wb, hwb⟩ : ∃ wb, wb = wa.alloc (.cells #[.slice none 0 0, .int .i64 0, .int .i64 0] 27) := ⟨_, rfl⟩
  have hsb : wb.heap.size = w.heap.size + 2 := by rw [hwb]; simp [hsa]
  have hbb : Below wa.heap.size wa wb := by rw [hwb]; exact (Below.refl _ _).alloc (Nat.le_refl _) _
  have hqb : wb.heap[w.heap.size + 1]? = some (.cells #[.slice none 0 0, .int .i64 0, .int .i64 0] 27 (0, 0)) := by rw [hwb, ← hsa]; exact heap_alloc_new wa _
  have hqab : wb.heap[w.heap.size]? = some (.cells (rC A n c most idle) 27 (0, 0)) := (hbb.block _ (lt_of_block hqa)).trans hqa
  have HBB : Hid (Below w.heap.size w wb) := hba.trans (hbb.mono hba.size)
  have HSB := Lib.hid hsb
  have HWB : Hid (wb = (w.alloc (.cells (rC A n c most idle) 27)).alloc (.cells #[.slice none 0 0, .int .i64 0, .int .i64 0] 27)) := by simp only [Hid]; rw [hwb, hwa]
  have HCC : Hid (∀ W, Below wb.heap.size wb W → (W.cell? ⟨w.heap.size, 0, none⟩ = some (.slice A n c) ∧ W.cell? ⟨w.heap.size, 1, none⟩ = some (.int .i64 most) ∧ W.cell? ⟨w.heap.size, 2, none⟩ = some (.int .i64 idle)) ∧ W.heap[w.heap.size + 1]? = some (.cells #[.slice none 0 0, .int .i64 0, .int .i64 0] 27 (0, 0))) := fun W hW => by
    have e1 := (hW.block w.heap.size (lt_of_block hqab)).trans hqab
    exact ⟨⟨cell_of_row W _ 0 _ _ _ e1, cell_of_row W _ 1 _ _ _ e1, cell_of_row W _ 2 _ _ _ e1⟩, (hW.block _ (lt_of_block hqb)).trans hqb⟩
  have HR : Hid (Rs wb w.heap.size A l) := hR.below HBB.out
  have HR0 := Lib.hid hR
  have HN := Lib.hid hn
  have HBR : Hid (Below wb.heap.size wb wb) := Below.refl _ _
  clear hwa hsa hba hqa hwb hsb hbb hqb hqab hR hn
  have HRT : Hid (∀ W, Calls Try.prog 27 #[.int .u32 (x : Int)] W fun r w' => r = .returned (.bool false) ∧ w' = W) := fun W => by
    have := right27 x W
    rwa [decide_eq_false hp] at this
  clear hp
  go_enter Try.func9, Try.ntmps9
  go_upto_region 1 with (fail)
  rw [← HWB.out]
  obtain ⟨⟨p0, p1, p2⟩, -⟩ := HCC.out wb HBR.out
  go_wp2_with fail
  refine (HRT.out _).mono ?_
  rintro r w9 ⟨rfl, e9⟩
  rw [e9]
  clear e9 w9
  clear p0 p1 p2
  obtain ⟨⟨p0, p1, p2⟩, hq4⟩ := HCC.out wb HBR.out
  have z0 := cell_of_row wb (w.heap.size + 1) 0 _ _ _ hq4
  have z1 := cell_of_row wb (w.heap.size + 1) 1 _ _ _ hq4
  have z2 := cell_of_row wb (w.heap.size + 1) 2 _ _ _ hq4
  simp at z0 z1 z2
  have zf : ∀ i, wb.frozen? ⟨w.heap.size + 1, i, none⟩ = false := fun i => frozen_of_row wb _ i _ _ hq4
  have HT := Lib.hid (three (.slice A n c) (.int .i64 most) (.int .i64 idle) hq4)
  have HRES : Hid (Below w.heap.size w (((wb.setCell ⟨w.heap.size + 1, 0, none⟩ (.slice A n c)).setCell ⟨w.heap.size + 1, 1, none⟩ (.int .i64 most)).setCell ⟨w.heap.size + 1, 2, none⟩ (.int .i64 idle))) := (((HBB.out.trans (HBR.out.mono HBB.out.size)).setCell (by show w.heap.size ≤ w.heap.size + 1; omega) _).setCell (by show w.heap.size ≤ w.heap.size + 1; omega) _).setCell (by show w.heap.size ≤ w.heap.size + 1; omega) _
  clear hq4
  go_wp2
  obtain ⟨e0, e1, e2, _⟩ := HT.out
  exact bodyPost_ret (v := .tuple #[rV A n c most idle, .int .i64 14]) (by simp [results, Try.results9, go_sem, e0, e1, e2]) rfl ⟨A, n, c, HN.out, rfl, (HR0.out.below HRES.out).mono HRES.out.size, HRES.out, .inl rfl⟩

set_option maxHeartbeats 4000000 in
theorem ropen_there (A : Option Addr) (n c : Nat) (most idle : Int) (l : List Lk) (x : Nat) (now : Int) (j : Nat) (y : Mk) (w : World) (hn : n = l.length) (hR : Rs w w.heap.size A l) (hl : n ≤ 100) (hp : 1 ≤ x ∧ x ≤ 2147483647) (hj : l[j]? = some (x, y)) (hpw : l.Pairwise Rd) :
    Calls Try.prog 9 #[rV A n c most idle, .int .u32 (x : Int), .int .i64 now] w (Q2 A most idle 11 l w) := by
  obtain ⟨wa, hwa⟩ : ∃ wa, wa = w.alloc (.cells (rC A n c most idle) 27) := ⟨_, rfl⟩
  have hsa : wa.heap.size = w.heap.size + 1 := by rw [hwa]; simp
  have hba : Below w.heap.size w wa := by rw [hwa]; exact (Below.refl _ _).alloc (Nat.le_refl _) _
  have hqa : wa.heap[w.heap.size]? = some (.cells (rC A n c most idle) 27 (0, 0)) := by rw [hwa]; exact heap_alloc_new w _
  obtain ⟨wb, hwb⟩ : ∃ wb, wb = wa.alloc (.cells #[.slice none 0 0, .int .i64 0, .int .i64 0] 27) := ⟨_, rfl⟩
  have hsb : wb.heap.size = w.heap.size + 2 := by rw [hwb]; simp [hsa]
  have hbb : Below wa.heap.size wa wb := by rw [hwb]; exact (Below.refl _ _).alloc (Nat.le_refl _) _
  have hqb : wb.heap[w.heap.size + 1]? = some (.cells #[.slice none 0 0, .int .i64 0, .int .i64 0] 27 (0, 0)) := by rw [hwb, ← hsa]; exact heap_alloc_new wa _
  have hqab : wb.heap[w.heap.size]? = some (.cells (rC A n c most idle) 27 (0, 0)) := (hbb.block _ (lt_of_block hqa)).trans hqa
  have HBB : Hid (Below w.heap.size w wb) := hba.trans (hbb.mono hba.size)
  have HSB := Lib.hid hsb
  have HWB : Hid (wb = (w.alloc (.cells (rC A n c most idle) 27)).alloc (.cells #[.slice none 0 0, .int .i64 0, .int .i64 0] 27)) := by simp only [Hid]; rw [hwb, hwa]
  have HCC : Hid (∀ W, Below wb.heap.size wb W → (W.cell? ⟨w.heap.size, 0, none⟩ = some (.slice A n c) ∧ W.cell? ⟨w.heap.size, 1, none⟩ = some (.int .i64 most) ∧ W.cell? ⟨w.heap.size, 2, none⟩ = some (.int .i64 idle)) ∧ W.heap[w.heap.size + 1]? = some (.cells #[.slice none 0 0, .int .i64 0, .int .i64 0] 27 (0, 0))) := fun W hW => by
    have e1 := (hW.block w.heap.size (lt_of_block hqab)).trans hqab
    exact ⟨⟨cell_of_row W _ 0 _ _ _ e1, cell_of_row W _ 1 _ _ _ e1, cell_of_row W _ 2 _ _ _ e1⟩, (hW.block _ (lt_of_block hqb)).trans hqb⟩
  have HR : Hid (Rs wb w.heap.size A l) := hR.below HBB.out
  have HR0 := Lib.hid hR
  have HN := Lib.hid hn
  have HBR : Hid (Below wb.heap.size wb wb) := Below.refl _ _
  clear hwa hsa hba hqa hwb hsb hbb hqb hqab hR hn
  have HRT : Hid (∀ W, Calls Try.prog 27 #[.int .u32 (x : Int)] W fun r w' => r = .returned (.bool true) ∧ w' = W) := fun W => by
    have := right27 x W
    rwa [decide_eq_true hp] at this
  clear hp
  have HUN : Hid (∀ (i : Nat) e, i ≠ j → l[i]? = some e → e.1 ≠ x) := fun i e => uni hpw hj i e
  have HF := Lib.hid (rfind_there A n c most idle l j x y wb HN.out (HR.out.mono HBB.out.size) hl hj (fun i e h => HUN.out i e (by omega)))
  have hjn : j < n := by rw [HN.out]; exact (List.getElem?_eq_some_iff.1 hj).1
  clear hj hpw
  go_enter Try.func9, Try.ntmps9
  go_upto_region 1 with (fail)
  rw [← HWB.out]
  obtain ⟨⟨p0, p1, p2⟩, -⟩ := HCC.out wb HBR.out
  go_wp2_with fail
  refine (HRT.out _).mono ?_
  rintro r w9 ⟨rfl, e9⟩
  rw [e9]
  clear e9 w9
  go_wp2_with fail
  refine HF.out.mono ?_
  rintro r w2 ⟨rfl, hb2⟩
  have HB2 := Lib.hid hb2
  clear hb2 p0 p1 p2
  obtain ⟨⟨p0, p1, p2⟩, hq4⟩ := HCC.out w2 HB2.out
  have z0 := cell_of_row w2 (w.heap.size + 1) 0 _ _ _ hq4
  have z1 := cell_of_row w2 (w.heap.size + 1) 1 _ _ _ hq4
  have z2 := cell_of_row w2 (w.heap.size + 1) 2 _ _ _ hq4
  simp at z0 z1 z2
  have zf : ∀ i, w2.frozen? ⟨w.heap.size + 1, i, none⟩ = false := fun i => frozen_of_row w2 _ i _ _ hq4
  have HT := Lib.hid (three (.slice A n c) (.int .i64 most) (.int .i64 idle) hq4)
  have HRES : Hid (Below w.heap.size w (((w2.setCell ⟨w.heap.size + 1, 0, none⟩ (.slice A n c)).setCell ⟨w.heap.size + 1, 1, none⟩ (.int .i64 most)).setCell ⟨w.heap.size + 1, 2, none⟩ (.int .i64 idle))) := (((HBB.out.trans (HB2.out.mono HBB.out.size)).setCell (by show w.heap.size ≤ w.heap.size + 1; omega) _).setCell (by show w.heap.size ≤ w.heap.size + 1; omega) _).setCell (by show w.heap.size ≤ w.heap.size + 1; omega) _
  clear hq4
  go_wp2
  obtain ⟨e0, e1, e2, _⟩ := HT.out
  exact bodyPost_ret (v := .tuple #[rV A n c most idle, .int .i64 11]) (by simp [results, Try.results9, go_sem, e0, e1, e2]) rfl ⟨A, n, c, HN.out, rfl, (HR0.out.below HRES.out).mono HRES.out.size, HRES.out, .inl rfl⟩

set_option maxHeartbeats 4000000 in
theorem ropen_full (A : Option Addr) (n c : Nat) (most idle : Int) (l : List Lk) (x : Nat) (now : Int) (w : World) (hn : n = l.length) (hR : Rs w w.heap.size A l) (hl : n ≤ 100) (hp : 1 ≤ x ∧ x ≤ 2147483647) (hno : ∀ e ∈ l, e.1 ≠ x) (hf : most ≤ (n : Int)) :
    Calls Try.prog 9 #[rV A n c most idle, .int .u32 (x : Int), .int .i64 now] w (Q2 A most idle 10 l w) := by
  obtain ⟨wa, hwa⟩ : ∃ wa, wa = w.alloc (.cells (rC A n c most idle) 27) := ⟨_, rfl⟩
  have hsa : wa.heap.size = w.heap.size + 1 := by rw [hwa]; simp
  have hba : Below w.heap.size w wa := by rw [hwa]; exact (Below.refl _ _).alloc (Nat.le_refl _) _
  have hqa : wa.heap[w.heap.size]? = some (.cells (rC A n c most idle) 27 (0, 0)) := by rw [hwa]; exact heap_alloc_new w _
  obtain ⟨wb, hwb⟩ : ∃ wb, wb = wa.alloc (.cells #[.slice none 0 0, .int .i64 0, .int .i64 0] 27) := ⟨_, rfl⟩
  have hsb : wb.heap.size = w.heap.size + 2 := by rw [hwb]; simp [hsa]
  have hbb : Below wa.heap.size wa wb := by rw [hwb]; exact (Below.refl _ _).alloc (Nat.le_refl _) _
  have hqb : wb.heap[w.heap.size + 1]? = some (.cells #[.slice none 0 0, .int .i64 0, .int .i64 0] 27 (0, 0)) := by rw [hwb, ← hsa]; exact heap_alloc_new wa _
  have hqab : wb.heap[w.heap.size]? = some (.cells (rC A n c most idle) 27 (0, 0)) := (hbb.block _ (lt_of_block hqa)).trans hqa
  have HBB : Hid (Below w.heap.size w wb) := hba.trans (hbb.mono hba.size)
  have HSB := Lib.hid hsb
  have HWB : Hid (wb = (w.alloc (.cells (rC A n c most idle) 27)).alloc (.cells #[.slice none 0 0, .int .i64 0, .int .i64 0] 27)) := by simp only [Hid]; rw [hwb, hwa]
  have HCC : Hid (∀ W, Below wb.heap.size wb W → (W.cell? ⟨w.heap.size, 0, none⟩ = some (.slice A n c) ∧ W.cell? ⟨w.heap.size, 1, none⟩ = some (.int .i64 most) ∧ W.cell? ⟨w.heap.size, 2, none⟩ = some (.int .i64 idle)) ∧ W.heap[w.heap.size + 1]? = some (.cells #[.slice none 0 0, .int .i64 0, .int .i64 0] 27 (0, 0))) := fun W hW => by
    have e1 := (hW.block w.heap.size (lt_of_block hqab)).trans hqab
    exact ⟨⟨cell_of_row W _ 0 _ _ _ e1, cell_of_row W _ 1 _ _ _ e1, cell_of_row W _ 2 _ _ _ e1⟩, (hW.block _ (lt_of_block hqb)).trans hqb⟩
  have HR : Hid (Rs wb w.heap.size A l) := hR.below HBB.out
  have HR0 := Lib.hid hR
  have HN := Lib.hid hn
  have HBR : Hid (Below wb.heap.size wb wb) := Below.refl _ _
  clear hwa hsa hba hqa hwb hsb hbb hqb hqab hR hn
  have HRT : Hid (∀ W, Calls Try.prog 27 #[.int .u32 (x : Int)] W fun r w' => r = .returned (.bool true) ∧ w' = W) := fun W => by
    have := right27 x W
    rwa [decide_eq_true hp] at this
  clear hp
  have HF := Lib.hid (rfind_none A n c most idle l x wb HN.out (HR.out.mono HBB.out.size) hl hno)
  clear hno
  go_enter Try.func9, Try.ntmps9
  go_upto_region 1 with (fail)
  rw [← HWB.out]
  obtain ⟨⟨p0, p1, p2⟩, -⟩ := HCC.out wb HBR.out
  go_wp2_with fail
  refine (HRT.out _).mono ?_
  rintro r w9 ⟨rfl, e9⟩
  rw [e9]
  clear e9 w9
  go_wp2_with fail
  refine HF.out.mono ?_
  rintro r w2 ⟨rfl, hb2⟩
  have HB2 := Lib.hid hb2
  clear hb2 p0 p1 p2
  obtain ⟨⟨p0, p1, p2⟩, hq4⟩ := HCC.out w2 HB2.out
  have z0 := cell_of_row w2 (w.heap.size + 1) 0 _ _ _ hq4
  have z1 := cell_of_row w2 (w.heap.size + 1) 1 _ _ _ hq4
  have z2 := cell_of_row w2 (w.heap.size + 1) 2 _ _ _ hq4
  simp at z0 z1 z2
  have zf : ∀ i, w2.frozen? ⟨w.heap.size + 1, i, none⟩ = false := fun i => frozen_of_row w2 _ i _ _ hq4
  have HT := Lib.hid (three (.slice A n c) (.int .i64 most) (.int .i64 idle) hq4)
  have HRES : Hid (Below w.heap.size w (((w2.setCell ⟨w.heap.size + 1, 0, none⟩ (.slice A n c)).setCell ⟨w.heap.size + 1, 1, none⟩ (.int .i64 most)).setCell ⟨w.heap.size + 1, 2, none⟩ (.int .i64 idle))) := (((HBB.out.trans (HB2.out.mono HBB.out.size)).setCell (by show w.heap.size ≤ w.heap.size + 1; omega) _).setCell (by show w.heap.size ≤ w.heap.size + 1; omega) _).setCell (by show w.heap.size ≤ w.heap.size + 1; omega) _
  clear hq4
  go_wp2
  obtain ⟨e0, e1, e2, _⟩ := HT.out
  exact bodyPost_ret (v := .tuple #[rV A n c most idle, .int .i64 10]) (by simp [results, Try.results9, go_sem, e0, e1, e2]) rfl ⟨A, n, c, HN.out, rfl, (HR0.out.below HRES.out).mono HRES.out.size, HRES.out, .inl rfl⟩

set_option maxHeartbeats 16000000 in
theorem ropen_new (A : Option Addr) (n c : Nat) (most idle : Int) (l : List Lk) (x : Nat) (now : Int) (w : World) (hn : n = l.length) (hR : Rs w w.heap.size A l) (hl : n ≤ 100) (hp : 1 ≤ x ∧ x ≤ 2147483647) (hno : ∀ e ∈ l, e.1 ≠ x) (hf : ¬ most ≤ (n : Int)) :
    Calls Try.prog 9 #[rV A n c most idle, .int .u32 (x : Int), .int .i64 now] w (Q2 A most idle 0 (insS x (now, 0) l) w) := by
  obtain ⟨wa, hwa⟩ : ∃ wa, wa = w.alloc (.cells (rC A n c most idle) 27) := ⟨_, rfl⟩
  have hsa : wa.heap.size = w.heap.size + 1 := by rw [hwa]; simp
  have hba : Below w.heap.size w wa := by rw [hwa]; exact (Below.refl _ _).alloc (Nat.le_refl _) _
  have hqa : wa.heap[w.heap.size]? = some (.cells (rC A n c most idle) 27 (0, 0)) := by rw [hwa]; exact heap_alloc_new w _
  obtain ⟨wb, hwb⟩ : ∃ wb, wb = wa.alloc (.cells #[.slice none 0 0, .int .i64 0, .int .i64 0] 27) := ⟨_, rfl⟩
  have hsb : wb.heap.size = w.heap.size + 2 := by rw [hwb]; simp [hsa]
  have hbb : Below wa.heap.size wa wb := by rw [hwb]; exact (Below.refl _ _).alloc (Nat.le_refl _) _
  have hqb : wb.heap[w.heap.size + 1]? = some (.cells #[.slice none 0 0, .int .i64 0, .int .i64 0] 27 (0, 0)) := by rw [hwb, ← hsa]; exact heap_alloc_new wa _
  have hqab : wb.heap[w.heap.size]? = some (.cells (rC A n c most idle) 27 (0, 0)) := (hbb.block _ (lt_of_block hqa)).trans hqa
  have HBB : Hid (Below w.heap.size w wb) := hba.trans (hbb.mono hba.size)
  have HSB := Lib.hid hsb
  have HWB : Hid (wb = (w.alloc (.cells (rC A n c most idle) 27)).alloc (.cells #[.slice none 0 0, .int .i64 0, .int .i64 0] 27)) := by simp only [Hid]; rw [hwb, hwa]
  have HCC : Hid (∀ W, Below wb.heap.size wb W → (W.cell? ⟨w.heap.size, 0, none⟩ = some (.slice A n c) ∧ W.cell? ⟨w.heap.size, 1, none⟩ = some (.int .i64 most) ∧ W.cell? ⟨w.heap.size, 2, none⟩ = some (.int .i64 idle)) ∧ W.heap[w.heap.size + 1]? = some (.cells #[.slice none 0 0, .int .i64 0, .int .i64 0] 27 (0, 0))) := fun W hW => by
    have e1 := (hW.block w.heap.size (lt_of_block hqab)).trans hqab
    exact ⟨⟨cell_of_row W _ 0 _ _ _ e1, cell_of_row W _ 1 _ _ _ e1, cell_of_row W _ 2 _ _ _ e1⟩, (hW.block _ (lt_of_block hqb)).trans hqb⟩
  have HR : Hid (Rs wb w.heap.size A l) := hR.below HBB.out
  have HR0 := Lib.hid hR
  have HN := Lib.hid hn
  have HBR : Hid (Below wb.heap.size wb wb) := Below.refl _ _
  clear hwa hsa hba hqa hwb hsb hbb hqb hqab hR hn
  have HRT : Hid (∀ W, Calls Try.prog 27 #[.int .u32 (x : Int)] W fun r w' => r = .returned (.bool true) ∧ w' = W) := fun W => by
    have := right27 x W
    rwa [decide_eq_true hp] at this
  clear hp
  have HF := Lib.hid (rfind_none A n c most idle l x wb HN.out (HR.out.mono HBB.out.size) hl hno)
  clear hno
  go_enter Try.func9, Try.ntmps9
  go_upto_region 1 with (fail)
  rw [← HWB.out]
  obtain ⟨⟨p0, p1, p2⟩, -⟩ := HCC.out wb HBR.out
  go_wp2_with fail
  refine (HRT.out _).mono ?_
  rintro r w9 ⟨rfl, e9⟩
  rw [e9]
  clear e9 w9
  go_wp2_with fail
  refine HF.out.mono ?_
  rintro r w2 ⟨rfl, hb2⟩
  have HB2 := Lib.hid hb2
  clear hb2 p0 p1 p2
  obtain ⟨⟨p0, p1, p2⟩, -⟩ := HCC.out w2 HB2.out
  obtain ⟨T, hT⟩ : ∃ T, T = w2.heap.size := ⟨_, rfl⟩
  obtain ⟨w1, hw1⟩ : ∃ w1, w1 = w2.alloc (.cells #[.slice none 0 0, .int .i64 most, .int .i64 idle] 27) := ⟨_, rfl⟩
  have hb1 : Below w2.heap.size w2 w1 := by rw [hw1]; exact (Below.refl _ _).alloc (Nat.le_refl _) _
  have hq1 : w1.heap[T]? = some (.cells #[.slice none 0 0, .int .i64 most, .int .i64 idle] 27 (0, 0)) := by rw [hw1, hT]; exact heap_alloc_new w2 _
  have HB1 : Hid (Below wb.heap.size wb w1) := HB2.out.trans (hb1.mono HB2.out.size)
  have HTT : Hid (w.heap.size + 2 ≤ T) := by have h1 := HSB.out; have h2 := HB2.out.size; simp only [Hid]; omega
  have HCT : Hid (∀ W, Below T w1 W → (W.cell? ⟨w.heap.size, 0, none⟩ = some (.slice A n c) ∧ W.cell? ⟨w.heap.size, 1, none⟩ = some (.int .i64 most) ∧ W.cell? ⟨w.heap.size, 2, none⟩ = some (.int .i64 idle)) ∧ W.heap[w.heap.size + 1]? = some (.cells #[.slice none 0 0, .int .i64 0, .int .i64 0] 27 (0, 0))) := fun W hW => HCC.out W (HB1.out.trans (hW.mono (by have h1 := HSB.out; have h2 := HTT.out; omega)))
  have HRT : Hid (Rs w1 w.heap.size A l) := HR.out.below (HB1.out.mono (by have := HSB.out; omega))
  have HT2 := Lib.hid hT
  have H1 := Lib.hid hw1
  have HS : Hid (∃ m A c, WSt w1 T most idle (.slice A m c) m (rowsI x now false (l.take 0)) w1 ∧ flI x false (l.take 0)) := ⟨0, none, 0, ⟨World.ownsRow_nil w1 _ 62 3, hq1, Below.refl _ _⟩, fun e he => by simp at he⟩
  clear hT hw1 hb1 hq1
  go_upto_region 9 with (fail)
  rw [← H1.out, ← HT2.out]
  clear p0 p1 p2 hf
  go_wp2_with fail
  go_loopw [9, 10] (fun f u wr => ∃ (k : Nat) (b : Bool), k ≤ n ∧ f = .bool b ∧ u = .int .i64 (k : Int) ∧ Hid (∃ m A c, WSt w1 T most idle (.slice A m c) m (rowsI x now b (l.take k)) wr ∧ flI x b (l.take k))) (fun _ u _ => n - (intOf u).toNat)
  case atStart => exact ⟨0, false, by omega, rfl, rfl, HS.out⟩
  case round =>
    obtain ⟨k, b, hk, rfl, rfl, HV⟩ := hrel
    obtain ⟨m, A2, c2, hV, hfl⟩ := HV.out
    clear HV
    have HV : Hid (WSt w1 T most idle (.slice A2 m c2) m (rowsI x now b (l.take k)) wr) := hV
    have hmk : m ≤ k + 1 := by
      rw [own_m hV.1]
      exact len_rowsI x now b l k
    have HFL0 := Lib.hid hfl
    clear hV hfl
    obtain ⟨⟨t0, -, -⟩, -⟩ := HCT.out wr HV.out.2.2
    by_cases hlt : k < n
    · obtain ⟨⟨s, a, p⟩, hy⟩ : ∃ e, l[k]? = some e := ⟨l[k]'(by rw [← HN.out]; exact hlt), List.getElem?_eq_getElem _⟩
      have HTO := Lib.hid (take_one hy)
      obtain ⟨b1, o1, rfl, hb1, ha1⟩ := HRT.out (by have := HN.out; omega)
      have hrow : ∀ W, Below T w1 W → W.cell? ⟨b1, o1 + k * 3, none⟩ = some (.int .u32 (s : Int)) ∧ W.cell? ⟨b1, o1 + k * 3 + 1, none⟩ = some (.int .u32 p) ∧ W.cell? ⟨b1, o1 + k * 3 + 2, none⟩ = some (.int .i64 a) := fun W hW => by
        obtain ⟨d0, d1, d2⟩ := ha1 k _ hy
        have hlt' : b1 < T := by have := HTT.out; omega
        exact ⟨(hW.cell (p := ⟨b1, _, none⟩) hlt').trans d0, (hW.cell (p := ⟨b1, _, none⟩) hlt').trans d1, (hW.cell (p := ⟨b1, _, none⟩) hlt').trans d2⟩
      clear ha1 hb1 hy
      cases b with
      | true =>
        have HTK : Hid (rowsI x now true (l.take (k + 1)) = rowsI x now true (l.take k) ++ [(s, (a, p))]) := by
          simp only [Hid]
          rw [HTO.out]
          exact ins_app_lt HFL0.out
        have HFL : Hid (flI x true (l.take (k + 1))) := by
          rw [HTO.out]
          obtain ⟨e, h1, h2⟩ := HFL0.out
          exact ⟨e, List.mem_append_left _ h1, h2⟩
        have HSall : Hid (∀ W, Below T w1 W → W.cell? ⟨w.heap.size, 0, none⟩ = some (.slice (some ⟨b1, o1, none⟩) n c) ∧ W.cell? ⟨b1, o1 + k * 3, none⟩ = some (.int .u32 (s : Int)) ∧ W.cell? ⟨b1, o1 + k * 3 + 1, none⟩ = some (.int .u32 p) ∧ W.cell? ⟨b1, o1 + k * 3 + 2, none⟩ = some (.int .i64 a)) := fun W hW => ⟨(HCT.out W hW).1.1, hrow W hW⟩
        clear hrow
        go_upto_region 15 with (fail)
        refine wp_region_held_drew (S := fun W : World => W.cell? ⟨w.heap.size, 0, none⟩ = some (.slice (some ⟨b1, o1, none⟩) n c) ∧ W.cell? ⟨b1, o1 + k * 3, none⟩ = some (.int .u32 (s : Int)) ∧ W.cell? ⟨b1, o1 + k * 3 + 1, none⟩ = some (.int .u32 p) ∧ W.cell? ⟨b1, o1 + k * 3 + 2, none⟩ = some (.int .i64 a)) (by kernel_rfl) (HSall.out _ HV.out.2.2.drew) (fun hHeld => ?_)
        obtain ⟨W0, hW0⟩ : ∃ W0, W0 = wr.drew := ⟨_, rfl⟩
        have HV0 : Hid (WSt w1 T most idle (.slice A2 m c2) m (rowsI x now true (l.take k)) W0) := by rw [hW0]; exact ⟨HV.out.1, HV.out.2.1, HV.out.2.2.drew⟩
        rw [← hW0] at hHeld ⊢
        clear hW0 HV
        refine wpAnyH_take (i := 0) (oi := ?oi0a) (v := ?v0a) ?hi0a ?hs0a ?hf0a ?hr0a ?hQ0a ?hy0a ?hS0a ?h0a
        case hi0a => exact (by simp only [List.getElem?_toArray, List.getElem?_cons_zero]; rfl)
        case hs0a => kernel_rfl
        case hf0a => kernel_rfl
        case hr0a => kernel_rfl
        case hQ0a => exact fun _ _ _ h => h
        case hy0a =>
          refine Or.inl ⟨rfl, ?_⟩
          intro W hSw
          obtain ⟨y0, y1, y2, y3⟩ := hSw
          go_simp
          try with_reducible rfl
        case hS0a => assumption
        try simp only [Act.put, List.setIfInBounds_toArray, List.set_cons_zero, List.set_cons_succ]
        refine wpAnyH_take (i := 2) (oi := ?oi2a) (v := ?v2a) ?hi2a ?hs2a ?hf2a ?hr2a ?hQ2a ?hy2a ?hS2a ?h2a
        case hi2a => exact (by simp only [List.getElem?_toArray, List.getElem?_cons_succ, List.getElem?_cons_zero]; rfl)
        case hs2a => kernel_rfl
        case hf2a => kernel_rfl
        case hr2a => kernel_rfl
        case hQ2a => exact fun _ _ _ h => h
        case hy2a =>
          refine Or.inl ⟨rfl, ?_⟩
          intro W hSw
          obtain ⟨y0, y1, y2, y3⟩ := hSw
          go_simp
          try with_reducible rfl
        case hS2a => assumption
        try simp only [Act.put, List.setIfInBounds_toArray, List.set_cons_zero, List.set_cons_succ]
        refine wpAnyH_take (i := 3) (oi := ?oi3a) (v := ?v3a) ?hi3a ?hs3a ?hf3a ?hr3a ?hQ3a ?hy3a ?hS3a ?h3a
        case hi3a => exact (by simp only [List.getElem?_toArray, List.getElem?_cons_succ, List.getElem?_cons_zero]; rfl)
        case hs3a => kernel_rfl
        case hf3a => kernel_rfl
        case hr3a => kernel_rfl
        case hQ3a => exact fun _ _ _ h => h
        case hy3a =>
          refine Or.inl ⟨rfl, ?_⟩
          intro W hSw
          obtain ⟨y0, y1, y2, y3⟩ := hSw
          go_simp
          try with_reducible rfl
        case hS3a => assumption
        try simp only [Act.put, List.setIfInBounds_toArray, List.set_cons_zero, List.set_cons_succ]
        refine wpAnyH_take (i := 4) (oi := ?oi4a) (v := ?v4a) ?hi4a ?hs4a ?hf4a ?hr4a ?hQ4a ?hy4a ?hS4a ?h4a
        case hi4a => exact (by simp only [List.getElem?_toArray, List.getElem?_cons_succ, List.getElem?_cons_zero]; rfl)
        case hs4a => kernel_rfl
        case hf4a => kernel_rfl
        case hr4a => kernel_rfl
        case hQ4a => exact fun _ _ _ h => h
        case hy4a =>
          refine Or.inl ⟨rfl, ?_⟩
          intro W hSw
          obtain ⟨y0, y1, y2, y3⟩ := hSw
          go_simp
          try with_reducible rfl
        case hS4a => assumption
        try simp only [Act.put, List.setIfInBounds_toArray, List.set_cons_zero, List.set_cons_succ]
        refine wpAnyH_take (i := 5) (oi := ?oi5a) (v := ?v5a) ?hi5a ?hs5a ?hf5a ?hr5a ?hQ5a ?hy5a ?hS5a ?h5a
        case hi5a => exact (by simp only [List.getElem?_toArray, List.getElem?_cons_succ, List.getElem?_cons_zero]; rfl)
        case hs5a => kernel_rfl
        case hf5a => kernel_rfl
        case hr5a => kernel_rfl
        case hQ5a => exact fun _ _ _ h => h
        case hy5a =>
          refine Or.inl ⟨rfl, ?_⟩
          intro W hSw
          obtain ⟨y0, y1, y2, y3⟩ := hSw
          go_simp
          try with_reducible rfl
        case hS5a => assumption
        try simp only [Act.put, List.setIfInBounds_toArray, List.set_cons_zero, List.set_cons_succ]
        refine wpAnyH_take (i := 6) (oi := ?oi6a) (v := ?v6a) ?hi6a ?hs6a ?hf6a ?hr6a ?hQ6a ?hy6a ?hS6a ?h6a
        case hi6a => exact (by simp only [List.getElem?_toArray, List.getElem?_cons_succ, List.getElem?_cons_zero]; rfl)
        case hs6a => kernel_rfl
        case hf6a => kernel_rfl
        case hr6a => kernel_rfl
        case hQ6a => exact fun _ _ _ h => h
        case hy6a =>
          refine Or.inl ⟨rfl, ?_⟩
          intro W hSw
          obtain ⟨y0, y1, y2, y3⟩ := hSw
          go_simp
          try with_reducible rfl
        case hS6a => assumption
        try simp only [Act.put, List.setIfInBounds_toArray, List.set_cons_zero, List.set_cons_succ]
        refine wpAnyH_ready (rs := [1, 7]) (by kernel_rfl) (by simp) ?_
        refine AllReadyH.cons (o := _) rfl (fun K hK => ?_) (AllReadyH.cons (o := _) rfl (fun K hK => ?_) AllReadyH.nil)
        · have c1' := cell_of_row _ T 0 _ _ _ HV0.out.2.1
          simp at c1'
          go_simp
          clear c1'
          refine hK.out _ _ (HSall.out _ HV0.out.2.2) (fun hHeld => ?_)
          clear hK K
          try simp only [Act.put, List.setIfInBounds_toArray, List.set_cons_zero, List.set_cons_succ]
          refine wpAnyH_ready (rs := [7]) (by kernel_rfl) (by simp) ?_
          refine AllReadyH.cons (o := _) rfl (fun K hK => ?_) AllReadyH.nil
          go_simp
          obtain ⟨W2, hW2⟩ : ∃ W2, W2 = W0.alloc (.cells (lC s p a) 62) := ⟨_, rfl⟩
          rw [← hW2]
          have HQ2 : Hid (W2.heap[W0.heap.size]? = some (.cells (ic (s, (a, p))).toArray 62 (0, 0))) := by rw [hW2]; exact heap_alloc_new W0 _
          have HV2 : Hid (WSt w1 T most idle (.slice A2 m c2) m (rowsI x now true (l.take k)) W2) := wst_alloc HV0.out (by rw [hW2]; exact (Below.refl _ _).alloc (Nat.le_refl _) _)
          clear hW2
          refine hK.out _ _ (HSall.out _ HV2.out.2.2) (fun hHeld => ?_)
          clear hK K
          try simp only [Act.put, List.setIfInBounds_toArray, List.set_cons_zero, List.set_cons_succ]
          refine wpAnyH_ready (rs := [8]) (by kernel_rfl) (by simp) ?_
          refine AllReadyH.cons (o := _) rfl (fun K hK => ?_) AllReadyH.nil
          refine step_append_in rfl _ _ rfl (T + 1) W0.heap.size (.slice A2 m c2) m (ir (rowsI x now true (l.take k))) (s, (a, p)) rfl rfl HV2.out.1 HQ2.out (by omega) (wst_lt HV2.out) ?_
          intro v4 W4 hown4 hg4
          obtain ⟨A9, c9, rfl⟩ := own_form1 hown4
          have HO4 := Lib.hid hown4
          have HG4 := Lib.hid hg4
          have HB4 : Hid (Below T w1 W4) := HV2.out.2.2.grown hg4 (Nat.le_of_lt (wst_lt HV2.out)) (fun g hgg => by have := (ownlt HV2.out.1 g hgg).1; omega)
          clear hown4 hg4
          refine hK.out _ _ (HSall.out _ HB4.out) (fun hHeld => ?_)
          clear hK K
          try simp only [Act.put, List.setIfInBounds_toArray, List.set_cons_zero, List.set_cons_succ]
          refine wpAnyH_take (i := 9) (oi := ?oi9ap) (v := ?v9ap) ?hi9ap ?hs9ap ?hf9ap ?hr9ap ?hQ9ap ?hy9ap ?hS9ap ?h9ap
          case hi9ap => exact (by simp only [List.getElem?_toArray, List.getElem?_cons_succ, List.getElem?_cons_zero]; rfl)
          case hs9ap => kernel_rfl
          case hf9ap => kernel_rfl
          case hr9ap => kernel_rfl
          case hQ9ap => exact fun _ _ _ h => h
          case hy9ap =>
            refine Or.inl ⟨rfl, ?_⟩
            intro W hSw
            obtain ⟨y0, y1, y2, y3⟩ := hSw
            go_simp
            try with_reducible rfl
          case hS9ap => assumption
          try simp only [Act.put, List.setIfInBounds_toArray, List.set_cons_zero, List.set_cons_succ]
          refine wpAnyH_ready (rs := [10]) (by kernel_rfl) (by simp) ?_
          refine AllReadyH.cons (o := _) rfl (fun K hK => ?_) AllReadyH.nil
          have c9' := cell_of_row W4 T 0 _ _ _ (wst_var HV2.out HG4.out)
          have f4' := frozen_of_row W4 T 0 _ _ (wst_var HV2.out HG4.out)
          simp at c9'
          go_simp
          clear c9' f4'
          have HWN := Lib.hid (wst_put HV2.out HG4.out HO4.out)
          refine hK.out _ _ (HSall.out _ HWN.out.2.2) (fun hHeld => ?_)
          clear hK K
          try simp only [Act.put, List.setIfInBounds_toArray, List.set_cons_zero, List.set_cons_succ]
          refine wpAnyH_done (by kernel_rfl) ?_ _
          obtain ⟨W5, hW5⟩ : ∃ W5, W5 = W4.setCell ⟨T, 0, none⟩ (.slice A9 (m + 1) c9) := ⟨_, rfl⟩
          rw [← hW5] at HWN ⊢
          clear hW5 hHeld
          go_wp2_with fail
          go_roundw
          case rel => exact ⟨k + 1, true, by omega, rfl, by go_num, m + 1, A9, c9, by rw [HTK.out]; exact ⟨HWN.out, HFL.out⟩⟩
          case measure => simp [intOf] <;> omega
        · go_simp
          obtain ⟨W2, hW2⟩ : ∃ W2, W2 = W0.alloc (.cells (lC s p a) 62) := ⟨_, rfl⟩
          rw [← hW2]
          have HQ2 : Hid (W2.heap[W0.heap.size]? = some (.cells (ic (s, (a, p))).toArray 62 (0, 0))) := by rw [hW2]; exact heap_alloc_new W0 _
          have HV2 : Hid (WSt w1 T most idle (.slice A2 m c2) m (rowsI x now true (l.take k)) W2) := wst_alloc HV0.out (by rw [hW2]; exact (Below.refl _ _).alloc (Nat.le_refl _) _)
          clear hW2
          refine hK.out _ _ (HSall.out _ HV2.out.2.2) (fun hHeld => ?_)
          clear hK K
          try simp only [Act.put, List.setIfInBounds_toArray, List.set_cons_zero, List.set_cons_succ]
          refine wpAnyH_ready (rs := [1]) (by kernel_rfl) (by simp) ?_
          refine AllReadyH.cons (o := _) rfl (fun K hK => ?_) AllReadyH.nil
          have c1' := cell_of_row _ T 0 _ _ _ HV2.out.2.1
          simp at c1'
          go_simp
          clear c1'
          refine hK.out _ _ (HSall.out _ HV2.out.2.2) (fun hHeld => ?_)
          clear hK K
          try simp only [Act.put, List.setIfInBounds_toArray, List.set_cons_zero, List.set_cons_succ]
          refine wpAnyH_ready (rs := [8]) (by kernel_rfl) (by simp) ?_
          refine AllReadyH.cons (o := _) rfl (fun K hK => ?_) AllReadyH.nil
          refine step_append_in rfl _ _ rfl (T + 1) W0.heap.size (.slice A2 m c2) m (ir (rowsI x now true (l.take k))) (s, (a, p)) rfl rfl HV2.out.1 HQ2.out (by omega) (wst_lt HV2.out) ?_
          intro v4 W4 hown4 hg4
          obtain ⟨A9, c9, rfl⟩ := own_form1 hown4
          have HO4 := Lib.hid hown4
          have HG4 := Lib.hid hg4
          have HB4 : Hid (Below T w1 W4) := HV2.out.2.2.grown hg4 (Nat.le_of_lt (wst_lt HV2.out)) (fun g hgg => by have := (ownlt HV2.out.1 g hgg).1; omega)
          clear hown4 hg4
          refine hK.out _ _ (HSall.out _ HB4.out) (fun hHeld => ?_)
          clear hK K
          try simp only [Act.put, List.setIfInBounds_toArray, List.set_cons_zero, List.set_cons_succ]
          refine wpAnyH_take (i := 9) (oi := ?oi9aq) (v := ?v9aq) ?hi9aq ?hs9aq ?hf9aq ?hr9aq ?hQ9aq ?hy9aq ?hS9aq ?h9aq
          case hi9aq => exact (by simp only [List.getElem?_toArray, List.getElem?_cons_succ, List.getElem?_cons_zero]; rfl)
          case hs9aq => kernel_rfl
          case hf9aq => kernel_rfl
          case hr9aq => kernel_rfl
          case hQ9aq => exact fun _ _ _ h => h
          case hy9aq =>
            refine Or.inl ⟨rfl, ?_⟩
            intro W hSw
            obtain ⟨y0, y1, y2, y3⟩ := hSw
            go_simp
            try with_reducible rfl
          case hS9aq => assumption
          try simp only [Act.put, List.setIfInBounds_toArray, List.set_cons_zero, List.set_cons_succ]
          refine wpAnyH_ready (rs := [10]) (by kernel_rfl) (by simp) ?_
          refine AllReadyH.cons (o := _) rfl (fun K hK => ?_) AllReadyH.nil
          have c9' := cell_of_row W4 T 0 _ _ _ (wst_var HV2.out HG4.out)
          have f4' := frozen_of_row W4 T 0 _ _ (wst_var HV2.out HG4.out)
          simp at c9'
          go_simp
          clear c9' f4'
          have HWN := Lib.hid (wst_put HV2.out HG4.out HO4.out)
          refine hK.out _ _ (HSall.out _ HWN.out.2.2) (fun hHeld => ?_)
          clear hK K
          try simp only [Act.put, List.setIfInBounds_toArray, List.set_cons_zero, List.set_cons_succ]
          refine wpAnyH_done (by kernel_rfl) ?_ _
          obtain ⟨W5, hW5⟩ : ∃ W5, W5 = W4.setCell ⟨T, 0, none⟩ (.slice A9 (m + 1) c9) := ⟨_, rfl⟩
          rw [← hW5] at HWN ⊢
          clear hW5 hHeld
          go_wp2_with fail
          go_roundw
          case rel => exact ⟨k + 1, true, by omega, rfl, by go_num, m + 1, A9, c9, by rw [HTK.out]; exact ⟨HWN.out, HFL.out⟩⟩
          case measure => simp [intOf] <;> omega
      | false =>
        obtain ⟨d0, -, -⟩ := hrow wr HV.out.2.2
        by_cases hsx : x < s
        · have ht : (x : Int) < (s : Int) := by omega
          have HTK : Hid (rowsI x now true (l.take (k + 1)) = rowsI x now false (l.take k) ++ [(x, (now, 0))] ++ [(s, (a, p))]) := by
            simp only [Hid]
            rw [HTO.out]
            refine (ins_app_ge HFL0.out).trans ?_
            simp [insS, hsx, rowsI]
          have HFL : Hid (flI x true (l.take (k + 1))) := by
            rw [HTO.out]
            exact ⟨(s, (a, p)), List.mem_append_right _ (List.mem_singleton.2 rfl), hsx⟩
          obtain ⟨w5, hw5⟩ : ∃ w5, w5 = wr.alloc (.cells (lC x 0 now) 62) := ⟨_, rfl⟩
          have hg5 : w5.heap[wr.heap.size]? = some (.cells (ic (x, (now, 0))).toArray 62 (0, 0)) := by rw [hw5]; exact heap_alloc_new wr _
          have hb5 : Below wr.heap.size wr w5 := by rw [hw5]; exact (Below.refl _ _).alloc (Nat.le_refl _) _
          have HW5 := Lib.hid (wst_alloc HV.out hb5)
          have H5 := Lib.hid hw5
          have c0 := cell_of_row wr T 0 _ _ _ HV.out.2.1
          simp at c0
          have ht5 : Hid (∀ W : World, W = w5 → W.ownsRow (T + 1) 62 3 (.slice A2 m c2) m (ir (rowsI x now false (l.take k))) ∧ W.heap[wr.heap.size]? = some (.cells (ic (x, (now, 0))).toArray 62 (0, 0)) ∧ T + 1 ≤ W.heap.size) := fun W e => by rw [e]; exact ⟨HW5.out.1, hg5, wst_lt HW5.out⟩
          clear hw5 hg5 hb5
          go_upto_region 15 with (at_builtin; refine wpList_append_in rfl (.tmp 52) (.tmp 56) rfl (T + 1) wr.heap.size (.slice A2 m c2) m (ir (rowsI x now false (l.take k))) (x, (now, 0)) rfl rfl (ht5.out _ H5.out.symm).1 (ht5.out _ H5.out.symm).2.1 (by omega) (ht5.out _ H5.out.symm).2.2 ?_; intro v4 w4 hown4 hg4; rw [← H5.out] at hg4; obtain ⟨A4, c4, rfl⟩ := own_form1 hown4; have HO4 := Lib.hid hown4; have HG4 := Lib.hid hg4; have c4' := cell_of_row w4 T 0 _ _ _ (wst_var HW5.out hg4); have f4 := frozen_of_row w4 T 0 _ _ (wst_var HW5.out hg4); simp at c4'; clear hown4 hg4)
          obtain ⟨wq, hwq⟩ : ∃ wq, wq = w4.setCell ⟨T, 0, none⟩ (.slice A4 (m + 1) c4) := ⟨_, rfl⟩
          have HVq : Hid (WSt w1 T most idle (.slice A4 (m + 1) c4) (m + 1) (rowsI x now false (l.take k) ++ [(x, (now, 0))]) wq) := by rw [hwq]; exact wst_put HW5.out HG4.out HO4.out
          rw [← hwq]
          clear hwq c4' f4 c0
          have HSall : Hid (∀ W, Below T w1 W → W.cell? ⟨w.heap.size, 0, none⟩ = some (.slice (some ⟨b1, o1, none⟩) n c) ∧ W.cell? ⟨b1, o1 + k * 3, none⟩ = some (.int .u32 (s : Int)) ∧ W.cell? ⟨b1, o1 + k * 3 + 1, none⟩ = some (.int .u32 p) ∧ W.cell? ⟨b1, o1 + k * 3 + 2, none⟩ = some (.int .i64 a)) := fun W hW => ⟨(HCT.out W hW).1.1, hrow W hW⟩
          clear hrow
          refine wp_region_held_drew (S := fun W : World => W.cell? ⟨w.heap.size, 0, none⟩ = some (.slice (some ⟨b1, o1, none⟩) n c) ∧ W.cell? ⟨b1, o1 + k * 3, none⟩ = some (.int .u32 (s : Int)) ∧ W.cell? ⟨b1, o1 + k * 3 + 1, none⟩ = some (.int .u32 p) ∧ W.cell? ⟨b1, o1 + k * 3 + 2, none⟩ = some (.int .i64 a)) (by kernel_rfl) (HSall.out _ HVq.out.2.2.drew) (fun hHeld => ?_)
          obtain ⟨W0, hW0⟩ : ∃ W0, W0 = wq.drew := ⟨_, rfl⟩
          have HV0 : Hid (WSt w1 T most idle (.slice A4 (m + 1) c4) (m + 1) (rowsI x now false (l.take k) ++ [(x, (now, 0))]) W0) := by rw [hW0]; exact ⟨HVq.out.1, HVq.out.2.1, HVq.out.2.2.drew⟩
          rw [← hW0] at hHeld ⊢
          clear hW0 HVq
          refine wpAnyH_take (i := 0) (oi := ?oi0b) (v := ?v0b) ?hi0b ?hs0b ?hf0b ?hr0b ?hQ0b ?hy0b ?hS0b ?h0b
          case hi0b => exact (by simp only [List.getElem?_toArray, List.getElem?_cons_zero]; rfl)
          case hs0b => kernel_rfl
          case hf0b => kernel_rfl
          case hr0b => kernel_rfl
          case hQ0b => exact fun _ _ _ h => h
          case hy0b =>
            refine Or.inl ⟨rfl, ?_⟩
            intro W hSw
            obtain ⟨y0, y1, y2, y3⟩ := hSw
            go_simp
            try with_reducible rfl
          case hS0b => assumption
          try simp only [Act.put, List.setIfInBounds_toArray, List.set_cons_zero, List.set_cons_succ]
          refine wpAnyH_take (i := 2) (oi := ?oi2b) (v := ?v2b) ?hi2b ?hs2b ?hf2b ?hr2b ?hQ2b ?hy2b ?hS2b ?h2b
          case hi2b => exact (by simp only [List.getElem?_toArray, List.getElem?_cons_succ, List.getElem?_cons_zero]; rfl)
          case hs2b => kernel_rfl
          case hf2b => kernel_rfl
          case hr2b => kernel_rfl
          case hQ2b => exact fun _ _ _ h => h
          case hy2b =>
            refine Or.inl ⟨rfl, ?_⟩
            intro W hSw
            obtain ⟨y0, y1, y2, y3⟩ := hSw
            go_simp
            try with_reducible rfl
          case hS2b => assumption
          try simp only [Act.put, List.setIfInBounds_toArray, List.set_cons_zero, List.set_cons_succ]
          refine wpAnyH_take (i := 3) (oi := ?oi3b) (v := ?v3b) ?hi3b ?hs3b ?hf3b ?hr3b ?hQ3b ?hy3b ?hS3b ?h3b
          case hi3b => exact (by simp only [List.getElem?_toArray, List.getElem?_cons_succ, List.getElem?_cons_zero]; rfl)
          case hs3b => kernel_rfl
          case hf3b => kernel_rfl
          case hr3b => kernel_rfl
          case hQ3b => exact fun _ _ _ h => h
          case hy3b =>
            refine Or.inl ⟨rfl, ?_⟩
            intro W hSw
            obtain ⟨y0, y1, y2, y3⟩ := hSw
            go_simp
            try with_reducible rfl
          case hS3b => assumption
          try simp only [Act.put, List.setIfInBounds_toArray, List.set_cons_zero, List.set_cons_succ]
          refine wpAnyH_take (i := 4) (oi := ?oi4b) (v := ?v4b) ?hi4b ?hs4b ?hf4b ?hr4b ?hQ4b ?hy4b ?hS4b ?h4b
          case hi4b => exact (by simp only [List.getElem?_toArray, List.getElem?_cons_succ, List.getElem?_cons_zero]; rfl)
          case hs4b => kernel_rfl
          case hf4b => kernel_rfl
          case hr4b => kernel_rfl
          case hQ4b => exact fun _ _ _ h => h
          case hy4b =>
            refine Or.inl ⟨rfl, ?_⟩
            intro W hSw
            obtain ⟨y0, y1, y2, y3⟩ := hSw
            go_simp
            try with_reducible rfl
          case hS4b => assumption
          try simp only [Act.put, List.setIfInBounds_toArray, List.set_cons_zero, List.set_cons_succ]
          refine wpAnyH_take (i := 5) (oi := ?oi5b) (v := ?v5b) ?hi5b ?hs5b ?hf5b ?hr5b ?hQ5b ?hy5b ?hS5b ?h5b
          case hi5b => exact (by simp only [List.getElem?_toArray, List.getElem?_cons_succ, List.getElem?_cons_zero]; rfl)
          case hs5b => kernel_rfl
          case hf5b => kernel_rfl
          case hr5b => kernel_rfl
          case hQ5b => exact fun _ _ _ h => h
          case hy5b =>
            refine Or.inl ⟨rfl, ?_⟩
            intro W hSw
            obtain ⟨y0, y1, y2, y3⟩ := hSw
            go_simp
            try with_reducible rfl
          case hS5b => assumption
          try simp only [Act.put, List.setIfInBounds_toArray, List.set_cons_zero, List.set_cons_succ]
          refine wpAnyH_take (i := 6) (oi := ?oi6b) (v := ?v6b) ?hi6b ?hs6b ?hf6b ?hr6b ?hQ6b ?hy6b ?hS6b ?h6b
          case hi6b => exact (by simp only [List.getElem?_toArray, List.getElem?_cons_succ, List.getElem?_cons_zero]; rfl)
          case hs6b => kernel_rfl
          case hf6b => kernel_rfl
          case hr6b => kernel_rfl
          case hQ6b => exact fun _ _ _ h => h
          case hy6b =>
            refine Or.inl ⟨rfl, ?_⟩
            intro W hSw
            obtain ⟨y0, y1, y2, y3⟩ := hSw
            go_simp
            try with_reducible rfl
          case hS6b => assumption
          try simp only [Act.put, List.setIfInBounds_toArray, List.set_cons_zero, List.set_cons_succ]
          refine wpAnyH_ready (rs := [1, 7]) (by kernel_rfl) (by simp) ?_
          refine AllReadyH.cons (o := _) rfl (fun K hK => ?_) (AllReadyH.cons (o := _) rfl (fun K hK => ?_) AllReadyH.nil)
          · have c1' := cell_of_row _ T 0 _ _ _ HV0.out.2.1
            simp at c1'
            go_simp
            clear c1'
            refine hK.out _ _ (HSall.out _ HV0.out.2.2) (fun hHeld => ?_)
            clear hK K
            try simp only [Act.put, List.setIfInBounds_toArray, List.set_cons_zero, List.set_cons_succ]
            refine wpAnyH_ready (rs := [7]) (by kernel_rfl) (by simp) ?_
            refine AllReadyH.cons (o := _) rfl (fun K hK => ?_) AllReadyH.nil
            go_simp
            obtain ⟨W2, hW2⟩ : ∃ W2, W2 = W0.alloc (.cells (lC s p a) 62) := ⟨_, rfl⟩
            rw [← hW2]
            have HQ2 : Hid (W2.heap[W0.heap.size]? = some (.cells (ic (s, (a, p))).toArray 62 (0, 0))) := by rw [hW2]; exact heap_alloc_new W0 _
            have HV2 : Hid (WSt w1 T most idle (.slice A4 (m + 1) c4) (m + 1) (rowsI x now false (l.take k) ++ [(x, (now, 0))]) W2) := wst_alloc HV0.out (by rw [hW2]; exact (Below.refl _ _).alloc (Nat.le_refl _) _)
            clear hW2
            refine hK.out _ _ (HSall.out _ HV2.out.2.2) (fun hHeld => ?_)
            clear hK K
            try simp only [Act.put, List.setIfInBounds_toArray, List.set_cons_zero, List.set_cons_succ]
            refine wpAnyH_ready (rs := [8]) (by kernel_rfl) (by simp) ?_
            refine AllReadyH.cons (o := _) rfl (fun K hK => ?_) AllReadyH.nil
            refine step_append_in rfl _ _ rfl (T + 1) W0.heap.size (.slice A4 (m + 1) c4) (m + 1) (ir (rowsI x now false (l.take k) ++ [(x, (now, 0))])) (s, (a, p)) rfl rfl HV2.out.1 HQ2.out (by omega) (wst_lt HV2.out) ?_
            intro v4 W4 hown4 hg4
            obtain ⟨A9, c9, rfl⟩ := own_form1 hown4
            have HO4 := Lib.hid hown4
            have HG4 := Lib.hid hg4
            have HB4 : Hid (Below T w1 W4) := HV2.out.2.2.grown hg4 (Nat.le_of_lt (wst_lt HV2.out)) (fun g hgg => by have := (ownlt HV2.out.1 g hgg).1; omega)
            clear hown4 hg4
            refine hK.out _ _ (HSall.out _ HB4.out) (fun hHeld => ?_)
            clear hK K
            try simp only [Act.put, List.setIfInBounds_toArray, List.set_cons_zero, List.set_cons_succ]
            refine wpAnyH_take (i := 9) (oi := ?oi9bp) (v := ?v9bp) ?hi9bp ?hs9bp ?hf9bp ?hr9bp ?hQ9bp ?hy9bp ?hS9bp ?h9bp
            case hi9bp => exact (by simp only [List.getElem?_toArray, List.getElem?_cons_succ, List.getElem?_cons_zero]; rfl)
            case hs9bp => kernel_rfl
            case hf9bp => kernel_rfl
            case hr9bp => kernel_rfl
            case hQ9bp => exact fun _ _ _ h => h
            case hy9bp =>
              refine Or.inl ⟨rfl, ?_⟩
              intro W hSw
              obtain ⟨y0, y1, y2, y3⟩ := hSw
              go_simp
              try with_reducible rfl
            case hS9bp => assumption
            try simp only [Act.put, List.setIfInBounds_toArray, List.set_cons_zero, List.set_cons_succ]
            refine wpAnyH_ready (rs := [10]) (by kernel_rfl) (by simp) ?_
            refine AllReadyH.cons (o := _) rfl (fun K hK => ?_) AllReadyH.nil
            have c9' := cell_of_row W4 T 0 _ _ _ (wst_var HV2.out HG4.out)
            have f4' := frozen_of_row W4 T 0 _ _ (wst_var HV2.out HG4.out)
            simp at c9'
            go_simp
            clear c9' f4'
            have HWN := Lib.hid (wst_put HV2.out HG4.out HO4.out)
            refine hK.out _ _ (HSall.out _ HWN.out.2.2) (fun hHeld => ?_)
            clear hK K
            try simp only [Act.put, List.setIfInBounds_toArray, List.set_cons_zero, List.set_cons_succ]
            refine wpAnyH_done (by kernel_rfl) ?_ _
            obtain ⟨W5, hW5⟩ : ∃ W5, W5 = W4.setCell ⟨T, 0, none⟩ (.slice A9 ((m + 1) + 1) c9) := ⟨_, rfl⟩
            rw [← hW5] at HWN ⊢
            clear hW5 hHeld
            go_wp2_with fail
            go_roundw
            case rel => exact ⟨k + 1, true, by omega, rfl, by go_num, (m + 1) + 1, A9, c9, by rw [HTK.out]; exact ⟨HWN.out, HFL.out⟩⟩
            case measure => simp [intOf] <;> omega
          · go_simp
            obtain ⟨W2, hW2⟩ : ∃ W2, W2 = W0.alloc (.cells (lC s p a) 62) := ⟨_, rfl⟩
            rw [← hW2]
            have HQ2 : Hid (W2.heap[W0.heap.size]? = some (.cells (ic (s, (a, p))).toArray 62 (0, 0))) := by rw [hW2]; exact heap_alloc_new W0 _
            have HV2 : Hid (WSt w1 T most idle (.slice A4 (m + 1) c4) (m + 1) (rowsI x now false (l.take k) ++ [(x, (now, 0))]) W2) := wst_alloc HV0.out (by rw [hW2]; exact (Below.refl _ _).alloc (Nat.le_refl _) _)
            clear hW2
            refine hK.out _ _ (HSall.out _ HV2.out.2.2) (fun hHeld => ?_)
            clear hK K
            try simp only [Act.put, List.setIfInBounds_toArray, List.set_cons_zero, List.set_cons_succ]
            refine wpAnyH_ready (rs := [1]) (by kernel_rfl) (by simp) ?_
            refine AllReadyH.cons (o := _) rfl (fun K hK => ?_) AllReadyH.nil
            have c1' := cell_of_row _ T 0 _ _ _ HV2.out.2.1
            simp at c1'
            go_simp
            clear c1'
            refine hK.out _ _ (HSall.out _ HV2.out.2.2) (fun hHeld => ?_)
            clear hK K
            try simp only [Act.put, List.setIfInBounds_toArray, List.set_cons_zero, List.set_cons_succ]
            refine wpAnyH_ready (rs := [8]) (by kernel_rfl) (by simp) ?_
            refine AllReadyH.cons (o := _) rfl (fun K hK => ?_) AllReadyH.nil
            refine step_append_in rfl _ _ rfl (T + 1) W0.heap.size (.slice A4 (m + 1) c4) (m + 1) (ir (rowsI x now false (l.take k) ++ [(x, (now, 0))])) (s, (a, p)) rfl rfl HV2.out.1 HQ2.out (by omega) (wst_lt HV2.out) ?_
            intro v4 W4 hown4 hg4
            obtain ⟨A9, c9, rfl⟩ := own_form1 hown4
            have HO4 := Lib.hid hown4
            have HG4 := Lib.hid hg4
            have HB4 : Hid (Below T w1 W4) := HV2.out.2.2.grown hg4 (Nat.le_of_lt (wst_lt HV2.out)) (fun g hgg => by have := (ownlt HV2.out.1 g hgg).1; omega)
            clear hown4 hg4
            refine hK.out _ _ (HSall.out _ HB4.out) (fun hHeld => ?_)
            clear hK K
            try simp only [Act.put, List.setIfInBounds_toArray, List.set_cons_zero, List.set_cons_succ]
            refine wpAnyH_take (i := 9) (oi := ?oi9bq) (v := ?v9bq) ?hi9bq ?hs9bq ?hf9bq ?hr9bq ?hQ9bq ?hy9bq ?hS9bq ?h9bq
            case hi9bq => exact (by simp only [List.getElem?_toArray, List.getElem?_cons_succ, List.getElem?_cons_zero]; rfl)
            case hs9bq => kernel_rfl
            case hf9bq => kernel_rfl
            case hr9bq => kernel_rfl
            case hQ9bq => exact fun _ _ _ h => h
            case hy9bq =>
              refine Or.inl ⟨rfl, ?_⟩
              intro W hSw
              obtain ⟨y0, y1, y2, y3⟩ := hSw
              go_simp
              try with_reducible rfl
            case hS9bq => assumption
            try simp only [Act.put, List.setIfInBounds_toArray, List.set_cons_zero, List.set_cons_succ]
            refine wpAnyH_ready (rs := [10]) (by kernel_rfl) (by simp) ?_
            refine AllReadyH.cons (o := _) rfl (fun K hK => ?_) AllReadyH.nil
            have c9' := cell_of_row W4 T 0 _ _ _ (wst_var HV2.out HG4.out)
            have f4' := frozen_of_row W4 T 0 _ _ (wst_var HV2.out HG4.out)
            simp at c9'
            go_simp
            clear c9' f4'
            have HWN := Lib.hid (wst_put HV2.out HG4.out HO4.out)
            refine hK.out _ _ (HSall.out _ HWN.out.2.2) (fun hHeld => ?_)
            clear hK K
            try simp only [Act.put, List.setIfInBounds_toArray, List.set_cons_zero, List.set_cons_succ]
            refine wpAnyH_done (by kernel_rfl) ?_ _
            obtain ⟨W5, hW5⟩ : ∃ W5, W5 = W4.setCell ⟨T, 0, none⟩ (.slice A9 ((m + 1) + 1) c9) := ⟨_, rfl⟩
            rw [← hW5] at HWN ⊢
            clear hW5 hHeld
            go_wp2_with fail
            go_roundw
            case rel => exact ⟨k + 1, true, by omega, rfl, by go_num, (m + 1) + 1, A9, c9, by rw [HTK.out]; exact ⟨HWN.out, HFL.out⟩⟩
            case measure => simp [intOf] <;> omega
        · have ht : ¬ (x : Int) < (s : Int) := by omega
          have HTK : Hid (rowsI x now false (l.take (k + 1)) = rowsI x now false (l.take k) ++ [(s, (a, p))]) := HTO.out
          have HFL : Hid (flI x false (l.take (k + 1))) := by
            rw [HTO.out]
            intro e he
            rcases List.mem_append.1 he with he | he
            · exact HFL0.out e he
            · rw [List.mem_singleton.1 he]
              exact hsx
          have HSall : Hid (∀ W, Below T w1 W → W.cell? ⟨w.heap.size, 0, none⟩ = some (.slice (some ⟨b1, o1, none⟩) n c) ∧ W.cell? ⟨b1, o1 + k * 3, none⟩ = some (.int .u32 (s : Int)) ∧ W.cell? ⟨b1, o1 + k * 3 + 1, none⟩ = some (.int .u32 p) ∧ W.cell? ⟨b1, o1 + k * 3 + 2, none⟩ = some (.int .i64 a)) := fun W hW => ⟨(HCT.out W hW).1.1, hrow W hW⟩
          clear hrow
          go_upto_region 15 with (fail)
          refine wp_region_held_drew (S := fun W : World => W.cell? ⟨w.heap.size, 0, none⟩ = some (.slice (some ⟨b1, o1, none⟩) n c) ∧ W.cell? ⟨b1, o1 + k * 3, none⟩ = some (.int .u32 (s : Int)) ∧ W.cell? ⟨b1, o1 + k * 3 + 1, none⟩ = some (.int .u32 p) ∧ W.cell? ⟨b1, o1 + k * 3 + 2, none⟩ = some (.int .i64 a)) (by kernel_rfl) (HSall.out _ HV.out.2.2.drew) (fun hHeld => ?_)
          obtain ⟨W0, hW0⟩ : ∃ W0, W0 = wr.drew := ⟨_, rfl⟩
          have HV0 : Hid (WSt w1 T most idle (.slice A2 m c2) m (rowsI x now false (l.take k)) W0) := by rw [hW0]; exact ⟨HV.out.1, HV.out.2.1, HV.out.2.2.drew⟩
          rw [← hW0] at hHeld ⊢
          clear hW0 HV
          refine wpAnyH_take (i := 0) (oi := ?oi0c) (v := ?v0c) ?hi0c ?hs0c ?hf0c ?hr0c ?hQ0c ?hy0c ?hS0c ?h0c
          case hi0c => exact (by simp only [List.getElem?_toArray, List.getElem?_cons_zero]; rfl)
          case hs0c => kernel_rfl
          case hf0c => kernel_rfl
          case hr0c => kernel_rfl
          case hQ0c => exact fun _ _ _ h => h
          case hy0c =>
            refine Or.inl ⟨rfl, ?_⟩
            intro W hSw
            obtain ⟨y0, y1, y2, y3⟩ := hSw
            go_simp
            try with_reducible rfl
          case hS0c => assumption
          try simp only [Act.put, List.setIfInBounds_toArray, List.set_cons_zero, List.set_cons_succ]
          refine wpAnyH_take (i := 2) (oi := ?oi2c) (v := ?v2c) ?hi2c ?hs2c ?hf2c ?hr2c ?hQ2c ?hy2c ?hS2c ?h2c
          case hi2c => exact (by simp only [List.getElem?_toArray, List.getElem?_cons_succ, List.getElem?_cons_zero]; rfl)
          case hs2c => kernel_rfl
          case hf2c => kernel_rfl
          case hr2c => kernel_rfl
          case hQ2c => exact fun _ _ _ h => h
          case hy2c =>
            refine Or.inl ⟨rfl, ?_⟩
            intro W hSw
            obtain ⟨y0, y1, y2, y3⟩ := hSw
            go_simp
            try with_reducible rfl
          case hS2c => assumption
          try simp only [Act.put, List.setIfInBounds_toArray, List.set_cons_zero, List.set_cons_succ]
          refine wpAnyH_take (i := 3) (oi := ?oi3c) (v := ?v3c) ?hi3c ?hs3c ?hf3c ?hr3c ?hQ3c ?hy3c ?hS3c ?h3c
          case hi3c => exact (by simp only [List.getElem?_toArray, List.getElem?_cons_succ, List.getElem?_cons_zero]; rfl)
          case hs3c => kernel_rfl
          case hf3c => kernel_rfl
          case hr3c => kernel_rfl
          case hQ3c => exact fun _ _ _ h => h
          case hy3c =>
            refine Or.inl ⟨rfl, ?_⟩
            intro W hSw
            obtain ⟨y0, y1, y2, y3⟩ := hSw
            go_simp
            try with_reducible rfl
          case hS3c => assumption
          try simp only [Act.put, List.setIfInBounds_toArray, List.set_cons_zero, List.set_cons_succ]
          refine wpAnyH_take (i := 4) (oi := ?oi4c) (v := ?v4c) ?hi4c ?hs4c ?hf4c ?hr4c ?hQ4c ?hy4c ?hS4c ?h4c
          case hi4c => exact (by simp only [List.getElem?_toArray, List.getElem?_cons_succ, List.getElem?_cons_zero]; rfl)
          case hs4c => kernel_rfl
          case hf4c => kernel_rfl
          case hr4c => kernel_rfl
          case hQ4c => exact fun _ _ _ h => h
          case hy4c =>
            refine Or.inl ⟨rfl, ?_⟩
            intro W hSw
            obtain ⟨y0, y1, y2, y3⟩ := hSw
            go_simp
            try with_reducible rfl
          case hS4c => assumption
          try simp only [Act.put, List.setIfInBounds_toArray, List.set_cons_zero, List.set_cons_succ]
          refine wpAnyH_take (i := 5) (oi := ?oi5c) (v := ?v5c) ?hi5c ?hs5c ?hf5c ?hr5c ?hQ5c ?hy5c ?hS5c ?h5c
          case hi5c => exact (by simp only [List.getElem?_toArray, List.getElem?_cons_succ, List.getElem?_cons_zero]; rfl)
          case hs5c => kernel_rfl
          case hf5c => kernel_rfl
          case hr5c => kernel_rfl
          case hQ5c => exact fun _ _ _ h => h
          case hy5c =>
            refine Or.inl ⟨rfl, ?_⟩
            intro W hSw
            obtain ⟨y0, y1, y2, y3⟩ := hSw
            go_simp
            try with_reducible rfl
          case hS5c => assumption
          try simp only [Act.put, List.setIfInBounds_toArray, List.set_cons_zero, List.set_cons_succ]
          refine wpAnyH_take (i := 6) (oi := ?oi6c) (v := ?v6c) ?hi6c ?hs6c ?hf6c ?hr6c ?hQ6c ?hy6c ?hS6c ?h6c
          case hi6c => exact (by simp only [List.getElem?_toArray, List.getElem?_cons_succ, List.getElem?_cons_zero]; rfl)
          case hs6c => kernel_rfl
          case hf6c => kernel_rfl
          case hr6c => kernel_rfl
          case hQ6c => exact fun _ _ _ h => h
          case hy6c =>
            refine Or.inl ⟨rfl, ?_⟩
            intro W hSw
            obtain ⟨y0, y1, y2, y3⟩ := hSw
            go_simp
            try with_reducible rfl
          case hS6c => assumption
          try simp only [Act.put, List.setIfInBounds_toArray, List.set_cons_zero, List.set_cons_succ]
          refine wpAnyH_ready (rs := [1, 7]) (by kernel_rfl) (by simp) ?_
          refine AllReadyH.cons (o := _) rfl (fun K hK => ?_) (AllReadyH.cons (o := _) rfl (fun K hK => ?_) AllReadyH.nil)
          · have c1' := cell_of_row _ T 0 _ _ _ HV0.out.2.1
            simp at c1'
            go_simp
            clear c1'
            refine hK.out _ _ (HSall.out _ HV0.out.2.2) (fun hHeld => ?_)
            clear hK K
            try simp only [Act.put, List.setIfInBounds_toArray, List.set_cons_zero, List.set_cons_succ]
            refine wpAnyH_ready (rs := [7]) (by kernel_rfl) (by simp) ?_
            refine AllReadyH.cons (o := _) rfl (fun K hK => ?_) AllReadyH.nil
            go_simp
            obtain ⟨W2, hW2⟩ : ∃ W2, W2 = W0.alloc (.cells (lC s p a) 62) := ⟨_, rfl⟩
            rw [← hW2]
            have HQ2 : Hid (W2.heap[W0.heap.size]? = some (.cells (ic (s, (a, p))).toArray 62 (0, 0))) := by rw [hW2]; exact heap_alloc_new W0 _
            have HV2 : Hid (WSt w1 T most idle (.slice A2 m c2) m (rowsI x now false (l.take k)) W2) := wst_alloc HV0.out (by rw [hW2]; exact (Below.refl _ _).alloc (Nat.le_refl _) _)
            clear hW2
            refine hK.out _ _ (HSall.out _ HV2.out.2.2) (fun hHeld => ?_)
            clear hK K
            try simp only [Act.put, List.setIfInBounds_toArray, List.set_cons_zero, List.set_cons_succ]
            refine wpAnyH_ready (rs := [8]) (by kernel_rfl) (by simp) ?_
            refine AllReadyH.cons (o := _) rfl (fun K hK => ?_) AllReadyH.nil
            refine step_append_in rfl _ _ rfl (T + 1) W0.heap.size (.slice A2 m c2) m (ir (rowsI x now false (l.take k))) (s, (a, p)) rfl rfl HV2.out.1 HQ2.out (by omega) (wst_lt HV2.out) ?_
            intro v4 W4 hown4 hg4
            obtain ⟨A9, c9, rfl⟩ := own_form1 hown4
            have HO4 := Lib.hid hown4
            have HG4 := Lib.hid hg4
            have HB4 : Hid (Below T w1 W4) := HV2.out.2.2.grown hg4 (Nat.le_of_lt (wst_lt HV2.out)) (fun g hgg => by have := (ownlt HV2.out.1 g hgg).1; omega)
            clear hown4 hg4
            refine hK.out _ _ (HSall.out _ HB4.out) (fun hHeld => ?_)
            clear hK K
            try simp only [Act.put, List.setIfInBounds_toArray, List.set_cons_zero, List.set_cons_succ]
            refine wpAnyH_take (i := 9) (oi := ?oi9cp) (v := ?v9cp) ?hi9cp ?hs9cp ?hf9cp ?hr9cp ?hQ9cp ?hy9cp ?hS9cp ?h9cp
            case hi9cp => exact (by simp only [List.getElem?_toArray, List.getElem?_cons_succ, List.getElem?_cons_zero]; rfl)
            case hs9cp => kernel_rfl
            case hf9cp => kernel_rfl
            case hr9cp => kernel_rfl
            case hQ9cp => exact fun _ _ _ h => h
            case hy9cp =>
              refine Or.inl ⟨rfl, ?_⟩
              intro W hSw
              obtain ⟨y0, y1, y2, y3⟩ := hSw
              go_simp
              try with_reducible rfl
            case hS9cp => assumption
            try simp only [Act.put, List.setIfInBounds_toArray, List.set_cons_zero, List.set_cons_succ]
            refine wpAnyH_ready (rs := [10]) (by kernel_rfl) (by simp) ?_
            refine AllReadyH.cons (o := _) rfl (fun K hK => ?_) AllReadyH.nil
            have c9' := cell_of_row W4 T 0 _ _ _ (wst_var HV2.out HG4.out)
            have f4' := frozen_of_row W4 T 0 _ _ (wst_var HV2.out HG4.out)
            simp at c9'
            go_simp
            clear c9' f4'
            have HWN := Lib.hid (wst_put HV2.out HG4.out HO4.out)
            refine hK.out _ _ (HSall.out _ HWN.out.2.2) (fun hHeld => ?_)
            clear hK K
            try simp only [Act.put, List.setIfInBounds_toArray, List.set_cons_zero, List.set_cons_succ]
            refine wpAnyH_done (by kernel_rfl) ?_ _
            obtain ⟨W5, hW5⟩ : ∃ W5, W5 = W4.setCell ⟨T, 0, none⟩ (.slice A9 (m + 1) c9) := ⟨_, rfl⟩
            rw [← hW5] at HWN ⊢
            clear hW5 hHeld
            go_wp2_with fail
            go_roundw
            case rel => exact ⟨k + 1, false, by omega, rfl, by go_num, m + 1, A9, c9, by rw [HTK.out]; exact ⟨HWN.out, HFL.out⟩⟩
            case measure => simp [intOf] <;> omega
          · go_simp
            obtain ⟨W2, hW2⟩ : ∃ W2, W2 = W0.alloc (.cells (lC s p a) 62) := ⟨_, rfl⟩
            rw [← hW2]
            have HQ2 : Hid (W2.heap[W0.heap.size]? = some (.cells (ic (s, (a, p))).toArray 62 (0, 0))) := by rw [hW2]; exact heap_alloc_new W0 _
            have HV2 : Hid (WSt w1 T most idle (.slice A2 m c2) m (rowsI x now false (l.take k)) W2) := wst_alloc HV0.out (by rw [hW2]; exact (Below.refl _ _).alloc (Nat.le_refl _) _)
            clear hW2
            refine hK.out _ _ (HSall.out _ HV2.out.2.2) (fun hHeld => ?_)
            clear hK K
            try simp only [Act.put, List.setIfInBounds_toArray, List.set_cons_zero, List.set_cons_succ]
            refine wpAnyH_ready (rs := [1]) (by kernel_rfl) (by simp) ?_
            refine AllReadyH.cons (o := _) rfl (fun K hK => ?_) AllReadyH.nil
            have c1' := cell_of_row _ T 0 _ _ _ HV2.out.2.1
            simp at c1'
            go_simp
            clear c1'
            refine hK.out _ _ (HSall.out _ HV2.out.2.2) (fun hHeld => ?_)
            clear hK K
            try simp only [Act.put, List.setIfInBounds_toArray, List.set_cons_zero, List.set_cons_succ]
            refine wpAnyH_ready (rs := [8]) (by kernel_rfl) (by simp) ?_
            refine AllReadyH.cons (o := _) rfl (fun K hK => ?_) AllReadyH.nil
            refine step_append_in rfl _ _ rfl (T + 1) W0.heap.size (.slice A2 m c2) m (ir (rowsI x now false (l.take k))) (s, (a, p)) rfl rfl HV2.out.1 HQ2.out (by omega) (wst_lt HV2.out) ?_
            intro v4 W4 hown4 hg4
            obtain ⟨A9, c9, rfl⟩ := own_form1 hown4
            have HO4 := Lib.hid hown4
            have HG4 := Lib.hid hg4
            have HB4 : Hid (Below T w1 W4) := HV2.out.2.2.grown hg4 (Nat.le_of_lt (wst_lt HV2.out)) (fun g hgg => by have := (ownlt HV2.out.1 g hgg).1; omega)
            clear hown4 hg4
            refine hK.out _ _ (HSall.out _ HB4.out) (fun hHeld => ?_)
            clear hK K
            try simp only [Act.put, List.setIfInBounds_toArray, List.set_cons_zero, List.set_cons_succ]
            refine wpAnyH_take (i := 9) (oi := ?oi9cq) (v := ?v9cq) ?hi9cq ?hs9cq ?hf9cq ?hr9cq ?hQ9cq ?hy9cq ?hS9cq ?h9cq
            case hi9cq => exact (by simp only [List.getElem?_toArray, List.getElem?_cons_succ, List.getElem?_cons_zero]; rfl)
            case hs9cq => kernel_rfl
            case hf9cq => kernel_rfl
            case hr9cq => kernel_rfl
            case hQ9cq => exact fun _ _ _ h => h
            case hy9cq =>
              refine Or.inl ⟨rfl, ?_⟩
              intro W hSw
              obtain ⟨y0, y1, y2, y3⟩ := hSw
              go_simp
              try with_reducible rfl
            case hS9cq => assumption
            try simp only [Act.put, List.setIfInBounds_toArray, List.set_cons_zero, List.set_cons_succ]
            refine wpAnyH_ready (rs := [10]) (by kernel_rfl) (by simp) ?_
            refine AllReadyH.cons (o := _) rfl (fun K hK => ?_) AllReadyH.nil
            have c9' := cell_of_row W4 T 0 _ _ _ (wst_var HV2.out HG4.out)
            have f4' := frozen_of_row W4 T 0 _ _ (wst_var HV2.out HG4.out)
            simp at c9'
            go_simp
            clear c9' f4'
            have HWN := Lib.hid (wst_put HV2.out HG4.out HO4.out)
            refine hK.out _ _ (HSall.out _ HWN.out.2.2) (fun hHeld => ?_)
            clear hK K
            try simp only [Act.put, List.setIfInBounds_toArray, List.set_cons_zero, List.set_cons_succ]
            refine wpAnyH_done (by kernel_rfl) ?_ _
            obtain ⟨W5, hW5⟩ : ∃ W5, W5 = W4.setCell ⟨T, 0, none⟩ (.slice A9 (m + 1) c9) := ⟨_, rfl⟩
            rw [← hW5] at HWN ⊢
            clear hW5 hHeld
            go_wp2_with fail
            go_roundw
            case rel => exact ⟨k + 1, false, by omega, rfl, by go_num, m + 1, A9, c9, by rw [HTK.out]; exact ⟨HWN.out, HFL.out⟩⟩
            case measure => simp [intOf] <;> omega
    · obtain rfl : k = n := by omega
      have HLL : Hid (l.take k = l) := List.take_of_length_le (by rw [← HN.out]; exact Nat.le_refl _)
      rw [HLL.out] at HV HFL0
      cases b with
      | true =>
        have c0 := cell_of_row wr T 0 _ _ _ HV.out.2.1
        have c1 := cell_of_row wr T 1 _ _ _ HV.out.2.1
        have c2' := cell_of_row wr T 2 _ _ _ HV.out.2.1
        simp at c0 c1 c2'
        have hq4 := (HCT.out wr HV.out.2.2).2
        have z0 := cell_of_row wr (w.heap.size + 1) 0 _ _ _ hq4
        have z1 := cell_of_row wr (w.heap.size + 1) 1 _ _ _ hq4
        have z2 := cell_of_row wr (w.heap.size + 1) 2 _ _ _ hq4
        simp at z0 z1 z2
        have zf : ∀ i, wr.frozen? ⟨w.heap.size + 1, i, none⟩ = false := fun i => frozen_of_row wr _ i _ _ hq4
        have HT := Lib.hid (three (.slice A2 m c2) (.int .i64 most) (.int .i64 idle) hq4)
        have HRES := Lib.hid (wst_out (w := w) (Q := w.heap.size + 1) HV.out (by have := HTT.out; omega) (by omega) ((HBB.out.trans (HB1.out.mono HBB.out.size)).trans (HV.out.2.2.mono (by have := HTT.out; omega))))
        have HM : Hid (m = (insS x (now, 0) l).length) := own_m HV.out.1
        clear hq4
        go_wp2
        obtain ⟨e0, e1, e2, _⟩ := HT.out
        exact bodyPost_ret (v := .tuple #[rV A2 (m) c2 most idle, .int .i64 0]) (by simp [results, Try.results9, go_sem, e0, e1, e2]) rfl ⟨A2, m, c2, HM.out, rfl, HRES.out.1, HRES.out.2.1, .inr fun b o e => by have h1 := HRES.out.2.2 b o e; exact ⟨by have := h1.1; have := HTT.out; omega, h1.2⟩⟩
      | false =>
        have HIE : Hid (rowsI x now false l ++ [(x, (now, 0))] = insS x (now, 0) l) := by
          simp only [Hid]
          have := ins_app_ge (z := (now, 0)) (b := []) HFL0.out
          rw [List.append_nil] at this
          rw [this]
          rfl
        obtain ⟨w5, hw5⟩ : ∃ w5, w5 = wr.alloc (.cells (lC x 0 now) 62) := ⟨_, rfl⟩
        have hg5 : w5.heap[wr.heap.size]? = some (.cells (ic (x, (now, 0))).toArray 62 (0, 0)) := by rw [hw5]; exact heap_alloc_new wr _
        have hb5 : Below wr.heap.size wr w5 := by rw [hw5]; exact (Below.refl _ _).alloc (Nat.le_refl _) _
        have HW5 := Lib.hid (wst_alloc HV.out hb5)
        have H5 := Lib.hid hw5
        have c0 := cell_of_row wr T 0 _ _ _ HV.out.2.1
        simp at c0
        have ht5 : Hid (∀ W : World, W = w5 → W.ownsRow (T + 1) 62 3 (.slice A2 m c2) m (ir (rowsI x now false l)) ∧ W.heap[wr.heap.size]? = some (.cells (ic (x, (now, 0))).toArray 62 (0, 0)) ∧ T + 1 ≤ W.heap.size) := fun W e => by rw [e]; exact ⟨HW5.out.1, hg5, wst_lt HW5.out⟩
        clear hw5 hg5 hb5
        go_upto_region 18 with (at_builtin; refine wpList_append_in rfl (.tmp 72) (.tmp 76) rfl (T + 1) wr.heap.size (.slice A2 m c2) m (ir (rowsI x now false l)) (x, (now, 0)) rfl rfl (ht5.out _ H5.out.symm).1 (ht5.out _ H5.out.symm).2.1 (by omega) (ht5.out _ H5.out.symm).2.2 ?_; intro v4 w4 hown4 hg4; rw [← H5.out] at hg4; obtain ⟨A4, c4, rfl⟩ := own_form1 hown4; have HO4 := Lib.hid hown4; have HG4 := Lib.hid hg4; have c4' := cell_of_row w4 T 0 _ _ _ (wst_var HW5.out hg4); have f4 := frozen_of_row w4 T 0 _ _ (wst_var HW5.out hg4); simp at c4'; clear hown4 hg4)
        obtain ⟨wq, hwq⟩ : ∃ wq, wq = w4.setCell ⟨T, 0, none⟩ (.slice A4 (m + 1) c4) := ⟨_, rfl⟩
        have HVq : Hid (WSt w1 T most idle (.slice A4 (m + 1) c4) (m + 1) (rowsI x now false l ++ [(x, (now, 0))]) wq) := by rw [hwq]; exact wst_put HW5.out HG4.out HO4.out
        rw [← hwq]
        clear hwq c4' f4 c0
        rw [HIE.out] at HVq
        have c0 := cell_of_row wq T 0 _ _ _ HVq.out.2.1
        have c1 := cell_of_row wq T 1 _ _ _ HVq.out.2.1
        have c2' := cell_of_row wq T 2 _ _ _ HVq.out.2.1
        simp at c0 c1 c2'
        have hq4 := (HCT.out wq HVq.out.2.2).2
        have z0 := cell_of_row wq (w.heap.size + 1) 0 _ _ _ hq4
        have z1 := cell_of_row wq (w.heap.size + 1) 1 _ _ _ hq4
        have z2 := cell_of_row wq (w.heap.size + 1) 2 _ _ _ hq4
        simp at z0 z1 z2
        have zf : ∀ i, wq.frozen? ⟨w.heap.size + 1, i, none⟩ = false := fun i => frozen_of_row wq _ i _ _ hq4
        have HT := Lib.hid (three (.slice A4 (m + 1) c4) (.int .i64 most) (.int .i64 idle) hq4)
        have HRES := Lib.hid (wst_out (w := w) (Q := w.heap.size + 1) HVq.out (by have := HTT.out; omega) (by omega) ((HBB.out.trans (HB1.out.mono HBB.out.size)).trans (HVq.out.2.2.mono (by have := HTT.out; omega))))
        have HM : Hid ((m + 1) = (insS x (now, 0) l).length) := own_m HVq.out.1
        clear hq4
        go_wp2
        obtain ⟨e0, e1, e2, _⟩ := HT.out
        exact bodyPost_ret (v := .tuple #[rV A4 ((m + 1)) c4 most idle, .int .i64 0]) (by simp [results, Try.results9, go_sem, e0, e1, e2]) rfl ⟨A4, (m + 1), c4, HM.out, rfl, HRES.out.1, HRES.out.2.1, .inr fun b o e => by have h1 := HRES.out.2.2 b o e; exact ⟨by have := h1.1; have := HTT.out; omega, h1.2⟩⟩

theorem ropen_any (A : Option Addr) (n c : Nat) (most idle : Int) (l : List Lk) (x : Nat) (now : Int) (w : World) (hn : n = l.length) (hR : Rs w w.heap.size A l) (hl : n ≤ 100) (hN : Nd l) (hm : most ≤ 2147483647) :
    Calls Try.prog 9 #[rV A n c most idle, .int .u32 (x : Int), .int .i64 now] w (Q2 A most idle (openS most x now l).1 (openS most x now l).2 w) := by
  unfold openS
  by_cases h1 : 1 ≤ x ∧ x ≤ 2147483647
  · rw [if_neg (by simp [h1])]
    cases hk : look x l with
    | some y =>
      obtain ⟨k, hk'⟩ := look_some hk
      exact ropen_there A n c most idle l x now k y w hn hR hl h1 hk' hN.1
    | none =>
      have hnx := look_none hk
      by_cases hf : min most 2147483647 ≤ (l.length : Int)
      · simp only [Option.isSome_none, Bool.false_eq_true, if_false, if_pos hf]
        exact ropen_full A n c most idle l x now w hn hR hl h1 hnx (by omega)
      · simp only [Option.isSome_none, Bool.false_eq_true, if_false, if_neg hf]
        exact ropen_new A n c most idle l x now w hn hR hl h1 hnx (by omega)
  · rw [if_pos h1]
    exact ropen_id A n c most idle l x now w hn hR hl h1
end Go.Proofs.Ytfgabmjnpjmmgaa.T
