/- Session: the document's Touch, Logout, Login. -/
import Derived.Test.YtfgabmjnpjmmgaaTC
namespace Go.Proofs.Ytfgabmjnpjmmgaa.T
open Go.RowKit
set_option maxRecDepth 20000
set_option linter.unusedVariables false
set_option linter.unusedSimpArgs false

/-- A table written into block X. -/
theorem put_out {w W : World} {X : Nat} {A : Option Addr} {a b c p q r : Value} {l : List Lk} (hz : W.heap[X]? = some (.cells #[a, b, c] 27 (0, 0))) (hX : w.heap.size ≤ X) (hR : Rs W W.heap.size A l) (hb : Below w.heap.size w W) (hA : ∀ b o, A = some ⟨b, o, none⟩ → b ≠ X) :
    Rs (((W.setCell ⟨X, 0, none⟩ p).setCell ⟨X, 1, none⟩ q).setCell ⟨X, 2, none⟩ r) (((W.setCell ⟨X, 0, none⟩ p).setCell ⟨X, 1, none⟩ q).setCell ⟨X, 2, none⟩ r).heap.size A l ∧ Below w.heap.size w (((W.setCell ⟨X, 0, none⟩ p).setCell ⟨X, 1, none⟩ q).setCell ⟨X, 2, none⟩ r) ∧ (∀ g, g ≠ X → (((W.setCell ⟨X, 0, none⟩ p).setCell ⟨X, 1, none⟩ q).setCell ⟨X, 2, none⟩ r).heap[g]? = W.heap[g]?) ∧ (((W.setCell ⟨X, 0, none⟩ p).setCell ⟨X, 1, none⟩ q).setCell ⟨X, 2, none⟩ r).heap.size = W.heap.size :=
  ⟨((hR.setCell hA).setCell hA).setCell hA, ((hb.setCell hX _).setCell hX _).setCell hX _, fun g hg => (Below.heap_setCell _ _ _ _ hg).trans ((Below.heap_setCell _ _ _ _ hg).trans (Below.heap_setCell _ _ _ _ hg)), by simp only [World.size_setCell]⟩
theorem right27 (x : Nat) (w : World) : Calls Try.prog 27 #[.int .u32 (x : Int)] w fun r w' => r = .returned (.bool (decide (1 ≤ x ∧ x ≤ 2147483647))) ∧ w' = w := by
  by_cases h0 : x = 0
  · subst h0
    go_enter Try.func27, Try.ntmps27
    go_wp2
    all_goals go_ret
    all_goals simp
  · have h1 : ¬ (x : Int) = 0 := by omega
    by_cases h2 : x ≤ 2147483647
    · have h3 : (x : Int) ≤ 2147483647 := by omega
      go_enter Try.func27, Try.ntmps27
      go_wp2
      all_goals go_ret
      all_goals simp [h2, show 1 ≤ x by omega]
      all_goals exact h0
    · have h3 : ¬ (x : Int) ≤ 2147483647 := by omega
      go_enter Try.func27, Try.ntmps27
      go_wp2
      all_goals go_ret
      all_goals simp [h2]
theorem len_set (x : Nat) (z : Mk) (l : List Lk) : (setS x z l).length = l.length := by unfold setS; rw [List.length_map]
theorem len_del (x : Nat) (l : List Lk) : (delS x l).length ≤ l.length := List.length_filter_le _ _

set_option maxHeartbeats 4000000 in
theorem rtouch_none (A : Option Addr) (n c : Nat) (most idle : Int) (l : List Lk) (x : Nat) (now : Int) (w : World) (hn : n = l.length) (hR : Rs w w.heap.size A l) (hl : n ≤ 100) (hno : ∀ e ∈ l, e.1 ≠ x) :
    Calls Try.prog 17 #[rV A n c most idle, .int .u32 (x : Int), .int .i64 now] w (Q2 A most idle 12 l w) := by
  obtain ⟨wa, hwa⟩ : ∃ wa, wa = w.alloc (.cells (rC A n c most idle) 27) := ⟨_, rfl⟩
  have hsa : wa.heap.size = w.heap.size + 1 := by rw [hwa]; simp
  have hba : Below w.heap.size w wa := by rw [hwa]; exact (Below.refl _ _).alloc (Nat.le_refl _) _
  have hqa : wa.heap[w.heap.size]? = some (.cells (rC A n c most idle) 27 (0, 0)) := by rw [hwa]; exact heap_alloc_new w _
  obtain ⟨wb, hwb⟩ : ∃ wb, wb = wa.alloc (.cells #[.slice none 0 0, .int .i64 0, .int .i64 0] 27) := ⟨_, rfl⟩
  have hsb : wb.heap.size = w.heap.size + 2 := by rw [hwb]; simp [hsa]
  have hbb : Below wa.heap.size wa wb := by rw [hwb]; exact (Below.refl _ _).alloc (Nat.le_refl _) _
  have hqb : wb.heap[w.heap.size + 1]? = some (.cells #[.slice none 0 0, .int .i64 0, .int .i64 0] 27 (0, 0)) := by rw [hwb, ← hsa]; exact heap_alloc_new wa _
  have hqab : wb.heap[w.heap.size]? = some (.cells (rC A n c most idle) 27 (0, 0)) := (hbb.block _ (lt_of_block hqa)).trans hqa
  have HBB : Hid (Below w.heap.size w wb) := hba.trans (hbb.mono hba.size)
  have HSB := Lib.hid hsb
  have HWB : Hid (wb = (w.alloc (.cells (rC A n c most idle) 27)).alloc (.cells #[.slice none 0 0, .int .i64 0, .int .i64 0] 27)) := by simp only [Hid]; rw [hwb, hwa]
  have HCC : Hid (∀ W, Below wb.heap.size wb W → (W.cell? ⟨w.heap.size, 0, none⟩ = some (.slice A n c) ∧ W.cell? ⟨w.heap.size, 1, none⟩ = some (.int .i64 most) ∧ W.cell? ⟨w.heap.size, 2, none⟩ = some (.int .i64 idle)) ∧ W.heap[w.heap.size + 1]? = some (.cells #[.slice none 0 0, .int .i64 0, .int .i64 0] 27 (0, 0))) := fun W hW => by
    have e1 := (hW.block w.heap.size (lt_of_block hqab)).trans hqab
    exact ⟨⟨cell_of_row W _ 0 _ _ _ e1, cell_of_row W _ 1 _ _ _ e1, cell_of_row W _ 2 _ _ _ e1⟩, (hW.block _ (lt_of_block hqb)).trans hqb⟩
  have HR : Hid (Rs wb w.heap.size A l) := hR.below HBB.out
  have HR0 := Lib.hid hR
  have HN := Lib.hid hn
  have HBR : Hid (Below wb.heap.size wb wb) := Below.refl _ _
  clear hwa hsa hba hqa hwb hsb hbb hqb hqab hR hn
  have HF := Lib.hid (rfind_none A n c most idle l x wb HN.out (HR.out.mono HBB.out.size) hl hno)
  clear hno
  go_enter Try.func17, Try.ntmps17
  go_upto_region 1 with (fail)
  rw [← HWB.out]
  obtain ⟨⟨p0, p1, p2⟩, -⟩ := HCC.out wb HBR.out
  go_wp2_with fail
  refine HF.out.mono ?_
  rintro r w2 ⟨rfl, hb2⟩
  have HB2 := Lib.hid hb2
  clear hb2 p0 p1 p2
  obtain ⟨⟨p0, p1, p2⟩, hq4⟩ := HCC.out w2 HB2.out
  have z0 := cell_of_row w2 (w.heap.size + 1) 0 _ _ _ hq4
  have z1 := cell_of_row w2 (w.heap.size + 1) 1 _ _ _ hq4
  have z2 := cell_of_row w2 (w.heap.size + 1) 2 _ _ _ hq4
  simp at z0 z1 z2
  have zf : ∀ i, w2.frozen? ⟨w.heap.size + 1, i, none⟩ = false := fun i => frozen_of_row w2 _ i _ _ hq4
  have HT := Lib.hid (three (.slice A n c) (.int .i64 most) (.int .i64 idle) hq4)
  have HRES : Hid (Below w.heap.size w (((w2.setCell ⟨w.heap.size + 1, 0, none⟩ (.slice A n c)).setCell ⟨w.heap.size + 1, 1, none⟩ (.int .i64 most)).setCell ⟨w.heap.size + 1, 2, none⟩ (.int .i64 idle))) := (((HBB.out.trans (HB2.out.mono HBB.out.size)).setCell (by show w.heap.size ≤ w.heap.size + 1; omega) _).setCell (by show w.heap.size ≤ w.heap.size + 1; omega) _).setCell (by show w.heap.size ≤ w.heap.size + 1; omega) _
  clear hq4
  go_wp2
  obtain ⟨e0, e1, e2, _⟩ := HT.out
  exact bodyPost_ret (v := .tuple #[rV A n c most idle, .int .i64 12]) (by simp [results, Try.results17, go_sem, e0, e1, e2]) rfl ⟨A, n, c, HN.out, rfl, (HR0.out.below HRES.out).mono HRES.out.size, HRES.out, .inl rfl⟩

set_option maxHeartbeats 4000000 in
theorem rlogout_none (A : Option Addr) (n c : Nat) (most idle : Int) (l : List Lk) (x : Nat) (w : World) (hn : n = l.length) (hR : Rs w w.heap.size A l) (hl : n ≤ 100) (hno : ∀ e ∈ l, e.1 ≠ x) :
    Calls Try.prog 13 #[rV A n c most idle, .int .u32 (x : Int)] w (Q3 A most idle 0 12 l w) := by
  obtain ⟨wa, hwa⟩ : ∃ wa, wa = w.alloc (.cells (rC A n c most idle) 27) := ⟨_, rfl⟩
  have hsa : wa.heap.size = w.heap.size + 1 := by rw [hwa]; simp
  have hba : Below w.heap.size w wa := by rw [hwa]; exact (Below.refl _ _).alloc (Nat.le_refl _) _
  have hqa : wa.heap[w.heap.size]? = some (.cells (rC A n c most idle) 27 (0, 0)) := by rw [hwa]; exact heap_alloc_new w _
  obtain ⟨wb, hwb⟩ : ∃ wb, wb = wa.alloc (.cells #[.slice none 0 0, .int .i64 0, .int .i64 0] 27) := ⟨_, rfl⟩
  have hsb : wb.heap.size = w.heap.size + 2 := by rw [hwb]; simp [hsa]
  have hbb : Below wa.heap.size wa wb := by rw [hwb]; exact (Below.refl _ _).alloc (Nat.le_refl _) _
  have hqb : wb.heap[w.heap.size + 1]? = some (.cells #[.slice none 0 0, .int .i64 0, .int .i64 0] 27 (0, 0)) := by rw [hwb, ← hsa]; exact heap_alloc_new wa _
  have hqab : wb.heap[w.heap.size]? = some (.cells (rC A n c most idle) 27 (0, 0)) := (hbb.block _ (lt_of_block hqa)).trans hqa
  have HBB : Hid (Below w.heap.size w wb) := hba.trans (hbb.mono hba.size)
  have HSB := Lib.hid hsb
  have HWB : Hid (wb = (w.alloc (.cells (rC A n c most idle) 27)).alloc (.cells #[.slice none 0 0, .int .i64 0, .int .i64 0] 27)) := by simp only [Hid]; rw [hwb, hwa]
  have HCC : Hid (∀ W, Below wb.heap.size wb W → (W.cell? ⟨w.heap.size, 0, none⟩ = some (.slice A n c) ∧ W.cell? ⟨w.heap.size, 1, none⟩ = some (.int .i64 most) ∧ W.cell? ⟨w.heap.size, 2, none⟩ = some (.int .i64 idle)) ∧ W.heap[w.heap.size + 1]? = some (.cells #[.slice none 0 0, .int .i64 0, .int .i64 0] 27 (0, 0))) := fun W hW => by
    have e1 := (hW.block w.heap.size (lt_of_block hqab)).trans hqab
    exact ⟨⟨cell_of_row W _ 0 _ _ _ e1, cell_of_row W _ 1 _ _ _ e1, cell_of_row W _ 2 _ _ _ e1⟩, (hW.block _ (lt_of_block hqb)).trans hqb⟩
  have HR : Hid (Rs wb w.heap.size A l) := hR.below HBB.out
  have HR0 := Lib.hid hR
  have HN := Lib.hid hn
  have HBR : Hid (Below wb.heap.size wb wb) := Below.refl _ _
  clear hwa hsa hba hqa hwb hsb hbb hqb hqab hR hn
  have HF := Lib.hid (rfind_none A n c most idle l x wb HN.out (HR.out.mono HBB.out.size) hl hno)
  clear hno
  go_enter Try.func13, Try.ntmps13
  go_upto_region 1 with (fail)
  rw [← HWB.out]
  obtain ⟨⟨p0, p1, p2⟩, -⟩ := HCC.out wb HBR.out
  go_wp2_with fail
  refine HF.out.mono ?_
  rintro r w2 ⟨rfl, hb2⟩
  have HB2 := Lib.hid hb2
  clear hb2 p0 p1 p2
  obtain ⟨⟨p0, p1, p2⟩, hq4⟩ := HCC.out w2 HB2.out
  have z0 := cell_of_row w2 (w.heap.size + 1) 0 _ _ _ hq4
  have z1 := cell_of_row w2 (w.heap.size + 1) 1 _ _ _ hq4
  have z2 := cell_of_row w2 (w.heap.size + 1) 2 _ _ _ hq4
  simp at z0 z1 z2
  have zf : ∀ i, w2.frozen? ⟨w.heap.size + 1, i, none⟩ = false := fun i => frozen_of_row w2 _ i _ _ hq4
  have HT := Lib.hid (three (.slice A n c) (.int .i64 most) (.int .i64 idle) hq4)
  have HRES : Hid (Below w.heap.size w (((w2.setCell ⟨w.heap.size + 1, 0, none⟩ (.slice A n c)).setCell ⟨w.heap.size + 1, 1, none⟩ (.int .i64 most)).setCell ⟨w.heap.size + 1, 2, none⟩ (.int .i64 idle))) := (((HBB.out.trans (HB2.out.mono HBB.out.size)).setCell (by show w.heap.size ≤ w.heap.size + 1; omega) _).setCell (by show w.heap.size ≤ w.heap.size + 1; omega) _).setCell (by show w.heap.size ≤ w.heap.size + 1; omega) _
  clear hq4
  go_wp2
  obtain ⟨e0, e1, e2, _⟩ := HT.out
  exact bodyPost_ret (v := .tuple #[rV A n c most idle, .int .u32 0, .int .i64 12]) (by simp [results, Try.results13, go_sem, e0, e1, e2]) rfl ⟨A, n, c, HN.out, rfl, (HR0.out.below HRES.out).mono HRES.out.size, HRES.out, .inl rfl⟩

set_option maxHeartbeats 4000000 in
theorem rlogin_none (A : Option Addr) (n c : Nat) (most idle : Int) (l : List Lk) (x pl : Nat) (now : Int) (w : World) (hn : n = l.length) (hR : Rs w w.heap.size A l) (hl : n ≤ 100) (hno : ∀ e ∈ l, e.1 ≠ x) :
    Calls Try.prog 11 #[rV A n c most idle, .int .u32 (x : Int), .int .u32 (pl : Int), .int .i64 now] w (Q3 A most idle 0 12 l w) := by
  obtain ⟨wa, hwa⟩ : ∃ wa, wa = w.alloc (.cells (rC A n c most idle) 27) := ⟨_, rfl⟩
  have hsa : wa.heap.size = w.heap.size + 1 := by rw [hwa]; simp
  have hba : Below w.heap.size w wa := by rw [hwa]; exact (Below.refl _ _).alloc (Nat.le_refl _) _
  have hqa : wa.heap[w.heap.size]? = some (.cells (rC A n c most idle) 27 (0, 0)) := by rw [hwa]; exact heap_alloc_new w _
  obtain ⟨wb, hwb⟩ : ∃ wb, wb = wa.alloc (.cells #[.slice none 0 0, .int .i64 0, .int .i64 0] 27) := ⟨_, rfl⟩
  have hsb : wb.heap.size = w.heap.size + 2 := by rw [hwb]; simp [hsa]
  have hbb : Below wa.heap.size wa wb := by rw [hwb]; exact (Below.refl _ _).alloc (Nat.le_refl _) _
  have hqb : wb.heap[w.heap.size + 1]? = some (.cells #[.slice none 0 0, .int .i64 0, .int .i64 0] 27 (0, 0)) := by rw [hwb, ← hsa]; exact heap_alloc_new wa _
  have hqab : wb.heap[w.heap.size]? = some (.cells (rC A n c most idle) 27 (0, 0)) := (hbb.block _ (lt_of_block hqa)).trans hqa
  have HBB : Hid (Below w.heap.size w wb) := hba.trans (hbb.mono hba.size)
  have HSB := Lib.hid hsb
  have HWB : Hid (wb = (w.alloc (.cells (rC A n c most idle) 27)).alloc (.cells #[.slice none 0 0, .int .i64 0, .int .i64 0] 27)) := by simp only [Hid]; rw [hwb, hwa]
  have HCC : Hid (∀ W, Below wb.heap.size wb W → (W.cell? ⟨w.heap.size, 0, none⟩ = some (.slice A n c) ∧ W.cell? ⟨w.heap.size, 1, none⟩ = some (.int .i64 most) ∧ W.cell? ⟨w.heap.size, 2, none⟩ = some (.int .i64 idle)) ∧ W.heap[w.heap.size + 1]? = some (.cells #[.slice none 0 0, .int .i64 0, .int .i64 0] 27 (0, 0))) := fun W hW => by
    have e1 := (hW.block w.heap.size (lt_of_block hqab)).trans hqab
    exact ⟨⟨cell_of_row W _ 0 _ _ _ e1, cell_of_row W _ 1 _ _ _ e1, cell_of_row W _ 2 _ _ _ e1⟩, (hW.block _ (lt_of_block hqb)).trans hqb⟩
  have HR : Hid (Rs wb w.heap.size A l) := hR.below HBB.out
  have HR0 := Lib.hid hR
  have HN := Lib.hid hn
  have HBR : Hid (Below wb.heap.size wb wb) := Below.refl _ _
  clear hwa hsa hba hqa hwb hsb hbb hqb hqab hR hn
  have HF := Lib.hid (rfind_none A n c most idle l x wb HN.out (HR.out.mono HBB.out.size) hl hno)
  clear hno
  go_enter Try.func11, Try.ntmps11
  go_upto_region 1 with (fail)
  rw [← HWB.out]
  obtain ⟨⟨p0, p1, p2⟩, -⟩ := HCC.out wb HBR.out
  go_wp2_with fail
  refine HF.out.mono ?_
  rintro r w2 ⟨rfl, hb2⟩
  have HB2 := Lib.hid hb2
  clear hb2 p0 p1 p2
  obtain ⟨⟨p0, p1, p2⟩, hq4⟩ := HCC.out w2 HB2.out
  have z0 := cell_of_row w2 (w.heap.size + 1) 0 _ _ _ hq4
  have z1 := cell_of_row w2 (w.heap.size + 1) 1 _ _ _ hq4
  have z2 := cell_of_row w2 (w.heap.size + 1) 2 _ _ _ hq4
  simp at z0 z1 z2
  have zf : ∀ i, w2.frozen? ⟨w.heap.size + 1, i, none⟩ = false := fun i => frozen_of_row w2 _ i _ _ hq4
  have HT := Lib.hid (three (.slice A n c) (.int .i64 most) (.int .i64 idle) hq4)
  have HRES : Hid (Below w.heap.size w (((w2.setCell ⟨w.heap.size + 1, 0, none⟩ (.slice A n c)).setCell ⟨w.heap.size + 1, 1, none⟩ (.int .i64 most)).setCell ⟨w.heap.size + 1, 2, none⟩ (.int .i64 idle))) := (((HBB.out.trans (HB2.out.mono HBB.out.size)).setCell (by show w.heap.size ≤ w.heap.size + 1; omega) _).setCell (by show w.heap.size ≤ w.heap.size + 1; omega) _).setCell (by show w.heap.size ≤ w.heap.size + 1; omega) _
  clear hq4
  go_wp2
  obtain ⟨e0, e1, e2, _⟩ := HT.out
  exact bodyPost_ret (v := .tuple #[rV A n c most idle, .int .u32 0, .int .i64 12]) (by simp [results, Try.results11, go_sem, e0, e1, e2]) rfl ⟨A, n, c, HN.out, rfl, (HR0.out.below HRES.out).mono HRES.out.size, HRES.out, .inl rfl⟩

set_option maxHeartbeats 8000000 in
theorem rtouch_there (A : Option Addr) (n c : Nat) (most idle : Int) (l : List Lk) (x : Nat) (now : Int) (j : Nat) (ya yp : Int) (w : World) (hn : n = l.length) (hR : Rs w w.heap.size A l) (hl : n ≤ 100) (hj : l[j]? = some (x, (ya, yp))) (hpw : l.Pairwise Rd) :
    Calls Try.prog 17 #[rV A n c most idle, .int .u32 (x : Int), .int .i64 now] w (Q2 A most idle 0 (setS x (now, yp) l) w) := by
  obtain ⟨wa, hwa⟩ : ∃ wa, wa = w.alloc (.cells (rC A n c most idle) 27) := ⟨_, rfl⟩
  have hsa : wa.heap.size = w.heap.size + 1 := by rw [hwa]; simp
  have hba : Below w.heap.size w wa := by rw [hwa]; exact (Below.refl _ _).alloc (Nat.le_refl _) _
  have hqa : wa.heap[w.heap.size]? = some (.cells (rC A n c most idle) 27 (0, 0)) := by rw [hwa]; exact heap_alloc_new w _
  obtain ⟨wb, hwb⟩ : ∃ wb, wb = wa.alloc (.cells #[.slice none 0 0, .int .i64 0, .int .i64 0] 27) := ⟨_, rfl⟩
  have hsb : wb.heap.size = w.heap.size + 2 := by rw [hwb]; simp [hsa]
  have hbb : Below wa.heap.size wa wb := by rw [hwb]; exact (Below.refl _ _).alloc (Nat.le_refl _) _
  have hqb : wb.heap[w.heap.size + 1]? = some (.cells #[.slice none 0 0, .int .i64 0, .int .i64 0] 27 (0, 0)) := by rw [hwb, ← hsa]; exact heap_alloc_new wa _
  have hqab : wb.heap[w.heap.size]? = some (.cells (rC A n c most idle) 27 (0, 0)) := (hbb.block _ (lt_of_block hqa)).trans hqa
  have HBB : Hid (Below w.heap.size w wb) := hba.trans (hbb.mono hba.size)
  have HSB := Lib.hid hsb
  have HWB : Hid (wb = (w.alloc (.cells (rC A n c most idle) 27)).alloc (.cells #[.slice none 0 0, .int .i64 0, .int .i64 0] 27)) := by simp only [Hid]; rw [hwb, hwa]
  have HCC : Hid (∀ W, Below wb.heap.size wb W → (W.cell? ⟨w.heap.size, 0, none⟩ = some (.slice A n c) ∧ W.cell? ⟨w.heap.size, 1, none⟩ = some (.int .i64 most) ∧ W.cell? ⟨w.heap.size, 2, none⟩ = some (.int .i64 idle)) ∧ W.heap[w.heap.size + 1]? = some (.cells #[.slice none 0 0, .int .i64 0, .int .i64 0] 27 (0, 0))) := fun W hW => by
    have e1 := (hW.block w.heap.size (lt_of_block hqab)).trans hqab
    exact ⟨⟨cell_of_row W _ 0 _ _ _ e1, cell_of_row W _ 1 _ _ _ e1, cell_of_row W _ 2 _ _ _ e1⟩, (hW.block _ (lt_of_block hqb)).trans hqb⟩
  have HR : Hid (Rs wb w.heap.size A l) := hR.below HBB.out
  have HR0 := Lib.hid hR
  have HN := Lib.hid hn
  have HBR : Hid (Below wb.heap.size wb wb) := Below.refl _ _
  clear hwa hsa hba hqa hwb hsb hbb hqb hqab hR hn
  have HUN : Hid (∀ (i : Nat) e, i ≠ j → l[i]? = some e → e.1 ≠ x) := fun i e => uni hpw hj i e
  have HJ := Lib.hid hj
  have hjn : j < n := by rw [HN.out]; exact (List.getElem?_eq_some_iff.1 hj).1
  obtain ⟨b1, o1, rfl, hb1, ha1⟩ := HR.out (by have := HN.out; omega)
  have HF := Lib.hid (rfind_there (some ⟨b1, o1, none⟩) n c most idle l j x (ya, yp) wb HN.out (HR.out.mono HBB.out.size) hl hj (fun i e h => HUN.out i e (by omega)))
  have HBL : Hid (b1 < w.heap.size) := hb1
  have HS1 : Hid (∀ W, Below wb.heap.size wb W → (fun W : World => (W.cell? ⟨w.heap.size, 0, none⟩ = some (.slice (some ⟨b1, o1, none⟩) n c) ∧ W.cell? ⟨w.heap.size, 1, none⟩ = some (.int .i64 most) ∧ W.cell? ⟨w.heap.size, 2, none⟩ = some (.int .i64 idle)) ∧ W.cell? ⟨b1, o1 + j * 3 + 1, none⟩ = some (.int .u32 yp) ∧ W.cell? ⟨b1, o1 + j * 3 + 2, none⟩ = some (.int .i64 ya)) W) := fun W hW => by
    obtain ⟨-, d1, d2⟩ := ha1 j _ HJ.out
    have hlt' : b1 < wb.heap.size := by have := HSB.out; omega
    exact ⟨(HCC.out W hW).1, (hW.cell (p := ⟨b1, _, none⟩) hlt').trans d1, (hW.cell (p := ⟨b1, _, none⟩) hlt').trans d2⟩
  clear hj hpw ha1 hb1
  go_enter Try.func17, Try.ntmps17
  go_upto_region 1 with (fail)
  rw [← HWB.out]
  obtain ⟨⟨p0, p1, p2⟩, -⟩ := HCC.out wb HBR.out
  go_wp2_with fail
  refine HF.out.mono ?_
  rintro r w2 ⟨rfl, hb2⟩
  have HB2 := Lib.hid hb2
  clear hb2 p0 p1 p2
  obtain ⟨⟨p0, p1, p2⟩, d1, -⟩ := HS1.out w2 HB2.out
  go_upto_region 4 with (fail)
  clear p0 p1 p2 d1
  refine wp_region_held_drew (S := fun W : World => (W.cell? ⟨w.heap.size, 0, none⟩ = some (.slice (some ⟨b1, o1, none⟩) n c) ∧ W.cell? ⟨w.heap.size, 1, none⟩ = some (.int .i64 most) ∧ W.cell? ⟨w.heap.size, 2, none⟩ = some (.int .i64 idle)) ∧ W.cell? ⟨b1, o1 + j * 3 + 1, none⟩ = some (.int .u32 yp) ∧ W.cell? ⟨b1, o1 + j * 3 + 2, none⟩ = some (.int .i64 ya)) (by kernel_rfl) (HS1.out _ HB2.out.drew) (fun hHeld => ?_)
  obtain ⟨W0, hW0⟩ : ∃ W0, W0 = w2.drew := ⟨_, rfl⟩
  have HW0 : Hid (Below wb.heap.size wb W0) := by rw [hW0]; exact HB2.out.drew
  have HS0 : Hid (Below w.heap.size w W0) := HBB.out.trans (HW0.out.mono HBB.out.size)
  rw [← hW0] at hHeld ⊢
  clear hW0
  refine wpAnyH_take (i := 0) (oi := ?oi0t) (v := ?v0t) ?hi0t ?hs0t ?hf0t ?hr0t ?hQ0t ?hy0t ?hS0t ?h0t
  case hi0t => exact (by simp only [List.getElem?_toArray, List.getElem?_cons_zero]; rfl)
  case hs0t => kernel_rfl
  case hf0t => kernel_rfl
  case hr0t => kernel_rfl
  case hQ0t => exact fun _ _ _ h => h
  case hy0t =>
    refine Or.inl ⟨rfl, ?_⟩
    intro W hSw
    obtain ⟨⟨y0, y1, y2⟩, y3, y4⟩ := hSw
    go_simp
    try with_reducible rfl
  case hS0t => assumption
  try simp only [Act.put, List.setIfInBounds_toArray, List.set_cons_zero, List.set_cons_succ]
  refine wpAnyH_take (i := 1) (oi := ?oi1t) (v := ?v1t) ?hi1t ?hs1t ?hf1t ?hr1t ?hQ1t ?hy1t ?hS1t ?h1t
  case hi1t => exact (by simp only [List.getElem?_toArray, List.getElem?_cons_succ, List.getElem?_cons_zero]; rfl)
  case hs1t => kernel_rfl
  case hf1t => kernel_rfl
  case hr1t => kernel_rfl
  case hQ1t => exact fun _ _ _ h => h
  case hy1t =>
    refine Or.inl ⟨rfl, ?_⟩
    intro W hSw
    obtain ⟨⟨y0, y1, y2⟩, y3, y4⟩ := hSw
    go_simp
    try with_reducible rfl
  case hS1t => assumption
  try simp only [Act.put, List.setIfInBounds_toArray, List.set_cons_zero, List.set_cons_succ]
  refine wpAnyH_take (i := 2) (oi := ?oi2t) (v := ?v2t) ?hi2t ?hs2t ?hf2t ?hr2t ?hQ2t ?hy2t ?hS2t ?h2t
  case hi2t => exact (by simp only [List.getElem?_toArray, List.getElem?_cons_succ, List.getElem?_cons_zero]; rfl)
  case hs2t => kernel_rfl
  case hf2t => kernel_rfl
  case hr2t => kernel_rfl
  case hQ2t => exact fun _ _ _ h => h
  case hy2t =>
    refine Or.inl ⟨rfl, ?_⟩
    intro W hSw
    obtain ⟨⟨y0, y1, y2⟩, y3, y4⟩ := hSw
    go_simp
    try with_reducible rfl
  case hS2t => assumption
  try simp only [Act.put, List.setIfInBounds_toArray, List.set_cons_zero, List.set_cons_succ]
  refine wpAnyH_take (i := 3) (oi := ?oi3t) (v := ?v3t) ?hi3t ?hs3t ?hf3t ?hr3t ?hQ3t ?hy3t ?hS3t ?h3t
  case hi3t => exact (by simp only [List.getElem?_toArray, List.getElem?_cons_succ, List.getElem?_cons_zero]; rfl)
  case hs3t => kernel_rfl
  case hf3t => kernel_rfl
  case hr3t => kernel_rfl
  case hQ3t => exact fun _ _ _ h => h
  case hy3t =>
    refine Or.inl ⟨rfl, ?_⟩
    intro W hSw
    obtain ⟨⟨y0, y1, y2⟩, y3, y4⟩ := hSw
    go_simp
    try with_reducible rfl
  case hS3t => assumption
  try simp only [Act.put, List.setIfInBounds_toArray, List.set_cons_zero, List.set_cons_succ]
  refine wpAnyH_take (i := 4) (oi := ?oi4t) (v := ?v4t) ?hi4t ?hs4t ?hf4t ?hr4t ?hQ4t ?hy4t ?hS4t ?h4t
  case hi4t => exact (by simp only [List.getElem?_toArray, List.getElem?_cons_succ, List.getElem?_cons_zero]; rfl)
  case hs4t => kernel_rfl
  case hf4t => kernel_rfl
  case hr4t => kernel_rfl
  case hQ4t => exact fun _ _ _ h => h
  case hy4t =>
    refine Or.inl ⟨rfl, ?_⟩
    intro W hSw
    obtain ⟨⟨y0, y1, y2⟩, y3, y4⟩ := hSw
    go_simp
    try with_reducible rfl
  case hS4t => assumption
  try simp only [Act.put, List.setIfInBounds_toArray, List.set_cons_zero, List.set_cons_succ]
  refine wpAnyH_take (i := 5) (oi := ?oi5t) (v := ?v5t) ?hi5t ?hs5t ?hf5t ?hr5t ?hQ5t ?hy5t ?hS5t ?h5t
  case hi5t => exact (by simp only [List.getElem?_toArray, List.getElem?_cons_succ, List.getElem?_cons_zero]; rfl)
  case hs5t => kernel_rfl
  case hf5t => kernel_rfl
  case hr5t => kernel_rfl
  case hQ5t => exact fun _ _ _ h => h
  case hy5t =>
    refine Or.inl ⟨rfl, ?_⟩
    intro W hSw
    obtain ⟨⟨y0, y1, y2⟩, y3, y4⟩ := hSw
    go_simp
    try with_reducible rfl
  case hS5t => assumption
  try simp only [Act.put, List.setIfInBounds_toArray, List.set_cons_zero, List.set_cons_succ]
  refine wpAnyH_take (i := 6) (oi := ?oi6t) (v := ?v6t) ?hi6t ?hs6t ?hf6t ?hr6t ?hQ6t ?hy6t ?hS6t ?h6t
  case hi6t => exact (by simp only [List.getElem?_toArray, List.getElem?_cons_succ, List.getElem?_cons_zero]; rfl)
  case hs6t => kernel_rfl
  case hf6t => kernel_rfl
  case hr6t => kernel_rfl
  case hQ6t => exact fun _ _ _ h => h
  case hy6t =>
    refine Or.inl ⟨rfl, ?_⟩
    intro W hSw
    obtain ⟨⟨y0, y1, y2⟩, y3, y4⟩ := hSw
    go_simp
    try with_reducible rfl
  case hS6t => assumption
  try simp only [Act.put, List.setIfInBounds_toArray, List.set_cons_zero, List.set_cons_succ]
  refine wpAnyH_take (i := 7) (oi := ?oi7t) (v := ?v7t) ?hi7t ?hs7t ?hf7t ?hr7t ?hQ7t ?hy7t ?hS7t ?h7t
  case hi7t => exact (by simp only [List.getElem?_toArray, List.getElem?_cons_succ, List.getElem?_cons_zero]; rfl)
  case hs7t => kernel_rfl
  case hf7t => kernel_rfl
  case hr7t => kernel_rfl
  case hQ7t => exact fun _ _ _ h => h
  case hy7t =>
    refine Or.inl ⟨rfl, ?_⟩
    intro W hSw
    obtain ⟨⟨y0, y1, y2⟩, y3, y4⟩ := hSw
    go_simp
    try with_reducible rfl
  case hS7t => assumption
  try simp only [Act.put, List.setIfInBounds_toArray, List.set_cons_zero, List.set_cons_succ]
  refine wpAnyH_take (i := 8) (oi := ?oi8t) (v := ?v8t) ?hi8t ?hs8t ?hf8t ?hr8t ?hQ8t ?hy8t ?hS8t ?h8t
  case hi8t => exact (by simp only [List.getElem?_toArray, List.getElem?_cons_succ, List.getElem?_cons_zero]; rfl)
  case hs8t => kernel_rfl
  case hf8t => kernel_rfl
  case hr8t => kernel_rfl
  case hQ8t => exact fun _ _ _ h => h
  case hy8t =>
    refine Or.inl ⟨rfl, ?_⟩
    intro W hSw
    obtain ⟨⟨y0, y1, y2⟩, y3, y4⟩ := hSw
    go_simp
    try with_reducible rfl
  case hS8t => assumption
  try simp only [Act.put, List.setIfInBounds_toArray, List.set_cons_zero, List.set_cons_succ]
  refine wpAnyH_ready (rs := [9]) (by kernel_rfl) (by simp) ?_
  refine AllReadyH.cons (o := _) rfl (fun K hK => ?_) AllReadyH.nil
  go_simp
  refine (rwith_any (some ⟨b1, o1, none⟩) n c x most idle yp now l W0 HN.out ((HR0.out.below HS0.out).mono HS0.out.size) hl).mono ?_
  rintro r w3 ⟨A3, c3, rfl, hR3, hb3, hA3⟩
  have HR3 := Lib.hid hR3
  have HB3 : Hid (Below wb.heap.size wb w3) := HW0.out.trans (hb3.mono HW0.out.size)
  have HA3 : Hid (∀ b o, A3 = some ⟨b, o, none⟩ → w.heap.size + 2 ≤ b ∧ Ty w3 b) := fun b o e => by
    have h1 := hA3 b o e
    have h2 := HW0.out.size
    have h3 := HSB.out
    exact ⟨by have := h1.1; omega, h1.2⟩
  clear hR3 hb3 hA3
  refine hK.out _ _ (HS1.out _ HB3.out) (fun hHeld => ?_)
  clear hK K
  try simp only [Act.put, List.setIfInBounds_toArray, List.set_cons_zero, List.set_cons_succ]
  refine wpAnyH_ready (rs := [10]) (by kernel_rfl) (by simp) ?_
  refine AllReadyH.cons (o := _) rfl (fun K hK => ?_) AllReadyH.nil
  have hq4 := (HCC.out w3 HB3.out).2
  have z0 := cell_of_row w3 (w.heap.size + 1) 0 _ _ _ hq4
  have z1 := cell_of_row w3 (w.heap.size + 1) 1 _ _ _ hq4
  have z2 := cell_of_row w3 (w.heap.size + 1) 2 _ _ _ hq4
  simp at z0 z1 z2
  have zf : ∀ i, w3.frozen? ⟨w.heap.size + 1, i, none⟩ = false := fun i => frozen_of_row w3 _ i _ _ hq4
  go_simp
  have HT := Lib.hid (three (.slice A3 n c3) (.int .i64 most) (.int .i64 idle) hq4)
  have HRES := Lib.hid (put_out (w := w) (p := .slice A3 n c3) (q := .int .i64 most) (r := .int .i64 idle) hq4 (Nat.le_succ _) HR3.out (HBB.out.trans (HB3.out.mono HBB.out.size)) (fun b o e => by have := (HA3.out b o e).1; omega))
  clear z0 z1 z2 zf hq4
  obtain ⟨W5, hW5⟩ : ∃ W5, W5 = (((w3.setCell ⟨w.heap.size + 1, 0, none⟩ (.slice A3 n c3)).setCell ⟨w.heap.size + 1, 1, none⟩ (.int .i64 most)).setCell ⟨w.heap.size + 1, 2, none⟩ (.int .i64 idle)) := ⟨_, rfl⟩
  rw [← hW5] at HT HRES
  have HS5 : Hid ((fun W : World => (W.cell? ⟨w.heap.size, 0, none⟩ = some (.slice (some ⟨b1, o1, none⟩) n c) ∧ W.cell? ⟨w.heap.size, 1, none⟩ = some (.int .i64 most) ∧ W.cell? ⟨w.heap.size, 2, none⟩ = some (.int .i64 idle)) ∧ W.cell? ⟨b1, o1 + j * 3 + 1, none⟩ = some (.int .u32 yp) ∧ W.cell? ⟨b1, o1 + j * 3 + 2, none⟩ = some (.int .i64 ya)) W5) := by
    obtain ⟨⟨f0, f1, f2⟩, f3, f4⟩ := HS1.out _ HB3.out
    have e2 := HRES.out.2.2.1 w.heap.size (by omega)
    have e3 := HRES.out.2.2.1 b1 (by have := HBL.out; omega)
    exact ⟨⟨(World.cell?_of_block (a := ⟨w.heap.size, _, none⟩) e2).trans f0, (World.cell?_of_block (a := ⟨w.heap.size, _, none⟩) e2).trans f1, (World.cell?_of_block (a := ⟨w.heap.size, _, none⟩) e2).trans f2⟩, (World.cell?_of_block (a := ⟨b1, _, none⟩) e3).trans f3, (World.cell?_of_block (a := ⟨b1, _, none⟩) e3).trans f4⟩
  rw [← hW5]
  clear hW5
  refine hK.out _ _ HS5.out (fun hHeld => ?_)
  clear hK K
  try simp only [Act.put, List.setIfInBounds_toArray, List.set_cons_zero, List.set_cons_succ]
  refine wpAnyH_take (i := 11) (oi := ?oi11t) (v := ?v11t) ?hi11t ?hs11t ?hf11t ?hr11t ?hQ11t ?hy11t ?hS11t ?h11t
  case hi11t => exact (by simp only [List.getElem?_toArray, List.getElem?_cons_succ, List.getElem?_cons_zero]; rfl)
  case hs11t => kernel_rfl
  case hf11t => kernel_rfl
  case hr11t => kernel_rfl
  case hQ11t => exact fun _ _ _ h => h
  case hy11t =>
    refine Or.inl ⟨rfl, ?_⟩
    intro W hSw
    obtain ⟨⟨y0, y1, y2⟩, y3, y4⟩ := hSw
    go_simp
    try with_reducible rfl
  case hS11t => assumption
  try simp only [Act.put, List.setIfInBounds_toArray, List.set_cons_zero, List.set_cons_succ]
  refine wpAnyH_done (by kernel_rfl) ?_ _
  obtain ⟨e0, e1, e2, _⟩ := HT.out
  go_wp2_with fail
  exact bodyPost_ret (v := .tuple #[rV A3 n c3 most idle, .int .i64 0]) (by simp [results, Try.results17, go_sem, e0, e1, e2]) rfl ⟨A3, n, c3, (by rw [len_set]; exact HN.out), rfl, HRES.out.1, HRES.out.2.1, .inr fun b o e => by
    obtain ⟨h1, cs, h2⟩ := HA3.out b o e
    exact ⟨by omega, cs, (HRES.out.2.2.1 b (by omega)).trans h2⟩⟩

set_option maxHeartbeats 8000000 in
theorem rlogout_there (A : Option Addr) (n c : Nat) (most idle : Int) (l : List Lk) (x : Nat) (j : Nat) (ya yp : Int) (w : World) (hn : n = l.length) (hR : Rs w w.heap.size A l) (hl : n ≤ 100) (hj : l[j]? = some (x, (ya, yp))) (hpw : l.Pairwise Rd) (h0 : ¬ yp = 0) :
    Calls Try.prog 13 #[rV A n c most idle, .int .u32 (x : Int)] w (Q3 A most idle yp 0 (setS x (ya, 0) l) w) := by
  obtain ⟨wa, hwa⟩ : ∃ wa, wa = w.alloc (.cells (rC A n c most idle) 27) := ⟨_, rfl⟩
  have hsa : wa.heap.size = w.heap.size + 1 := by rw [hwa]; simp
  have hba : Below w.heap.size w wa := by rw [hwa]; exact (Below.refl _ _).alloc (Nat.le_refl _) _
  have hqa : wa.heap[w.heap.size]? = some (.cells (rC A n c most idle) 27 (0, 0)) := by rw [hwa]; exact heap_alloc_new w _
  obtain ⟨wb, hwb⟩ : ∃ wb, wb = wa.alloc (.cells #[.slice none 0 0, .int .i64 0, .int .i64 0] 27) := ⟨_, rfl⟩
  have hsb : wb.heap.size = w.heap.size + 2 := by rw [hwb]; simp [hsa]
  have hbb : Below wa.heap.size wa wb := by rw [hwb]; exact (Below.refl _ _).alloc (Nat.le_refl _) _
  have hqb : wb.heap[w.heap.size + 1]? = some (.cells #[.slice none 0 0, .int .i64 0, .int .i64 0] 27 (0, 0)) := by rw [hwb, ← hsa]; exact heap_alloc_new wa _
  have hqab : wb.heap[w.heap.size]? = some (.cells (rC A n c most idle) 27 (0, 0)) := (hbb.block _ (lt_of_block hqa)).trans hqa
  have HBB : Hid (Below w.heap.size w wb) := hba.trans (hbb.mono hba.size)
  have HSB := Lib.hid hsb
  have HWB : Hid (wb = (w.alloc (.cells (rC A n c most idle) 27)).alloc (.cells #[.slice none 0 0, .int .i64 0, .int .i64 0] 27)) := by simp only [Hid]; rw [hwb, hwa]
  have HCC : Hid (∀ W, Below wb.heap.size wb W → (W.cell? ⟨w.heap.size, 0, none⟩ = some (.slice A n c) ∧ W.cell? ⟨w.heap.size, 1, none⟩ = some (.int .i64 most) ∧ W.cell? ⟨w.heap.size, 2, none⟩ = some (.int .i64 idle)) ∧ W.heap[w.heap.size + 1]? = some (.cells #[.slice none 0 0, .int .i64 0, .int .i64 0] 27 (0, 0))) := fun W hW => by
    have e1 := (hW.block w.heap.size (lt_of_block hqab)).trans hqab
    exact ⟨⟨cell_of_row W _ 0 _ _ _ e1, cell_of_row W _ 1 _ _ _ e1, cell_of_row W _ 2 _ _ _ e1⟩, (hW.block _ (lt_of_block hqb)).trans hqb⟩
  have HR : Hid (Rs wb w.heap.size A l) := hR.below HBB.out
  have HR0 := Lib.hid hR
  have HN := Lib.hid hn
  have HBR : Hid (Below wb.heap.size wb wb) := Below.refl _ _
  clear hwa hsa hba hqa hwb hsb hbb hqb hqab hR hn
  have HUN : Hid (∀ (i : Nat) e, i ≠ j → l[i]? = some e → e.1 ≠ x) := fun i e => uni hpw hj i e
  have HJ := Lib.hid hj
  have hjn : j < n := by rw [HN.out]; exact (List.getElem?_eq_some_iff.1 hj).1
  obtain ⟨b1, o1, rfl, hb1, ha1⟩ := HR.out (by have := HN.out; omega)
  have HF := Lib.hid (rfind_there (some ⟨b1, o1, none⟩) n c most idle l j x (ya, yp) wb HN.out (HR.out.mono HBB.out.size) hl hj (fun i e h => HUN.out i e (by omega)))
  have HBL : Hid (b1 < w.heap.size) := hb1
  have HS1 : Hid (∀ W, Below wb.heap.size wb W → (fun W : World => (W.cell? ⟨w.heap.size, 0, none⟩ = some (.slice (some ⟨b1, o1, none⟩) n c) ∧ W.cell? ⟨w.heap.size, 1, none⟩ = some (.int .i64 most) ∧ W.cell? ⟨w.heap.size, 2, none⟩ = some (.int .i64 idle)) ∧ W.cell? ⟨b1, o1 + j * 3 + 1, none⟩ = some (.int .u32 yp) ∧ W.cell? ⟨b1, o1 + j * 3 + 2, none⟩ = some (.int .i64 ya)) W) := fun W hW => by
    obtain ⟨-, d1, d2⟩ := ha1 j _ HJ.out
    have hlt' : b1 < wb.heap.size := by have := HSB.out; omega
    exact ⟨(HCC.out W hW).1, (hW.cell (p := ⟨b1, _, none⟩) hlt').trans d1, (hW.cell (p := ⟨b1, _, none⟩) hlt').trans d2⟩
  clear hj hpw ha1 hb1
  go_enter Try.func13, Try.ntmps13
  go_upto_region 1 with (fail)
  rw [← HWB.out]
  obtain ⟨⟨p0, p1, p2⟩, -⟩ := HCC.out wb HBR.out
  go_wp2_with fail
  refine HF.out.mono ?_
  rintro r w2 ⟨rfl, hb2⟩
  have HB2 := Lib.hid hb2
  clear hb2 p0 p1 p2
  obtain ⟨⟨p0, p1, p2⟩, d1, -⟩ := HS1.out w2 HB2.out
  go_upto_region 6 with (fail)
  clear p0 p1 p2 d1
  refine wp_region_held_drew (S := fun W : World => (W.cell? ⟨w.heap.size, 0, none⟩ = some (.slice (some ⟨b1, o1, none⟩) n c) ∧ W.cell? ⟨w.heap.size, 1, none⟩ = some (.int .i64 most) ∧ W.cell? ⟨w.heap.size, 2, none⟩ = some (.int .i64 idle)) ∧ W.cell? ⟨b1, o1 + j * 3 + 1, none⟩ = some (.int .u32 yp) ∧ W.cell? ⟨b1, o1 + j * 3 + 2, none⟩ = some (.int .i64 ya)) (by kernel_rfl) (HS1.out _ HB2.out.drew) (fun hHeld => ?_)
  obtain ⟨W0, hW0⟩ : ∃ W0, W0 = w2.drew := ⟨_, rfl⟩
  have HW0 : Hid (Below wb.heap.size wb W0) := by rw [hW0]; exact HB2.out.drew
  have HS0 : Hid (Below w.heap.size w W0) := HBB.out.trans (HW0.out.mono HBB.out.size)
  rw [← hW0] at hHeld ⊢
  clear hW0
  refine wpAnyH_take (i := 0) (oi := ?oi0t) (v := ?v0t) ?hi0t ?hs0t ?hf0t ?hr0t ?hQ0t ?hy0t ?hS0t ?h0t
  case hi0t => exact (by simp only [List.getElem?_toArray, List.getElem?_cons_zero]; rfl)
  case hs0t => kernel_rfl
  case hf0t => kernel_rfl
  case hr0t => kernel_rfl
  case hQ0t => exact fun _ _ _ h => h
  case hy0t =>
    refine Or.inl ⟨rfl, ?_⟩
    intro W hSw
    obtain ⟨⟨y0, y1, y2⟩, y3, y4⟩ := hSw
    go_simp
    try with_reducible rfl
  case hS0t => assumption
  try simp only [Act.put, List.setIfInBounds_toArray, List.set_cons_zero, List.set_cons_succ]
  refine wpAnyH_take (i := 1) (oi := ?oi1t) (v := ?v1t) ?hi1t ?hs1t ?hf1t ?hr1t ?hQ1t ?hy1t ?hS1t ?h1t
  case hi1t => exact (by simp only [List.getElem?_toArray, List.getElem?_cons_succ, List.getElem?_cons_zero]; rfl)
  case hs1t => kernel_rfl
  case hf1t => kernel_rfl
  case hr1t => kernel_rfl
  case hQ1t => exact fun _ _ _ h => h
  case hy1t =>
    refine Or.inl ⟨rfl, ?_⟩
    intro W hSw
    obtain ⟨⟨y0, y1, y2⟩, y3, y4⟩ := hSw
    go_simp
    try with_reducible rfl
  case hS1t => assumption
  try simp only [Act.put, List.setIfInBounds_toArray, List.set_cons_zero, List.set_cons_succ]
  refine wpAnyH_take (i := 2) (oi := ?oi2t) (v := ?v2t) ?hi2t ?hs2t ?hf2t ?hr2t ?hQ2t ?hy2t ?hS2t ?h2t
  case hi2t => exact (by simp only [List.getElem?_toArray, List.getElem?_cons_succ, List.getElem?_cons_zero]; rfl)
  case hs2t => kernel_rfl
  case hf2t => kernel_rfl
  case hr2t => kernel_rfl
  case hQ2t => exact fun _ _ _ h => h
  case hy2t =>
    refine Or.inl ⟨rfl, ?_⟩
    intro W hSw
    obtain ⟨⟨y0, y1, y2⟩, y3, y4⟩ := hSw
    go_simp
    try with_reducible rfl
  case hS2t => assumption
  try simp only [Act.put, List.setIfInBounds_toArray, List.set_cons_zero, List.set_cons_succ]
  refine wpAnyH_take (i := 3) (oi := ?oi3t) (v := ?v3t) ?hi3t ?hs3t ?hf3t ?hr3t ?hQ3t ?hy3t ?hS3t ?h3t
  case hi3t => exact (by simp only [List.getElem?_toArray, List.getElem?_cons_succ, List.getElem?_cons_zero]; rfl)
  case hs3t => kernel_rfl
  case hf3t => kernel_rfl
  case hr3t => kernel_rfl
  case hQ3t => exact fun _ _ _ h => h
  case hy3t =>
    refine Or.inl ⟨rfl, ?_⟩
    intro W hSw
    obtain ⟨⟨y0, y1, y2⟩, y3, y4⟩ := hSw
    go_simp
    try with_reducible rfl
  case hS3t => assumption
  try simp only [Act.put, List.setIfInBounds_toArray, List.set_cons_zero, List.set_cons_succ]
  refine wpAnyH_take (i := 4) (oi := ?oi4t) (v := ?v4t) ?hi4t ?hs4t ?hf4t ?hr4t ?hQ4t ?hy4t ?hS4t ?h4t
  case hi4t => exact (by simp only [List.getElem?_toArray, List.getElem?_cons_succ, List.getElem?_cons_zero]; rfl)
  case hs4t => kernel_rfl
  case hf4t => kernel_rfl
  case hr4t => kernel_rfl
  case hQ4t => exact fun _ _ _ h => h
  case hy4t =>
    refine Or.inl ⟨rfl, ?_⟩
    intro W hSw
    obtain ⟨⟨y0, y1, y2⟩, y3, y4⟩ := hSw
    go_simp
    try with_reducible rfl
  case hS4t => assumption
  try simp only [Act.put, List.setIfInBounds_toArray, List.set_cons_zero, List.set_cons_succ]
  refine wpAnyH_take (i := 5) (oi := ?oi5t) (v := ?v5t) ?hi5t ?hs5t ?hf5t ?hr5t ?hQ5t ?hy5t ?hS5t ?h5t
  case hi5t => exact (by simp only [List.getElem?_toArray, List.getElem?_cons_succ, List.getElem?_cons_zero]; rfl)
  case hs5t => kernel_rfl
  case hf5t => kernel_rfl
  case hr5t => kernel_rfl
  case hQ5t => exact fun _ _ _ h => h
  case hy5t =>
    refine Or.inl ⟨rfl, ?_⟩
    intro W hSw
    obtain ⟨⟨y0, y1, y2⟩, y3, y4⟩ := hSw
    go_simp
    try with_reducible rfl
  case hS5t => assumption
  try simp only [Act.put, List.setIfInBounds_toArray, List.set_cons_zero, List.set_cons_succ]
  refine wpAnyH_take (i := 6) (oi := ?oi6t) (v := ?v6t) ?hi6t ?hs6t ?hf6t ?hr6t ?hQ6t ?hy6t ?hS6t ?h6t
  case hi6t => exact (by simp only [List.getElem?_toArray, List.getElem?_cons_succ, List.getElem?_cons_zero]; rfl)
  case hs6t => kernel_rfl
  case hf6t => kernel_rfl
  case hr6t => kernel_rfl
  case hQ6t => exact fun _ _ _ h => h
  case hy6t =>
    refine Or.inl ⟨rfl, ?_⟩
    intro W hSw
    obtain ⟨⟨y0, y1, y2⟩, y3, y4⟩ := hSw
    go_simp
    try with_reducible rfl
  case hS6t => assumption
  try simp only [Act.put, List.setIfInBounds_toArray, List.set_cons_zero, List.set_cons_succ]
  refine wpAnyH_take (i := 7) (oi := ?oi7t) (v := ?v7t) ?hi7t ?hs7t ?hf7t ?hr7t ?hQ7t ?hy7t ?hS7t ?h7t
  case hi7t => exact (by simp only [List.getElem?_toArray, List.getElem?_cons_succ, List.getElem?_cons_zero]; rfl)
  case hs7t => kernel_rfl
  case hf7t => kernel_rfl
  case hr7t => kernel_rfl
  case hQ7t => exact fun _ _ _ h => h
  case hy7t =>
    refine Or.inl ⟨rfl, ?_⟩
    intro W hSw
    obtain ⟨⟨y0, y1, y2⟩, y3, y4⟩ := hSw
    go_simp
    try with_reducible rfl
  case hS7t => assumption
  try simp only [Act.put, List.setIfInBounds_toArray, List.set_cons_zero, List.set_cons_succ]
  refine wpAnyH_take (i := 9) (oi := ?oi9t) (v := ?v9t) ?hi9t ?hs9t ?hf9t ?hr9t ?hQ9t ?hy9t ?hS9t ?h9t
  case hi9t => exact (by simp only [List.getElem?_toArray, List.getElem?_cons_succ, List.getElem?_cons_zero]; rfl)
  case hs9t => kernel_rfl
  case hf9t => kernel_rfl
  case hr9t => kernel_rfl
  case hQ9t => exact fun _ _ _ h => h
  case hy9t =>
    refine Or.inl ⟨rfl, ?_⟩
    intro W hSw
    obtain ⟨⟨y0, y1, y2⟩, y3, y4⟩ := hSw
    go_simp
    try with_reducible rfl
  case hS9t => assumption
  try simp only [Act.put, List.setIfInBounds_toArray, List.set_cons_zero, List.set_cons_succ]
  refine wpAnyH_take (i := 10) (oi := ?oi10t) (v := ?v10t) ?hi10t ?hs10t ?hf10t ?hr10t ?hQ10t ?hy10t ?hS10t ?h10t
  case hi10t => exact (by simp only [List.getElem?_toArray, List.getElem?_cons_succ, List.getElem?_cons_zero]; rfl)
  case hs10t => kernel_rfl
  case hf10t => kernel_rfl
  case hr10t => kernel_rfl
  case hQ10t => exact fun _ _ _ h => h
  case hy10t =>
    refine Or.inl ⟨rfl, ?_⟩
    intro W hSw
    obtain ⟨⟨y0, y1, y2⟩, y3, y4⟩ := hSw
    go_simp
    try with_reducible rfl
  case hS10t => assumption
  try simp only [Act.put, List.setIfInBounds_toArray, List.set_cons_zero, List.set_cons_succ]
  refine wpAnyH_take (i := 11) (oi := ?oi11t) (v := ?v11t) ?hi11t ?hs11t ?hf11t ?hr11t ?hQ11t ?hy11t ?hS11t ?h11t
  case hi11t => exact (by simp only [List.getElem?_toArray, List.getElem?_cons_succ, List.getElem?_cons_zero]; rfl)
  case hs11t => kernel_rfl
  case hf11t => kernel_rfl
  case hr11t => kernel_rfl
  case hQ11t => exact fun _ _ _ h => h
  case hy11t =>
    refine Or.inl ⟨rfl, ?_⟩
    intro W hSw
    obtain ⟨⟨y0, y1, y2⟩, y3, y4⟩ := hSw
    go_simp
    try with_reducible rfl
  case hS11t => assumption
  try simp only [Act.put, List.setIfInBounds_toArray, List.set_cons_zero, List.set_cons_succ]
  refine wpAnyH_take (i := 12) (oi := ?oi12t) (v := ?v12t) ?hi12t ?hs12t ?hf12t ?hr12t ?hQ12t ?hy12t ?hS12t ?h12t
  case hi12t => exact (by simp only [List.getElem?_toArray, List.getElem?_cons_succ, List.getElem?_cons_zero]; rfl)
  case hs12t => kernel_rfl
  case hf12t => kernel_rfl
  case hr12t => kernel_rfl
  case hQ12t => exact fun _ _ _ h => h
  case hy12t =>
    refine Or.inl ⟨rfl, ?_⟩
    intro W hSw
    obtain ⟨⟨y0, y1, y2⟩, y3, y4⟩ := hSw
    go_simp
    try with_reducible rfl
  case hS12t => assumption
  try simp only [Act.put, List.setIfInBounds_toArray, List.set_cons_zero, List.set_cons_succ]
  refine wpAnyH_take (i := 13) (oi := ?oi13t) (v := ?v13t) ?hi13t ?hs13t ?hf13t ?hr13t ?hQ13t ?hy13t ?hS13t ?h13t
  case hi13t => exact (by simp only [List.getElem?_toArray, List.getElem?_cons_succ, List.getElem?_cons_zero]; rfl)
  case hs13t => kernel_rfl
  case hf13t => kernel_rfl
  case hr13t => kernel_rfl
  case hQ13t => exact fun _ _ _ h => h
  case hy13t =>
    refine Or.inl ⟨rfl, ?_⟩
    intro W hSw
    obtain ⟨⟨y0, y1, y2⟩, y3, y4⟩ := hSw
    go_simp
    try with_reducible rfl
  case hS13t => assumption
  try simp only [Act.put, List.setIfInBounds_toArray, List.set_cons_zero, List.set_cons_succ]
  refine wpAnyH_take (i := 14) (oi := ?oi14t) (v := ?v14t) ?hi14t ?hs14t ?hf14t ?hr14t ?hQ14t ?hy14t ?hS14t ?h14t
  case hi14t => exact (by simp only [List.getElem?_toArray, List.getElem?_cons_succ, List.getElem?_cons_zero]; rfl)
  case hs14t => kernel_rfl
  case hf14t => kernel_rfl
  case hr14t => kernel_rfl
  case hQ14t => exact fun _ _ _ h => h
  case hy14t =>
    refine Or.inl ⟨rfl, ?_⟩
    intro W hSw
    obtain ⟨⟨y0, y1, y2⟩, y3, y4⟩ := hSw
    go_simp
    try with_reducible rfl
  case hS14t => assumption
  try simp only [Act.put, List.setIfInBounds_toArray, List.set_cons_zero, List.set_cons_succ]
  refine wpAnyH_ready (rs := [8]) (by kernel_rfl) (by simp) ?_
  refine AllReadyH.cons (o := _) rfl (fun K hK => ?_) AllReadyH.nil
  go_simp
  refine (rwith_any (some ⟨b1, o1, none⟩) n c x most idle 0 ya l W0 HN.out ((HR0.out.below HS0.out).mono HS0.out.size) hl).mono ?_
  rintro r w3 ⟨A3, c3, rfl, hR3, hb3, hA3⟩
  have HR3 := Lib.hid hR3
  have HB3 : Hid (Below wb.heap.size wb w3) := HW0.out.trans (hb3.mono HW0.out.size)
  have HA3 : Hid (∀ b o, A3 = some ⟨b, o, none⟩ → w.heap.size + 2 ≤ b ∧ Ty w3 b) := fun b o e => by
    have h1 := hA3 b o e
    have h2 := HW0.out.size
    have h3 := HSB.out
    exact ⟨by have := h1.1; omega, h1.2⟩
  clear hR3 hb3 hA3
  refine hK.out _ _ (HS1.out _ HB3.out) (fun hHeld => ?_)
  clear hK K
  try simp only [Act.put, List.setIfInBounds_toArray, List.set_cons_zero, List.set_cons_succ]
  refine wpAnyH_ready (rs := [15]) (by kernel_rfl) (by simp) ?_
  refine AllReadyH.cons (o := _) rfl (fun K hK => ?_) AllReadyH.nil
  have hq4 := (HCC.out w3 HB3.out).2
  have z0 := cell_of_row w3 (w.heap.size + 1) 0 _ _ _ hq4
  have z1 := cell_of_row w3 (w.heap.size + 1) 1 _ _ _ hq4
  have z2 := cell_of_row w3 (w.heap.size + 1) 2 _ _ _ hq4
  simp at z0 z1 z2
  have zf : ∀ i, w3.frozen? ⟨w.heap.size + 1, i, none⟩ = false := fun i => frozen_of_row w3 _ i _ _ hq4
  go_simp
  have HT := Lib.hid (three (.slice A3 n c3) (.int .i64 most) (.int .i64 idle) hq4)
  have HRES := Lib.hid (put_out (w := w) (p := .slice A3 n c3) (q := .int .i64 most) (r := .int .i64 idle) hq4 (Nat.le_succ _) HR3.out (HBB.out.trans (HB3.out.mono HBB.out.size)) (fun b o e => by have := (HA3.out b o e).1; omega))
  clear z0 z1 z2 zf hq4
  obtain ⟨W5, hW5⟩ : ∃ W5, W5 = (((w3.setCell ⟨w.heap.size + 1, 0, none⟩ (.slice A3 n c3)).setCell ⟨w.heap.size + 1, 1, none⟩ (.int .i64 most)).setCell ⟨w.heap.size + 1, 2, none⟩ (.int .i64 idle)) := ⟨_, rfl⟩
  rw [← hW5] at HT HRES
  have HS5 : Hid ((fun W : World => (W.cell? ⟨w.heap.size, 0, none⟩ = some (.slice (some ⟨b1, o1, none⟩) n c) ∧ W.cell? ⟨w.heap.size, 1, none⟩ = some (.int .i64 most) ∧ W.cell? ⟨w.heap.size, 2, none⟩ = some (.int .i64 idle)) ∧ W.cell? ⟨b1, o1 + j * 3 + 1, none⟩ = some (.int .u32 yp) ∧ W.cell? ⟨b1, o1 + j * 3 + 2, none⟩ = some (.int .i64 ya)) W5) := by
    obtain ⟨⟨f0, f1, f2⟩, f3, f4⟩ := HS1.out _ HB3.out
    have e2 := HRES.out.2.2.1 w.heap.size (by omega)
    have e3 := HRES.out.2.2.1 b1 (by have := HBL.out; omega)
    exact ⟨⟨(World.cell?_of_block (a := ⟨w.heap.size, _, none⟩) e2).trans f0, (World.cell?_of_block (a := ⟨w.heap.size, _, none⟩) e2).trans f1, (World.cell?_of_block (a := ⟨w.heap.size, _, none⟩) e2).trans f2⟩, (World.cell?_of_block (a := ⟨b1, _, none⟩) e3).trans f3, (World.cell?_of_block (a := ⟨b1, _, none⟩) e3).trans f4⟩
  rw [← hW5]
  clear hW5
  refine hK.out _ _ HS5.out (fun hHeld => ?_)
  clear hK K
  try simp only [Act.put, List.setIfInBounds_toArray, List.set_cons_zero, List.set_cons_succ]
  refine wpAnyH_take (i := 16) (oi := ?oi16t) (v := ?v16t) ?hi16t ?hs16t ?hf16t ?hr16t ?hQ16t ?hy16t ?hS16t ?h16t
  case hi16t => exact (by simp only [List.getElem?_toArray, List.getElem?_cons_succ, List.getElem?_cons_zero]; rfl)
  case hs16t => kernel_rfl
  case hf16t => kernel_rfl
  case hr16t => kernel_rfl
  case hQ16t => exact fun _ _ _ h => h
  case hy16t =>
    refine Or.inl ⟨rfl, ?_⟩
    intro W hSw
    obtain ⟨⟨y0, y1, y2⟩, y3, y4⟩ := hSw
    go_simp
    try with_reducible rfl
  case hS16t => assumption
  try simp only [Act.put, List.setIfInBounds_toArray, List.set_cons_zero, List.set_cons_succ]
  refine wpAnyH_take (i := 17) (oi := ?oi17t) (v := ?v17t) ?hi17t ?hs17t ?hf17t ?hr17t ?hQ17t ?hy17t ?hS17t ?h17t
  case hi17t => exact (by simp only [List.getElem?_toArray, List.getElem?_cons_succ, List.getElem?_cons_zero]; rfl)
  case hs17t => kernel_rfl
  case hf17t => kernel_rfl
  case hr17t => kernel_rfl
  case hQ17t => exact fun _ _ _ h => h
  case hy17t =>
    refine Or.inl ⟨rfl, ?_⟩
    intro W hSw
    obtain ⟨⟨y0, y1, y2⟩, y3, y4⟩ := hSw
    go_simp
    try with_reducible rfl
  case hS17t => assumption
  try simp only [Act.put, List.setIfInBounds_toArray, List.set_cons_zero, List.set_cons_succ]
  refine wpAnyH_done (by kernel_rfl) ?_ _
  obtain ⟨e0, e1, e2, _⟩ := HT.out
  go_wp2_with fail
  exact bodyPost_ret (v := .tuple #[rV A3 n c3 most idle, .int .u32 yp, .int .i64 0]) (by simp [results, Try.results13, go_sem, e0, e1, e2]) rfl ⟨A3, n, c3, (by rw [len_set]; exact HN.out), rfl, HRES.out.1, HRES.out.2.1, .inr fun b o e => by
    obtain ⟨h1, cs, h2⟩ := HA3.out b o e
    exact ⟨by omega, cs, (HRES.out.2.2.1 b (by omega)).trans h2⟩⟩

set_option maxHeartbeats 8000000 in
theorem rlogout_free (A : Option Addr) (n c : Nat) (most idle : Int) (l : List Lk) (x : Nat) (j : Nat) (ya yp : Int) (w : World) (hn : n = l.length) (hR : Rs w w.heap.size A l) (hl : n ≤ 100) (hj : l[j]? = some (x, (ya, yp))) (hpw : l.Pairwise Rd) (h0 : yp = 0) :
    Calls Try.prog 13 #[rV A n c most idle, .int .u32 (x : Int)] w (Q3 A most idle 0 25 l w) := by
  obtain ⟨wa, hwa⟩ : ∃ wa, wa = w.alloc (.cells (rC A n c most idle) 27) := ⟨_, rfl⟩
  have hsa : wa.heap.size = w.heap.size + 1 := by rw [hwa]; simp
  have hba : Below w.heap.size w wa := by rw [hwa]; exact (Below.refl _ _).alloc (Nat.le_refl _) _
  have hqa : wa.heap[w.heap.size]? = some (.cells (rC A n c most idle) 27 (0, 0)) := by rw [hwa]; exact heap_alloc_new w _
  obtain ⟨wb, hwb⟩ : ∃ wb, wb = wa.alloc (.cells #[.slice none 0 0, .int .i64 0, .int .i64 0] 27) := ⟨_, rfl⟩
  have hsb : wb.heap.size = w.heap.size + 2 := by rw [hwb]; simp [hsa]
  have hbb : Below wa.heap.size wa wb := by rw [hwb]; exact (Below.refl _ _).alloc (Nat.le_refl _) _
  have hqb : wb.heap[w.heap.size + 1]? = some (.cells #[.slice none 0 0, .int .i64 0, .int .i64 0] 27 (0, 0)) := by rw [hwb, ← hsa]; exact heap_alloc_new wa _
  have hqab : wb.heap[w.heap.size]? = some (.cells (rC A n c most idle) 27 (0, 0)) := (hbb.block _ (lt_of_block hqa)).trans hqa
  have HBB : Hid (Below w.heap.size w wb) := hba.trans (hbb.mono hba.size)
  have HSB := Lib.hid hsb
  have HWB : Hid (wb = (w.alloc (.cells (rC A n c most idle) 27)).alloc (.cells #[.slice none 0 0, .int .i64 0, .int .i64 0] 27)) := by simp only [Hid]; rw [hwb, hwa]
  have HCC : Hid (∀ W, Below wb.heap.size wb W → (W.cell? ⟨w.heap.size, 0, none⟩ = some (.slice A n c) ∧ W.cell? ⟨w.heap.size, 1, none⟩ = some (.int .i64 most) ∧ W.cell? ⟨w.heap.size, 2, none⟩ = some (.int .i64 idle)) ∧ W.heap[w.heap.size + 1]? = some (.cells #[.slice none 0 0, .int .i64 0, .int .i64 0] 27 (0, 0))) := fun W hW => by
    have e1 := (hW.block w.heap.size (lt_of_block hqab)).trans hqab
    exact ⟨⟨cell_of_row W _ 0 _ _ _ e1, cell_of_row W _ 1 _ _ _ e1, cell_of_row W _ 2 _ _ _ e1⟩, (hW.block _ (lt_of_block hqb)).trans hqb⟩
  have HR : Hid (Rs wb w.heap.size A l) := hR.below HBB.out
  have HR0 := Lib.hid hR
  have HN := Lib.hid hn
  have HBR : Hid (Below wb.heap.size wb wb) := Below.refl _ _
  clear hwa hsa hba hqa hwb hsb hbb hqb hqab hR hn
  have HUN : Hid (∀ (i : Nat) e, i ≠ j → l[i]? = some e → e.1 ≠ x) := fun i e => uni hpw hj i e
  have HJ := Lib.hid hj
  have hjn : j < n := by rw [HN.out]; exact (List.getElem?_eq_some_iff.1 hj).1
  obtain ⟨b1, o1, rfl, hb1, ha1⟩ := HR.out (by have := HN.out; omega)
  have HF := Lib.hid (rfind_there (some ⟨b1, o1, none⟩) n c most idle l j x (ya, yp) wb HN.out (HR.out.mono HBB.out.size) hl hj (fun i e h => HUN.out i e (by omega)))
  have HBL : Hid (b1 < w.heap.size) := hb1
  have HS1 : Hid (∀ W, Below wb.heap.size wb W → (fun W : World => (W.cell? ⟨w.heap.size, 0, none⟩ = some (.slice (some ⟨b1, o1, none⟩) n c) ∧ W.cell? ⟨w.heap.size, 1, none⟩ = some (.int .i64 most) ∧ W.cell? ⟨w.heap.size, 2, none⟩ = some (.int .i64 idle)) ∧ W.cell? ⟨b1, o1 + j * 3 + 1, none⟩ = some (.int .u32 yp) ∧ W.cell? ⟨b1, o1 + j * 3 + 2, none⟩ = some (.int .i64 ya)) W) := fun W hW => by
    obtain ⟨-, d1, d2⟩ := ha1 j _ HJ.out
    have hlt' : b1 < wb.heap.size := by have := HSB.out; omega
    exact ⟨(HCC.out W hW).1, (hW.cell (p := ⟨b1, _, none⟩) hlt').trans d1, (hW.cell (p := ⟨b1, _, none⟩) hlt').trans d2⟩
  clear hj hpw ha1 hb1
  subst h0
  go_enter Try.func13, Try.ntmps13
  go_upto_region 1 with (fail)
  rw [← HWB.out]
  obtain ⟨⟨p0, p1, p2⟩, -⟩ := HCC.out wb HBR.out
  go_wp2_with fail
  refine HF.out.mono ?_
  rintro r w2 ⟨rfl, hb2⟩
  have HB2 := Lib.hid hb2
  clear hb2 p0 p1 p2
  obtain ⟨⟨p0, p1, p2⟩, d1, -⟩ := HS1.out w2 HB2.out
  obtain ⟨-, hq4⟩ := HCC.out w2 HB2.out
  have z0 := cell_of_row w2 (w.heap.size + 1) 0 _ _ _ hq4
  have z1 := cell_of_row w2 (w.heap.size + 1) 1 _ _ _ hq4
  have z2 := cell_of_row w2 (w.heap.size + 1) 2 _ _ _ hq4
  simp at z0 z1 z2
  have zf : ∀ i, w2.frozen? ⟨w.heap.size + 1, i, none⟩ = false := fun i => frozen_of_row w2 _ i _ _ hq4
  have HT := Lib.hid (three (.slice (some ⟨b1, o1, none⟩) n c) (.int .i64 most) (.int .i64 idle) hq4)
  have HRES : Hid (Below w.heap.size w (((w2.setCell ⟨w.heap.size + 1, 0, none⟩ (.slice (some ⟨b1, o1, none⟩) n c)).setCell ⟨w.heap.size + 1, 1, none⟩ (.int .i64 most)).setCell ⟨w.heap.size + 1, 2, none⟩ (.int .i64 idle))) := (((HBB.out.trans (HB2.out.mono HBB.out.size)).setCell (by show w.heap.size ≤ w.heap.size + 1; omega) _).setCell (by show w.heap.size ≤ w.heap.size + 1; omega) _).setCell (by show w.heap.size ≤ w.heap.size + 1; omega) _
  clear hq4
  go_wp2
  obtain ⟨e0, e1, e2, _⟩ := HT.out
  exact bodyPost_ret (v := .tuple #[rV (some ⟨b1, o1, none⟩) n c most idle, .int .u32 0, .int .i64 25]) (by simp [results, Try.results13, go_sem, e0, e1, e2]) rfl ⟨some ⟨b1, o1, none⟩, n, c, HN.out, rfl, (HR0.out.below HRES.out).mono HRES.out.size, HRES.out, .inl rfl⟩

set_option maxHeartbeats 8000000 in
theorem rlogin_id (A : Option Addr) (n c : Nat) (most idle : Int) (l : List Lk) (x pl : Nat) (now : Int) (j : Nat) (ya yp : Int) (w : World) (hn : n = l.length) (hR : Rs w w.heap.size A l) (hl : n ≤ 100) (hj : l[j]? = some (x, (ya, yp))) (hpw : l.Pairwise Rd) (hp : ¬ (1 ≤ pl ∧ pl ≤ 2147483647)) :
    Calls Try.prog 11 #[rV A n c most idle, .int .u32 (x : Int), .int .u32 (pl : Int), .int .i64 now] w (Q3 A most idle 0 14 l w) := by
  obtain ⟨wa, hwa⟩ : ∃ wa, wa = w.alloc (.cells (rC A n c most idle) 27) := ⟨_, rfl⟩
  have hsa : wa.heap.size = w.heap.size + 1 := by rw [hwa]; simp
  have hba : Below w.heap.size w wa := by rw [hwa]; exact (Below.refl _ _).alloc (Nat.le_refl _) _
  have hqa : wa.heap[w.heap.size]? = some (.cells (rC A n c most idle) 27 (0, 0)) := by rw [hwa]; exact heap_alloc_new w _
  obtain ⟨wb, hwb⟩ : ∃ wb, wb = wa.alloc (.cells #[.slice none 0 0, .int .i64 0, .int .i64 0] 27) := ⟨_, rfl⟩
  have hsb : wb.heap.size = w.heap.size + 2 := by rw [hwb]; simp [hsa]
  have hbb : Below wa.heap.size wa wb := by rw [hwb]; exact (Below.refl _ _).alloc (Nat.le_refl _) _
  have hqb : wb.heap[w.heap.size + 1]? = some (.cells #[.slice none 0 0, .int .i64 0, .int .i64 0] 27 (0, 0)) := by rw [hwb, ← hsa]; exact heap_alloc_new wa _
  have hqab : wb.heap[w.heap.size]? = some (.cells (rC A n c most idle) 27 (0, 0)) := (hbb.block _ (lt_of_block hqa)).trans hqa
  have HBB : Hid (Below w.heap.size w wb) := hba.trans (hbb.mono hba.size)
  have HSB := Lib.hid hsb
  have HWB : Hid (wb = (w.alloc (.cells (rC A n c most idle) 27)).alloc (.cells #[.slice none 0 0, .int .i64 0, .int .i64 0] 27)) := by simp only [Hid]; rw [hwb, hwa]
  have HCC : Hid (∀ W, Below wb.heap.size wb W → (W.cell? ⟨w.heap.size, 0, none⟩ = some (.slice A n c) ∧ W.cell? ⟨w.heap.size, 1, none⟩ = some (.int .i64 most) ∧ W.cell? ⟨w.heap.size, 2, none⟩ = some (.int .i64 idle)) ∧ W.heap[w.heap.size + 1]? = some (.cells #[.slice none 0 0, .int .i64 0, .int .i64 0] 27 (0, 0))) := fun W hW => by
    have e1 := (hW.block w.heap.size (lt_of_block hqab)).trans hqab
    exact ⟨⟨cell_of_row W _ 0 _ _ _ e1, cell_of_row W _ 1 _ _ _ e1, cell_of_row W _ 2 _ _ _ e1⟩, (hW.block _ (lt_of_block hqb)).trans hqb⟩
  have HR : Hid (Rs wb w.heap.size A l) := hR.below HBB.out
  have HR0 := Lib.hid hR
  have HN := Lib.hid hn
  have HBR : Hid (Below wb.heap.size wb wb) := Below.refl _ _
  clear hwa hsa hba hqa hwb hsb hbb hqb hqab hR hn
  have HUN : Hid (∀ (i : Nat) e, i ≠ j → l[i]? = some e → e.1 ≠ x) := fun i e => uni hpw hj i e
  have HJ := Lib.hid hj
  have hjn : j < n := by rw [HN.out]; exact (List.getElem?_eq_some_iff.1 hj).1
  obtain ⟨b1, o1, rfl, hb1, ha1⟩ := HR.out (by have := HN.out; omega)
  have HF := Lib.hid (rfind_there (some ⟨b1, o1, none⟩) n c most idle l j x (ya, yp) wb HN.out (HR.out.mono HBB.out.size) hl hj (fun i e h => HUN.out i e (by omega)))
  have HBL : Hid (b1 < w.heap.size) := hb1
  have HS1 : Hid (∀ W, Below wb.heap.size wb W → (fun W : World => (W.cell? ⟨w.heap.size, 0, none⟩ = some (.slice (some ⟨b1, o1, none⟩) n c) ∧ W.cell? ⟨w.heap.size, 1, none⟩ = some (.int .i64 most) ∧ W.cell? ⟨w.heap.size, 2, none⟩ = some (.int .i64 idle)) ∧ W.cell? ⟨b1, o1 + j * 3 + 1, none⟩ = some (.int .u32 yp) ∧ W.cell? ⟨b1, o1 + j * 3 + 2, none⟩ = some (.int .i64 ya)) W) := fun W hW => by
    obtain ⟨-, d1, d2⟩ := ha1 j _ HJ.out
    have hlt' : b1 < wb.heap.size := by have := HSB.out; omega
    exact ⟨(HCC.out W hW).1, (hW.cell (p := ⟨b1, _, none⟩) hlt').trans d1, (hW.cell (p := ⟨b1, _, none⟩) hlt').trans d2⟩
  clear hj hpw ha1 hb1
  have HRT : Hid (∀ W, Calls Try.prog 27 #[.int .u32 (pl : Int)] W fun r w' => r = .returned (.bool false) ∧ w' = W) := fun W => by
    have := right27 pl W
    rwa [decide_eq_false hp] at this
  clear hp
  go_enter Try.func11, Try.ntmps11
  go_upto_region 1 with (fail)
  rw [← HWB.out]
  obtain ⟨⟨p0, p1, p2⟩, -⟩ := HCC.out wb HBR.out
  go_wp2_with fail
  refine HF.out.mono ?_
  rintro r w2 ⟨rfl, hb2⟩
  have HB2 := Lib.hid hb2
  clear hb2 p0 p1 p2
  obtain ⟨⟨p0, p1, p2⟩, d1, -⟩ := HS1.out w2 HB2.out
  obtain ⟨-, hq4⟩ := HCC.out w2 HB2.out
  have z0 := cell_of_row w2 (w.heap.size + 1) 0 _ _ _ hq4
  have z1 := cell_of_row w2 (w.heap.size + 1) 1 _ _ _ hq4
  have z2 := cell_of_row w2 (w.heap.size + 1) 2 _ _ _ hq4
  simp at z0 z1 z2
  have zf : ∀ i, w2.frozen? ⟨w.heap.size + 1, i, none⟩ = false := fun i => frozen_of_row w2 _ i _ _ hq4
  have HT := Lib.hid (three (.slice (some ⟨b1, o1, none⟩) n c) (.int .i64 most) (.int .i64 idle) hq4)
  have HRES : Hid (Below w.heap.size w (((w2.setCell ⟨w.heap.size + 1, 0, none⟩ (.slice (some ⟨b1, o1, none⟩) n c)).setCell ⟨w.heap.size + 1, 1, none⟩ (.int .i64 most)).setCell ⟨w.heap.size + 1, 2, none⟩ (.int .i64 idle))) := (((HBB.out.trans (HB2.out.mono HBB.out.size)).setCell (by show w.heap.size ≤ w.heap.size + 1; omega) _).setCell (by show w.heap.size ≤ w.heap.size + 1; omega) _).setCell (by show w.heap.size ≤ w.heap.size + 1; omega) _
  clear hq4
  go_wp2_with fail
  refine (HRT.out _).mono ?_
  rintro r w9 ⟨rfl, rfl⟩
  go_wp2
  obtain ⟨e0, e1, e2, _⟩ := HT.out
  exact bodyPost_ret (v := .tuple #[rV (some ⟨b1, o1, none⟩) n c most idle, .int .u32 0, .int .i64 14]) (by simp [results, Try.results11, go_sem, e0, e1, e2]) rfl ⟨some ⟨b1, o1, none⟩, n, c, HN.out, rfl, (HR0.out.below HRES.out).mono HRES.out.size, HRES.out, .inl rfl⟩

set_option maxHeartbeats 8000000 in
theorem rlogin_other (A : Option Addr) (n c : Nat) (most idle : Int) (l : List Lk) (x pl : Nat) (now : Int) (j : Nat) (ya yp : Int) (w : World) (hn : n = l.length) (hR : Rs w w.heap.size A l) (hl : n ≤ 100) (hj : l[j]? = some (x, (ya, yp))) (hpw : l.Pairwise Rd) (hp : 1 ≤ pl ∧ pl ≤ 2147483647) (h0 : ¬ yp = 0) :
    Calls Try.prog 11 #[rV A n c most idle, .int .u32 (x : Int), .int .u32 (pl : Int), .int .i64 now] w (Q3 A most idle 0 25 l w) := by
  obtain ⟨wa, hwa⟩ : ∃ wa, wa = w.alloc (.cells (rC A n c most idle) 27) := ⟨_, rfl⟩
  have hsa : wa.heap.size = w.heap.size + 1 := by rw [hwa]; simp
  have hba : Below w.heap.size w wa := by rw [hwa]; exact (Below.refl _ _).alloc (Nat.le_refl _) _
  have hqa : wa.heap[w.heap.size]? = some (.cells (rC A n c most idle) 27 (0, 0)) := by rw [hwa]; exact heap_alloc_new w _
  obtain ⟨wb, hwb⟩ : ∃ wb, wb = wa.alloc (.cells #[.slice none 0 0, .int .i64 0, .int .i64 0] 27) := ⟨_, rfl⟩
  have hsb : wb.heap.size = w.heap.size + 2 := by rw [hwb]; simp [hsa]
  have hbb : Below wa.heap.size wa wb := by rw [hwb]; exact (Below.refl _ _).alloc (Nat.le_refl _) _
  have hqb : wb.heap[w.heap.size + 1]? = some (.cells #[.slice none 0 0, .int .i64 0, .int .i64 0] 27 (0, 0)) := by rw [hwb, ← hsa]; exact heap_alloc_new wa _
  have hqab : wb.heap[w.heap.size]? = some (.cells (rC A n c most idle) 27 (0, 0)) := (hbb.block _ (lt_of_block hqa)).trans hqa
  have HBB : Hid (Below w.heap.size w wb) := hba.trans (hbb.mono hba.size)
  have HSB := Lib.hid hsb
  have HWB : Hid (wb = (w.alloc (.cells (rC A n c most idle) 27)).alloc (.cells #[.slice none 0 0, .int .i64 0, .int .i64 0] 27)) := by simp only [Hid]; rw [hwb, hwa]
  have HCC : Hid (∀ W, Below wb.heap.size wb W → (W.cell? ⟨w.heap.size, 0, none⟩ = some (.slice A n c) ∧ W.cell? ⟨w.heap.size, 1, none⟩ = some (.int .i64 most) ∧ W.cell? ⟨w.heap.size, 2, none⟩ = some (.int .i64 idle)) ∧ W.heap[w.heap.size + 1]? = some (.cells #[.slice none 0 0, .int .i64 0, .int .i64 0] 27 (0, 0))) := fun W hW => by
    have e1 := (hW.block w.heap.size (lt_of_block hqab)).trans hqab
    exact ⟨⟨cell_of_row W _ 0 _ _ _ e1, cell_of_row W _ 1 _ _ _ e1, cell_of_row W _ 2 _ _ _ e1⟩, (hW.block _ (lt_of_block hqb)).trans hqb⟩
  have HR : Hid (Rs wb w.heap.size A l) := hR.below HBB.out
  have HR0 := Lib.hid hR
  have HN := Lib.hid hn
  have HBR : Hid (Below wb.heap.size wb wb) := Below.refl _ _
  clear hwa hsa hba hqa hwb hsb hbb hqb hqab hR hn
  have HUN : Hid (∀ (i : Nat) e, i ≠ j → l[i]? = some e → e.1 ≠ x) := fun i e => uni hpw hj i e
  have HJ := Lib.hid hj
  have hjn : j < n := by rw [HN.out]; exact (List.getElem?_eq_some_iff.1 hj).1
  obtain ⟨b1, o1, rfl, hb1, ha1⟩ := HR.out (by have := HN.out; omega)
  have HF := Lib.hid (rfind_there (some ⟨b1, o1, none⟩) n c most idle l j x (ya, yp) wb HN.out (HR.out.mono HBB.out.size) hl hj (fun i e h => HUN.out i e (by omega)))
  have HBL : Hid (b1 < w.heap.size) := hb1
  have HS1 : Hid (∀ W, Below wb.heap.size wb W → (fun W : World => (W.cell? ⟨w.heap.size, 0, none⟩ = some (.slice (some ⟨b1, o1, none⟩) n c) ∧ W.cell? ⟨w.heap.size, 1, none⟩ = some (.int .i64 most) ∧ W.cell? ⟨w.heap.size, 2, none⟩ = some (.int .i64 idle)) ∧ W.cell? ⟨b1, o1 + j * 3 + 1, none⟩ = some (.int .u32 yp) ∧ W.cell? ⟨b1, o1 + j * 3 + 2, none⟩ = some (.int .i64 ya)) W) := fun W hW => by
    obtain ⟨-, d1, d2⟩ := ha1 j _ HJ.out
    have hlt' : b1 < wb.heap.size := by have := HSB.out; omega
    exact ⟨(HCC.out W hW).1, (hW.cell (p := ⟨b1, _, none⟩) hlt').trans d1, (hW.cell (p := ⟨b1, _, none⟩) hlt').trans d2⟩
  clear hj hpw ha1 hb1
  have HRT : Hid (∀ W, Calls Try.prog 27 #[.int .u32 (pl : Int)] W fun r w' => r = .returned (.bool true) ∧ w' = W) := fun W => by
    have := right27 pl W
    rwa [decide_eq_true hp] at this
  clear hp
  go_enter Try.func11, Try.ntmps11
  go_upto_region 1 with (fail)
  rw [← HWB.out]
  obtain ⟨⟨p0, p1, p2⟩, -⟩ := HCC.out wb HBR.out
  go_wp2_with fail
  refine HF.out.mono ?_
  rintro r w2 ⟨rfl, hb2⟩
  have HB2 := Lib.hid hb2
  clear hb2 p0 p1 p2
  obtain ⟨⟨p0, p1, p2⟩, d1, -⟩ := HS1.out w2 HB2.out
  obtain ⟨-, hq4⟩ := HCC.out w2 HB2.out
  have z0 := cell_of_row w2 (w.heap.size + 1) 0 _ _ _ hq4
  have z1 := cell_of_row w2 (w.heap.size + 1) 1 _ _ _ hq4
  have z2 := cell_of_row w2 (w.heap.size + 1) 2 _ _ _ hq4
  simp at z0 z1 z2
  have zf : ∀ i, w2.frozen? ⟨w.heap.size + 1, i, none⟩ = false := fun i => frozen_of_row w2 _ i _ _ hq4
  have HT := Lib.hid (three (.slice (some ⟨b1, o1, none⟩) n c) (.int .i64 most) (.int .i64 idle) hq4)
  have HRES : Hid (Below w.heap.size w (((w2.setCell ⟨w.heap.size + 1, 0, none⟩ (.slice (some ⟨b1, o1, none⟩) n c)).setCell ⟨w.heap.size + 1, 1, none⟩ (.int .i64 most)).setCell ⟨w.heap.size + 1, 2, none⟩ (.int .i64 idle))) := (((HBB.out.trans (HB2.out.mono HBB.out.size)).setCell (by show w.heap.size ≤ w.heap.size + 1; omega) _).setCell (by show w.heap.size ≤ w.heap.size + 1; omega) _).setCell (by show w.heap.size ≤ w.heap.size + 1; omega) _
  clear hq4
  go_wp2_with fail
  refine (HRT.out _).mono ?_
  rintro r w9 ⟨rfl, rfl⟩
  go_wp2
  obtain ⟨e0, e1, e2, _⟩ := HT.out
  exact bodyPost_ret (v := .tuple #[rV (some ⟨b1, o1, none⟩) n c most idle, .int .u32 0, .int .i64 25]) (by simp [results, Try.results11, go_sem, e0, e1, e2]) rfl ⟨some ⟨b1, o1, none⟩, n, c, HN.out, rfl, (HR0.out.below HRES.out).mono HRES.out.size, HRES.out, .inl rfl⟩
end Go.Proofs.Ytfgabmjnpjmmgaa.T
