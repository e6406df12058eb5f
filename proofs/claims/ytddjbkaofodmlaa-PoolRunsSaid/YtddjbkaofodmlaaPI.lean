/- Pool: the document's Do. -/
import Derived.Test.YtddjbkaofodmlaaPH
namespace Go.Proofs.Ytddjbkaofodmlaa
open Go.RowKit
set_option maxRecDepth 20000
set_option linter.unusedVariables false
set_option linter.unusedSimpArgs false

theorem Rs.setCell {w : World} {A : Option Addr} {l : List In} {B i : Nat} {v : Value} (h : Rs w w.heap.size A l) (hne : ∀ b o, A = some ⟨b, o, none⟩ → b ≠ B) : Rs (w.setCell ⟨B, i, none⟩ v) (w.setCell ⟨B, i, none⟩ v).heap.size A l := fun hl => by
  obtain ⟨b, o, h1, h2, h3⟩ := h hl
  have hb : (w.setCell ⟨B, i, none⟩ v).heap[b]? = w.heap[b]? := Below.heap_setCell _ _ _ _ (hne b o h1)
  exact ⟨b, o, h1, by rw [World.size_setCell]; exact h2, fun i e he => ⟨(World.cell?_of_block (a := ⟨b, _, none⟩) hb).trans (h3 i e he).1, (World.cell?_of_block (a := ⟨b, _, none⟩) hb).trans (h3 i e he).2.1, (World.cell?_of_block (a := ⟨b, _, none⟩) hb).trans (h3 i e he).2.2⟩⟩
def DPost (A0 : Option Addr) (n : Nat) (beat : Int) (q : Int × Int) (l : List In) (w : World) (r : Ending) (w' : World) : Prop := ∃ A c, r = .returned (.tuple #[rV A n c beat, .int .u32 q.1, .int .i64 q.2]) ∧ Rs w' w'.heap.size A l ∧ Below w.heap.size w w' ∧ (A = A0 ∨ ∀ b o, A = some ⟨b, o, none⟩ → w.heap.size ≤ b)
set_option maxHeartbeats 4000000 in
theorem rdo_miss (A : Option Addr) (n c x y : Nat) (beat d now : Int) (l : List In) (w : World) (hR : Rs w w.heap.size A l) (hl : n ≤ 16) (hx : x = 0 ∨ n < x) :
    Calls Try.prog 10 #[rV A n c beat, .int .u8 d, .int .u32 (x : Int), .int .u32 (y : Int), .int .i64 now] w (DPost A n beat (0, 12) l w) := by
  obtain ⟨w0, hw0⟩ : ∃ w0, w0 = w.alloc (.cells (rC A n c beat) 27) := ⟨_, rfl⟩
  have hs0 : w0.heap.size = w.heap.size + 1 := by rw [hw0]; simp
  have hb0 : Below w.heap.size w w0 := by rw [hw0]; exact (Below.refl _ _).alloc (Nat.le_refl _) _
  have hq0 : w0.heap[w.heap.size]? = some (.cells (rC A n c beat) 27 (0, 0)) := by rw [hw0]; exact heap_alloc_new w _
  obtain ⟨w1, hw1⟩ : ∃ w1, w1 = w0.alloc (.cells #[.slice none 0 0, .int .i64 0] 27) := ⟨_, rfl⟩
  have hs1 : w1.heap.size = w.heap.size + 2 := by rw [hw1]; simp [hs0]
  have hb1 : Below w0.heap.size w0 w1 := by rw [hw1]; exact (Below.refl _ _).alloc (Nat.le_refl _) _
  have hq1 : w1.heap[w.heap.size + 1]? = some (.cells #[.slice none 0 0, .int .i64 0] 27 (0, 0)) := by rw [hw1, ← hs0]; exact heap_alloc_new w0 _
  have hq01 : w1.heap[w.heap.size]? = some (.cells (rC A n c beat) 27 (0, 0)) := (hb1.block _ (lt_of_block hq0)).trans hq0
  have HB1 : Hid (Below w.heap.size w w1) := hb0.trans (hb1.mono hb0.size)
  have HS1 := Lib.hid hs1
  have H1 : Hid (w1 = (w.alloc (.cells (rC A n c beat) 27)).alloc (.cells #[.slice none 0 0, .int .i64 0] 27)) := by simp only [Hid]; rw [hw1, hw0]
  have HC : Hid (∀ W, Below w1.heap.size w1 W → (W.cell? ⟨w.heap.size, 0, none⟩ = some (.slice A n c) ∧ W.cell? ⟨w.heap.size, 1, none⟩ = some (.int .i64 beat)) ∧ W.heap[w.heap.size + 1]? = some (.cells #[.slice none 0 0, .int .i64 0] 27 (0, 0))) := fun W hW => by
    have e := (hW.block _ (lt_of_block hq01)).trans hq01
    exact ⟨⟨cell_of_row W _ 0 _ _ _ e, cell_of_row W _ 1 _ _ _ e⟩, (hW.block _ (lt_of_block hq1)).trans hq1⟩
  have HR : Hid (Rs w1 w1.heap.size A l) := (hR.below HB1.out).mono HB1.out.size
  have HR0 := Lib.hid hR
  have HBR : Hid (Below w1.heap.size w1 w1) := Below.refl _ _
  have HG := Lib.hid (rget_miss A n c x beat w1 hl hx)
  clear hw0 hs0 hb0 hq0 hw1 hs1 hb1 hq1 hq01 hR
  clear hx
  go_enter Try.func10, Try.ntmps10
  go_upto_region 1 with (fail)
  rw [← H1.out]
  obtain ⟨⟨p0, p1⟩, -⟩ := HC.out w1 HBR.out
  go_wp2_with fail
  refine HG.out.mono ?_
  rintro r w2 ⟨rfl, hb2⟩
  obtain ⟨w3, hw3⟩ : ∃ w3, w3 = w2.alloc (.cells (iC 0 0 0) 61) := ⟨_, rfl⟩
  have HB3 : Hid (Below w1.heap.size w1 w3) := by rw [hw3]; exact hb2.alloc hb2.size _
  have H3 := Lib.hid hw3
  clear hb2 hw3 p0 p1
  go_upto_region 2 with (fail)
  rw [← H3.out]
  obtain ⟨⟨p0, p1⟩, hq4⟩ := HC.out w3 HB3.out
  have z0 := cell_of_row w3 (w.heap.size + 1) 0 _ _ _ hq4
  have z1 := cell_of_row w3 (w.heap.size + 1) 1 _ _ _ hq4
  simp at z0 z1
  have zf : ∀ i, w3.frozen? ⟨w.heap.size + 1, i, none⟩ = false := fun i => frozen_of_row w3 _ i _ _ hq4
  have HT := Lib.hid (two (.slice A n c) (.int .i64 beat) hq4)
  have HRES : Hid (Below w.heap.size w ((w3.setCell ⟨w.heap.size + 1, 0, none⟩ (.slice A n c)).setCell ⟨w.heap.size + 1, 1, none⟩ (.int .i64 beat))) := ((HB1.out.trans (HB3.out.mono HB1.out.size)).setCell (by show w.heap.size ≤ w.heap.size + 1; omega) _).setCell (by show w.heap.size ≤ w.heap.size + 1; omega) _
  clear hq4
  go_wp2
  obtain ⟨e0, e1⟩ := HT.out
  exact bodyPost_ret (v := .tuple #[rV A n c beat, .int .u32 0, .int .i64 12]) (by simp [results, Try.results10, go_sem, e0, e1]) rfl ⟨A, c, rfl, (HR0.out.below HRES.out).mono HRES.out.size, HRES.out, .inl rfl⟩
set_option maxHeartbeats 4000000 in
theorem rdo0_a (A : Option Addr) (n c j y : Nat) (beat now s m a : Int) (l : List In) (w : World) (hn : n = l.length) (hR : Rs w w.heap.size A l) (hl : n ≤ 16) (hj : l[j]? = some (s, m, a))  :
    Calls Try.prog 10 #[rV A n c beat, .int .u8 0, .int .u32 ((j + 1 : Nat) : Int), .int .u32 (y : Int), .int .i64 now] w (DPost A n beat (m, 0) (l.set j (1, 0, now)) w) := by
  obtain ⟨w0, hw0⟩ : ∃ w0, w0 = w.alloc (.cells (rC A n c beat) 27) := ⟨_, rfl⟩
  have hs0 : w0.heap.size = w.heap.size + 1 := by rw [hw0]; simp
  have hb0 : Below w.heap.size w w0 := by rw [hw0]; exact (Below.refl _ _).alloc (Nat.le_refl _) _
  have hq0 : w0.heap[w.heap.size]? = some (.cells (rC A n c beat) 27 (0, 0)) := by rw [hw0]; exact heap_alloc_new w _
  obtain ⟨w1, hw1⟩ : ∃ w1, w1 = w0.alloc (.cells #[.slice none 0 0, .int .i64 0] 27) := ⟨_, rfl⟩
  have hs1 : w1.heap.size = w.heap.size + 2 := by rw [hw1]; simp [hs0]
  have hb1 : Below w0.heap.size w0 w1 := by rw [hw1]; exact (Below.refl _ _).alloc (Nat.le_refl _) _
  have hq1 : w1.heap[w.heap.size + 1]? = some (.cells #[.slice none 0 0, .int .i64 0] 27 (0, 0)) := by rw [hw1, ← hs0]; exact heap_alloc_new w0 _
  have hq01 : w1.heap[w.heap.size]? = some (.cells (rC A n c beat) 27 (0, 0)) := (hb1.block _ (lt_of_block hq0)).trans hq0
  have HB1 : Hid (Below w.heap.size w w1) := hb0.trans (hb1.mono hb0.size)
  have HS1 := Lib.hid hs1
  have H1 : Hid (w1 = (w.alloc (.cells (rC A n c beat) 27)).alloc (.cells #[.slice none 0 0, .int .i64 0] 27)) := by simp only [Hid]; rw [hw1, hw0]
  have HC : Hid (∀ W, Below w1.heap.size w1 W → (W.cell? ⟨w.heap.size, 0, none⟩ = some (.slice A n c) ∧ W.cell? ⟨w.heap.size, 1, none⟩ = some (.int .i64 beat)) ∧ W.heap[w.heap.size + 1]? = some (.cells #[.slice none 0 0, .int .i64 0] 27 (0, 0))) := fun W hW => by
    have e := (hW.block _ (lt_of_block hq01)).trans hq01
    exact ⟨⟨cell_of_row W _ 0 _ _ _ e, cell_of_row W _ 1 _ _ _ e⟩, (hW.block _ (lt_of_block hq1)).trans hq1⟩
  have HR : Hid (Rs w1 w1.heap.size A l) := (hR.below HB1.out).mono HB1.out.size
  have HR0 := Lib.hid hR
  have HBR : Hid (Below w1.heap.size w1 w1) := Below.refl _ _
  have HG := Lib.hid (rget_there A n c j beat l s m a w1 hn HR.out hl hj)
  have HX : Hid (j < n) := by simp only [Hid]; rw [hn]; exact (List.getElem?_eq_some_iff.1 hj).1
  have HN := Lib.hid hn
  clear hw0 hs0 hb0 hq0 hw1 hs1 hb1 hq1 hq01 hR
  clear hj hn
  go_enter Try.func10, Try.ntmps10
  go_upto_region 1 with (fail)
  rw [← H1.out]
  obtain ⟨⟨p0, p1⟩, -⟩ := HC.out w1 HBR.out
  go_wp2_with fail
  refine HG.out.mono ?_
  rintro r w2 ⟨rfl, hb2⟩
  obtain ⟨w3, hw3⟩ : ∃ w3, w3 = w2.alloc (.cells (iC s m a) 61) := ⟨_, rfl⟩
  have HB3 : Hid (Below w1.heap.size w1 w3) := by rw [hw3]; exact hb2.alloc hb2.size _
  have hq3 : w3.heap[w2.heap.size]? = some (.cells (iC s m a) 61 (0, 0)) := by rw [hw3]; exact heap_alloc_new w2 _
  have HL2 : Hid (w1.heap.size ≤ w2.heap.size) := hb2.size
  have H3 := Lib.hid hw3
  have g0 := cell_of_row w3 w2.heap.size 0 _ _ _ hq3
  have g1 := cell_of_row w3 w2.heap.size 1 _ _ _ hq3
  have g2 := cell_of_row w3 w2.heap.size 2 _ _ _ hq3
  simp at g0 g1 g2
  clear hb2 hw3 p0 p1
  go_upto_region 2 with (fail)
  rw [← H3.out]
  clear hq3
  have HWT := Lib.hid (rwith_any A n c j beat 1 0 now l w3 HN.out ((HR.out.below HB3.out).mono HB3.out.size) hl HX.out)
  obtain ⟨⟨p0, p1⟩, -⟩ := HC.out w3 HB3.out
  go_wp2_with fail
  refine HWT.out.mono ?_
  rintro r w4 ⟨A4, c4, rfl, hR4, hb4, hge4⟩
  have HB4 : Hid (Below w1.heap.size w1 w4) := HB3.out.trans (hb4.mono HB3.out.size)
  have HR4 := Lib.hid hR4
  have HGE : Hid (∀ b o, A4 = some ⟨b, o, none⟩ → b ≠ w.heap.size + 1) := fun b o e => by have := hge4 b o e; have := HB3.out.size; have := HS1.out; omega
  have HGL : Hid (∀ b o, A4 = some ⟨b, o, none⟩ → w.heap.size ≤ b) := fun b o e => by have := hge4 b o e; have := HB3.out.size; have := HS1.out; omega
  clear hR4 hb4 hge4 p0 p1
  obtain ⟨-, hq4⟩ := HC.out w4 HB4.out
  have z0 := cell_of_row w4 (w.heap.size + 1) 0 _ _ _ hq4
  have z1 := cell_of_row w4 (w.heap.size + 1) 1 _ _ _ hq4
  simp at z0 z1
  have zf : ∀ i, w4.frozen? ⟨w.heap.size + 1, i, none⟩ = false := fun i => frozen_of_row w4 _ i _ _ hq4
  have HT := Lib.hid (two (.slice A4 n c4) (.int .i64 beat) hq4)
  have HRES : Hid (Rs ((w4.setCell ⟨w.heap.size + 1, 0, none⟩ (.slice A4 n c4)).setCell ⟨w.heap.size + 1, 1, none⟩ (.int .i64 beat)) ((w4.setCell ⟨w.heap.size + 1, 0, none⟩ (.slice A4 n c4)).setCell ⟨w.heap.size + 1, 1, none⟩ (.int .i64 beat)).heap.size A4 (l.set j (1, 0, now)) ∧ Below w.heap.size w ((w4.setCell ⟨w.heap.size + 1, 0, none⟩ (.slice A4 n c4)).setCell ⟨w.heap.size + 1, 1, none⟩ (.int .i64 beat))) :=
    ⟨(HR4.out.setCell HGE.out).setCell HGE.out, ((HB1.out.trans (HB4.out.mono HB1.out.size)).setCell (by show w.heap.size ≤ w.heap.size + 1; omega) _).setCell (by show w.heap.size ≤ w.heap.size + 1; omega) _⟩
  clear hq4
  go_wp2
  obtain ⟨e0, e1⟩ := HT.out
  exact bodyPost_ret (v := .tuple #[rV A4 n c4 beat, .int .u32 m, .int .i64 0]) (by simp [results, Try.results10, go_sem, e0, e1]) rfl ⟨A4, c4, rfl, HRES.out.1, HRES.out.2, .inr HGL.out⟩
set_option maxHeartbeats 4000000 in
theorem rdo1_e (A : Option Addr) (n c j y : Nat) (beat now s m a : Int) (l : List In) (w : World) (hn : n = l.length) (hR : Rs w w.heap.size A l) (hl : n ≤ 16) (hj : l[j]? = some (s, m, a)) (hs : s = 0) :
    Calls Try.prog 10 #[rV A n c beat, .int .u8 1, .int .u32 ((j + 1 : Nat) : Int), .int .u32 (y : Int), .int .i64 now] w (DPost A n beat (0, 24) l w) := by
  subst hs
  obtain ⟨w0, hw0⟩ : ∃ w0, w0 = w.alloc (.cells (rC A n c beat) 27) := ⟨_, rfl⟩
  have hs0 : w0.heap.size = w.heap.size + 1 := by rw [hw0]; simp
  have hb0 : Below w.heap.size w w0 := by rw [hw0]; exact (Below.refl _ _).alloc (Nat.le_refl _) _
  have hq0 : w0.heap[w.heap.size]? = some (.cells (rC A n c beat) 27 (0, 0)) := by rw [hw0]; exact heap_alloc_new w _
  obtain ⟨w1, hw1⟩ : ∃ w1, w1 = w0.alloc (.cells #[.slice none 0 0, .int .i64 0] 27) := ⟨_, rfl⟩
  have hs1 : w1.heap.size = w.heap.size + 2 := by rw [hw1]; simp [hs0]
  have hb1 : Below w0.heap.size w0 w1 := by rw [hw1]; exact (Below.refl _ _).alloc (Nat.le_refl _) _
  have hq1 : w1.heap[w.heap.size + 1]? = some (.cells #[.slice none 0 0, .int .i64 0] 27 (0, 0)) := by rw [hw1, ← hs0]; exact heap_alloc_new w0 _
  have hq01 : w1.heap[w.heap.size]? = some (.cells (rC A n c beat) 27 (0, 0)) := (hb1.block _ (lt_of_block hq0)).trans hq0
  have HB1 : Hid (Below w.heap.size w w1) := hb0.trans (hb1.mono hb0.size)
  have HS1 := Lib.hid hs1
  have H1 : Hid (w1 = (w.alloc (.cells (rC A n c beat) 27)).alloc (.cells #[.slice none 0 0, .int .i64 0] 27)) := by simp only [Hid]; rw [hw1, hw0]
  have HC : Hid (∀ W, Below w1.heap.size w1 W → (W.cell? ⟨w.heap.size, 0, none⟩ = some (.slice A n c) ∧ W.cell? ⟨w.heap.size, 1, none⟩ = some (.int .i64 beat)) ∧ W.heap[w.heap.size + 1]? = some (.cells #[.slice none 0 0, .int .i64 0] 27 (0, 0))) := fun W hW => by
    have e := (hW.block _ (lt_of_block hq01)).trans hq01
    exact ⟨⟨cell_of_row W _ 0 _ _ _ e, cell_of_row W _ 1 _ _ _ e⟩, (hW.block _ (lt_of_block hq1)).trans hq1⟩
  have HR : Hid (Rs w1 w1.heap.size A l) := (hR.below HB1.out).mono HB1.out.size
  have HR0 := Lib.hid hR
  have HBR : Hid (Below w1.heap.size w1 w1) := Below.refl _ _
  have HG := Lib.hid (rget_there A n c j beat l 0 m a w1 hn HR.out hl hj)
  have HX : Hid (j < n) := by simp only [Hid]; rw [hn]; exact (List.getElem?_eq_some_iff.1 hj).1
  have HN := Lib.hid hn
  clear hw0 hs0 hb0 hq0 hw1 hs1 hb1 hq1 hq01 hR
  clear hj hn
  go_enter Try.func10, Try.ntmps10
  go_upto_region 1 with (fail)
  rw [← H1.out]
  obtain ⟨⟨p0, p1⟩, -⟩ := HC.out w1 HBR.out
  go_wp2_with fail
  refine HG.out.mono ?_
  rintro r w2 ⟨rfl, hb2⟩
  obtain ⟨w3, hw3⟩ : ∃ w3, w3 = w2.alloc (.cells (iC 0 m a) 61) := ⟨_, rfl⟩
  have HB3 : Hid (Below w1.heap.size w1 w3) := by rw [hw3]; exact hb2.alloc hb2.size _
  have hq3 : w3.heap[w2.heap.size]? = some (.cells (iC 0 m a) 61 (0, 0)) := by rw [hw3]; exact heap_alloc_new w2 _
  have HL2 : Hid (w1.heap.size ≤ w2.heap.size) := hb2.size
  have H3 := Lib.hid hw3
  have g0 := cell_of_row w3 w2.heap.size 0 _ _ _ hq3
  have g1 := cell_of_row w3 w2.heap.size 1 _ _ _ hq3
  have g2 := cell_of_row w3 w2.heap.size 2 _ _ _ hq3
  simp at g0 g1 g2
  clear hb2 hw3 p0 p1
  go_upto_region 2 with (fail)
  rw [← H3.out]
  clear hq3
  obtain ⟨⟨p0, p1⟩, hq4⟩ := HC.out w3 HB3.out
  have z0 := cell_of_row w3 (w.heap.size + 1) 0 _ _ _ hq4
  have z1 := cell_of_row w3 (w.heap.size + 1) 1 _ _ _ hq4
  simp at z0 z1
  have zf : ∀ i, w3.frozen? ⟨w.heap.size + 1, i, none⟩ = false := fun i => frozen_of_row w3 _ i _ _ hq4
  have HT := Lib.hid (two (.slice A n c) (.int .i64 beat) hq4)
  have HRES : Hid (Below w.heap.size w ((w3.setCell ⟨w.heap.size + 1, 0, none⟩ (.slice A n c)).setCell ⟨w.heap.size + 1, 1, none⟩ (.int .i64 beat))) := ((HB1.out.trans (HB3.out.mono HB1.out.size)).setCell (by show w.heap.size ≤ w.heap.size + 1; omega) _).setCell (by show w.heap.size ≤ w.heap.size + 1; omega) _
  clear hq4
  go_wp2
  obtain ⟨e0, e1⟩ := HT.out
  exact bodyPost_ret (v := .tuple #[rV A n c beat, .int .u32 0, .int .i64 24]) (by simp [results, Try.results10, go_sem, e0, e1]) rfl ⟨A, c, rfl, (HR0.out.below HRES.out).mono HRES.out.size, HRES.out, .inl rfl⟩
set_option maxHeartbeats 4000000 in
theorem rdo1_t (A : Option Addr) (n c j y : Nat) (beat now s m a : Int) (l : List In) (w : World) (hn : n = l.length) (hR : Rs w w.heap.size A l) (hl : n ≤ 16) (hj : l[j]? = some (s, m, a)) (hs : s = 3) :
    Calls Try.prog 10 #[rV A n c beat, .int .u8 1, .int .u32 ((j + 1 : Nat) : Int), .int .u32 (y : Int), .int .i64 now] w (DPost A n beat (0, 0) (l.set j (3, m, a)) w) := by
  subst hs
  obtain ⟨w0, hw0⟩ : ∃ w0, w0 = w.alloc (.cells (rC A n c beat) 27) := ⟨_, rfl⟩
  have hs0 : w0.heap.size = w.heap.size + 1 := by rw [hw0]; simp
  have hb0 : Below w.heap.size w w0 := by rw [hw0]; exact (Below.refl _ _).alloc (Nat.le_refl _) _
  have hq0 : w0.heap[w.heap.size]? = some (.cells (rC A n c beat) 27 (0, 0)) := by rw [hw0]; exact heap_alloc_new w _
  obtain ⟨w1, hw1⟩ : ∃ w1, w1 = w0.alloc (.cells #[.slice none 0 0, .int .i64 0] 27) := ⟨_, rfl⟩
  have hs1 : w1.heap.size = w.heap.size + 2 := by rw [hw1]; simp [hs0]
  have hb1 : Below w0.heap.size w0 w1 := by rw [hw1]; exact (Below.refl _ _).alloc (Nat.le_refl _) _
  have hq1 : w1.heap[w.heap.size + 1]? = some (.cells #[.slice none 0 0, .int .i64 0] 27 (0, 0)) := by rw [hw1, ← hs0]; exact heap_alloc_new w0 _
  have hq01 : w1.heap[w.heap.size]? = some (.cells (rC A n c beat) 27 (0, 0)) := (hb1.block _ (lt_of_block hq0)).trans hq0
  have HB1 : Hid (Below w.heap.size w w1) := hb0.trans (hb1.mono hb0.size)
  have HS1 := Lib.hid hs1
  have H1 : Hid (w1 = (w.alloc (.cells (rC A n c beat) 27)).alloc (.cells #[.slice none 0 0, .int .i64 0] 27)) := by simp only [Hid]; rw [hw1, hw0]
  have HC : Hid (∀ W, Below w1.heap.size w1 W → (W.cell? ⟨w.heap.size, 0, none⟩ = some (.slice A n c) ∧ W.cell? ⟨w.heap.size, 1, none⟩ = some (.int .i64 beat)) ∧ W.heap[w.heap.size + 1]? = some (.cells #[.slice none 0 0, .int .i64 0] 27 (0, 0))) := fun W hW => by
    have e := (hW.block _ (lt_of_block hq01)).trans hq01
    exact ⟨⟨cell_of_row W _ 0 _ _ _ e, cell_of_row W _ 1 _ _ _ e⟩, (hW.block _ (lt_of_block hq1)).trans hq1⟩
  have HR : Hid (Rs w1 w1.heap.size A l) := (hR.below HB1.out).mono HB1.out.size
  have HR0 := Lib.hid hR
  have HBR : Hid (Below w1.heap.size w1 w1) := Below.refl _ _
  have HG := Lib.hid (rget_there A n c j beat l 3 m a w1 hn HR.out hl hj)
  have HX : Hid (j < n) := by simp only [Hid]; rw [hn]; exact (List.getElem?_eq_some_iff.1 hj).1
  have HN := Lib.hid hn
  clear hw0 hs0 hb0 hq0 hw1 hs1 hb1 hq1 hq01 hR
  clear hj hn
  go_enter Try.func10, Try.ntmps10
  go_upto_region 1 with (fail)
  rw [← H1.out]
  obtain ⟨⟨p0, p1⟩, -⟩ := HC.out w1 HBR.out
  go_wp2_with fail
  refine HG.out.mono ?_
  rintro r w2 ⟨rfl, hb2⟩
  obtain ⟨w3, hw3⟩ : ∃ w3, w3 = w2.alloc (.cells (iC 3 m a) 61) := ⟨_, rfl⟩
  have HB3 : Hid (Below w1.heap.size w1 w3) := by rw [hw3]; exact hb2.alloc hb2.size _
  have hq3 : w3.heap[w2.heap.size]? = some (.cells (iC 3 m a) 61 (0, 0)) := by rw [hw3]; exact heap_alloc_new w2 _
  have HL2 : Hid (w1.heap.size ≤ w2.heap.size) := hb2.size
  have H3 := Lib.hid hw3
  have g0 := cell_of_row w3 w2.heap.size 0 _ _ _ hq3
  have g1 := cell_of_row w3 w2.heap.size 1 _ _ _ hq3
  have g2 := cell_of_row w3 w2.heap.size 2 _ _ _ hq3
  simp at g0 g1 g2
  clear hb2 hw3 p0 p1
  go_upto_region 2 with (fail)
  rw [← H3.out]
  clear hq3
  have HWT := Lib.hid (rwith_any A n c j beat 3 m a l w3 HN.out ((HR.out.below HB3.out).mono HB3.out.size) hl HX.out)
  obtain ⟨⟨p0, p1⟩, -⟩ := HC.out w3 HB3.out
  go_wp2_with fail
  refine HWT.out.mono ?_
  rintro r w4 ⟨A4, c4, rfl, hR4, hb4, hge4⟩
  have HB4 : Hid (Below w1.heap.size w1 w4) := HB3.out.trans (hb4.mono HB3.out.size)
  have HR4 := Lib.hid hR4
  have HGE : Hid (∀ b o, A4 = some ⟨b, o, none⟩ → b ≠ w.heap.size + 1) := fun b o e => by have := hge4 b o e; have := HB3.out.size; have := HS1.out; omega
  have HGL : Hid (∀ b o, A4 = some ⟨b, o, none⟩ → w.heap.size ≤ b) := fun b o e => by have := hge4 b o e; have := HB3.out.size; have := HS1.out; omega
  clear hR4 hb4 hge4 p0 p1
  obtain ⟨-, hq4⟩ := HC.out w4 HB4.out
  have z0 := cell_of_row w4 (w.heap.size + 1) 0 _ _ _ hq4
  have z1 := cell_of_row w4 (w.heap.size + 1) 1 _ _ _ hq4
  simp at z0 z1
  have zf : ∀ i, w4.frozen? ⟨w.heap.size + 1, i, none⟩ = false := fun i => frozen_of_row w4 _ i _ _ hq4
  have HT := Lib.hid (two (.slice A4 n c4) (.int .i64 beat) hq4)
  have HRES : Hid (Rs ((w4.setCell ⟨w.heap.size + 1, 0, none⟩ (.slice A4 n c4)).setCell ⟨w.heap.size + 1, 1, none⟩ (.int .i64 beat)) ((w4.setCell ⟨w.heap.size + 1, 0, none⟩ (.slice A4 n c4)).setCell ⟨w.heap.size + 1, 1, none⟩ (.int .i64 beat)).heap.size A4 (l.set j (3, m, a)) ∧ Below w.heap.size w ((w4.setCell ⟨w.heap.size + 1, 0, none⟩ (.slice A4 n c4)).setCell ⟨w.heap.size + 1, 1, none⟩ (.int .i64 beat))) :=
    ⟨(HR4.out.setCell HGE.out).setCell HGE.out, ((HB1.out.trans (HB4.out.mono HB1.out.size)).setCell (by show w.heap.size ≤ w.heap.size + 1; omega) _).setCell (by show w.heap.size ≤ w.heap.size + 1; omega) _⟩
  clear hq4
  go_wp2
  obtain ⟨e0, e1⟩ := HT.out
  exact bodyPost_ret (v := .tuple #[rV A4 n c4 beat, .int .u32 0, .int .i64 0]) (by simp [results, Try.results10, go_sem, e0, e1]) rfl ⟨A4, c4, rfl, HRES.out.1, HRES.out.2, .inr HGL.out⟩
set_option maxHeartbeats 4000000 in
theorem rdo1_o (A : Option Addr) (n c j y : Nat) (beat now s m a : Int) (l : List In) (w : World) (hn : n = l.length) (hR : Rs w w.heap.size A l) (hl : n ≤ 16) (hj : l[j]? = some (s, m, a)) (hs0 : ¬ s = 0) (hs3 : ¬ s = 3) :
    Calls Try.prog 10 #[rV A n c beat, .int .u8 1, .int .u32 ((j + 1 : Nat) : Int), .int .u32 (y : Int), .int .i64 now] w (DPost A n beat (0, 0) (l.set j (s, m, now)) w) := by
  obtain ⟨w0, hw0⟩ : ∃ w0, w0 = w.alloc (.cells (rC A n c beat) 27) := ⟨_, rfl⟩
  have hs0 : w0.heap.size = w.heap.size + 1 := by rw [hw0]; simp
  have hb0 : Below w.heap.size w w0 := by rw [hw0]; exact (Below.refl _ _).alloc (Nat.le_refl _) _
  have hq0 : w0.heap[w.heap.size]? = some (.cells (rC A n c beat) 27 (0, 0)) := by rw [hw0]; exact heap_alloc_new w _
  obtain ⟨w1, hw1⟩ : ∃ w1, w1 = w0.alloc (.cells #[.slice none 0 0, .int .i64 0] 27) := ⟨_, rfl⟩
  have hs1 : w1.heap.size = w.heap.size + 2 := by rw [hw1]; simp [hs0]
  have hb1 : Below w0.heap.size w0 w1 := by rw [hw1]; exact (Below.refl _ _).alloc (Nat.le_refl _) _
  have hq1 : w1.heap[w.heap.size + 1]? = some (.cells #[.slice none 0 0, .int .i64 0] 27 (0, 0)) := by rw [hw1, ← hs0]; exact heap_alloc_new w0 _
  have hq01 : w1.heap[w.heap.size]? = some (.cells (rC A n c beat) 27 (0, 0)) := (hb1.block _ (lt_of_block hq0)).trans hq0
  have HB1 : Hid (Below w.heap.size w w1) := hb0.trans (hb1.mono hb0.size)
  have HS1 := Lib.hid hs1
  have H1 : Hid (w1 = (w.alloc (.cells (rC A n c beat) 27)).alloc (.cells #[.slice none 0 0, .int .i64 0] 27)) := by simp only [Hid]; rw [hw1, hw0]
  have HC : Hid (∀ W, Below w1.heap.size w1 W → (W.cell? ⟨w.heap.size, 0, none⟩ = some (.slice A n c) ∧ W.cell? ⟨w.heap.size, 1, none⟩ = some (.int .i64 beat)) ∧ W.heap[w.heap.size + 1]? = some (.cells #[.slice none 0 0, .int .i64 0] 27 (0, 0))) := fun W hW => by
    have e := (hW.block _ (lt_of_block hq01)).trans hq01
    exact ⟨⟨cell_of_row W _ 0 _ _ _ e, cell_of_row W _ 1 _ _ _ e⟩, (hW.block _ (lt_of_block hq1)).trans hq1⟩
  have HR : Hid (Rs w1 w1.heap.size A l) := (hR.below HB1.out).mono HB1.out.size
  have HR0 := Lib.hid hR
  have HBR : Hid (Below w1.heap.size w1 w1) := Below.refl _ _
  have HG := Lib.hid (rget_there A n c j beat l s m a w1 hn HR.out hl hj)
  have HX : Hid (j < n) := by simp only [Hid]; rw [hn]; exact (List.getElem?_eq_some_iff.1 hj).1
  have HN := Lib.hid hn
  clear hw0 hs0 hb0 hq0 hw1 hs1 hb1 hq1 hq01 hR
  clear hj hn
  go_enter Try.func10, Try.ntmps10
  go_upto_region 1 with (fail)
  rw [← H1.out]
  obtain ⟨⟨p0, p1⟩, -⟩ := HC.out w1 HBR.out
  go_wp2_with fail
  refine HG.out.mono ?_
  rintro r w2 ⟨rfl, hb2⟩
  obtain ⟨w3, hw3⟩ : ∃ w3, w3 = w2.alloc (.cells (iC s m a) 61) := ⟨_, rfl⟩
  have HB3 : Hid (Below w1.heap.size w1 w3) := by rw [hw3]; exact hb2.alloc hb2.size _
  have hq3 : w3.heap[w2.heap.size]? = some (.cells (iC s m a) 61 (0, 0)) := by rw [hw3]; exact heap_alloc_new w2 _
  have HL2 : Hid (w1.heap.size ≤ w2.heap.size) := hb2.size
  have H3 := Lib.hid hw3
  have g0 := cell_of_row w3 w2.heap.size 0 _ _ _ hq3
  have g1 := cell_of_row w3 w2.heap.size 1 _ _ _ hq3
  have g2 := cell_of_row w3 w2.heap.size 2 _ _ _ hq3
  simp at g0 g1 g2
  clear hb2 hw3 p0 p1
  go_upto_region 2 with (fail)
  rw [← H3.out]
  obtain ⟨w3b, hw3b⟩ : ∃ w3b, w3b = w3.setCell ⟨w2.heap.size, 2, none⟩ (.int .i64 now) := ⟨_, rfl⟩
  have hq3b : w3b.heap[w2.heap.size]? = some (.cells (iC s m now) 61 (0, 0)) := by rw [hw3b, heap_setCell_same w3 w2.heap.size 2 _ 61 _ hq3]; rfl
  have HB3b : Hid (Below w1.heap.size w1 w3b) := by rw [hw3b]; exact HB3.out.setCell HL2.out _
  have f2 := frozen_of_row w3 w2.heap.size 2 _ _ hq3
  have k0 := cell_of_row w3b w2.heap.size 0 _ _ _ hq3b
  have k1 := cell_of_row w3b w2.heap.size 1 _ _ _ hq3b
  have k2 := cell_of_row w3b w2.heap.size 2 _ _ _ hq3b
  simp at k0 k1 k2
  have H3b := Lib.hid hw3b
  clear hw3b hq3b
  go_upto_region 13 with (fail)
  rw [← H3b.out]
  clear g0 g1 g2 f2
  clear hq3
  have HWT := Lib.hid (rwith_any A n c j beat s m now l w3b HN.out ((HR.out.below HB3b.out).mono HB3b.out.size) hl HX.out)
  obtain ⟨⟨p0, p1⟩, -⟩ := HC.out w3b HB3b.out
  go_wp2_with fail
  refine HWT.out.mono ?_
  rintro r w4 ⟨A4, c4, rfl, hR4, hb4, hge4⟩
  have HB4 : Hid (Below w1.heap.size w1 w4) := HB3b.out.trans (hb4.mono HB3b.out.size)
  have HR4 := Lib.hid hR4
  have HGE : Hid (∀ b o, A4 = some ⟨b, o, none⟩ → b ≠ w.heap.size + 1) := fun b o e => by have := hge4 b o e; have := HB3b.out.size; have := HS1.out; omega
  have HGL : Hid (∀ b o, A4 = some ⟨b, o, none⟩ → w.heap.size ≤ b) := fun b o e => by have := hge4 b o e; have := HB3b.out.size; have := HS1.out; omega
  clear hR4 hb4 hge4 p0 p1
  obtain ⟨-, hq4⟩ := HC.out w4 HB4.out
  have z0 := cell_of_row w4 (w.heap.size + 1) 0 _ _ _ hq4
  have z1 := cell_of_row w4 (w.heap.size + 1) 1 _ _ _ hq4
  simp at z0 z1
  have zf : ∀ i, w4.frozen? ⟨w.heap.size + 1, i, none⟩ = false := fun i => frozen_of_row w4 _ i _ _ hq4
  have HT := Lib.hid (two (.slice A4 n c4) (.int .i64 beat) hq4)
  have HRES : Hid (Rs ((w4.setCell ⟨w.heap.size + 1, 0, none⟩ (.slice A4 n c4)).setCell ⟨w.heap.size + 1, 1, none⟩ (.int .i64 beat)) ((w4.setCell ⟨w.heap.size + 1, 0, none⟩ (.slice A4 n c4)).setCell ⟨w.heap.size + 1, 1, none⟩ (.int .i64 beat)).heap.size A4 (l.set j (s, m, now)) ∧ Below w.heap.size w ((w4.setCell ⟨w.heap.size + 1, 0, none⟩ (.slice A4 n c4)).setCell ⟨w.heap.size + 1, 1, none⟩ (.int .i64 beat))) :=
    ⟨(HR4.out.setCell HGE.out).setCell HGE.out, ((HB1.out.trans (HB4.out.mono HB1.out.size)).setCell (by show w.heap.size ≤ w.heap.size + 1; omega) _).setCell (by show w.heap.size ≤ w.heap.size + 1; omega) _⟩
  clear hq4
  go_wp2
  obtain ⟨e0, e1⟩ := HT.out
  exact bodyPost_ret (v := .tuple #[rV A4 n c4 beat, .int .u32 0, .int .i64 0]) (by simp [results, Try.results10, go_sem, e0, e1]) rfl ⟨A4, c4, rfl, HRES.out.1, HRES.out.2, .inr HGL.out⟩
set_option maxHeartbeats 4000000 in
theorem rdo2_e (A : Option Addr) (n c j y : Nat) (beat now s m a : Int) (l : List In) (w : World) (hn : n = l.length) (hR : Rs w w.heap.size A l) (hl : n ≤ 16) (hj : l[j]? = some (s, m, a)) (hs : ¬ s = 1) :
    Calls Try.prog 10 #[rV A n c beat, .int .u8 2, .int .u32 ((j + 1 : Nat) : Int), .int .u32 (y : Int), .int .i64 now] w (DPost A n beat (0, 24) l w) := by
  obtain ⟨w0, hw0⟩ : ∃ w0, w0 = w.alloc (.cells (rC A n c beat) 27) := ⟨_, rfl⟩
  have hs0 : w0.heap.size = w.heap.size + 1 := by rw [hw0]; simp
  have hb0 : Below w.heap.size w w0 := by rw [hw0]; exact (Below.refl _ _).alloc (Nat.le_refl _) _
  have hq0 : w0.heap[w.heap.size]? = some (.cells (rC A n c beat) 27 (0, 0)) := by rw [hw0]; exact heap_alloc_new w _
  obtain ⟨w1, hw1⟩ : ∃ w1, w1 = w0.alloc (.cells #[.slice none 0 0, .int .i64 0] 27) := ⟨_, rfl⟩
  have hs1 : w1.heap.size = w.heap.size + 2 := by rw [hw1]; simp [hs0]
  have hb1 : Below w0.heap.size w0 w1 := by rw [hw1]; exact (Below.refl _ _).alloc (Nat.le_refl _) _
  have hq1 : w1.heap[w.heap.size + 1]? = some (.cells #[.slice none 0 0, .int .i64 0] 27 (0, 0)) := by rw [hw1, ← hs0]; exact heap_alloc_new w0 _
  have hq01 : w1.heap[w.heap.size]? = some (.cells (rC A n c beat) 27 (0, 0)) := (hb1.block _ (lt_of_block hq0)).trans hq0
  have HB1 : Hid (Below w.heap.size w w1) := hb0.trans (hb1.mono hb0.size)
  have HS1 := Lib.hid hs1
  have H1 : Hid (w1 = (w.alloc (.cells (rC A n c beat) 27)).alloc (.cells #[.slice none 0 0, .int .i64 0] 27)) := by simp only [Hid]; rw [hw1, hw0]
  have HC : Hid (∀ W, Below w1.heap.size w1 W → (W.cell? ⟨w.heap.size, 0, none⟩ = some (.slice A n c) ∧ W.cell? ⟨w.heap.size, 1, none⟩ = some (.int .i64 beat)) ∧ W.heap[w.heap.size + 1]? = some (.cells #[.slice none 0 0, .int .i64 0] 27 (0, 0))) := fun W hW => by
    have e := (hW.block _ (lt_of_block hq01)).trans hq01
    exact ⟨⟨cell_of_row W _ 0 _ _ _ e, cell_of_row W _ 1 _ _ _ e⟩, (hW.block _ (lt_of_block hq1)).trans hq1⟩
  have HR : Hid (Rs w1 w1.heap.size A l) := (hR.below HB1.out).mono HB1.out.size
  have HR0 := Lib.hid hR
  have HBR : Hid (Below w1.heap.size w1 w1) := Below.refl _ _
  have HG := Lib.hid (rget_there A n c j beat l s m a w1 hn HR.out hl hj)
  have HX : Hid (j < n) := by simp only [Hid]; rw [hn]; exact (List.getElem?_eq_some_iff.1 hj).1
  have HN := Lib.hid hn
  clear hw0 hs0 hb0 hq0 hw1 hs1 hb1 hq1 hq01 hR
  clear hj hn
  go_enter Try.func10, Try.ntmps10
  go_upto_region 1 with (fail)
  rw [← H1.out]
  obtain ⟨⟨p0, p1⟩, -⟩ := HC.out w1 HBR.out
  go_wp2_with fail
  refine HG.out.mono ?_
  rintro r w2 ⟨rfl, hb2⟩
  obtain ⟨w3, hw3⟩ : ∃ w3, w3 = w2.alloc (.cells (iC s m a) 61) := ⟨_, rfl⟩
  have HB3 : Hid (Below w1.heap.size w1 w3) := by rw [hw3]; exact hb2.alloc hb2.size _
  have hq3 : w3.heap[w2.heap.size]? = some (.cells (iC s m a) 61 (0, 0)) := by rw [hw3]; exact heap_alloc_new w2 _
  have HL2 : Hid (w1.heap.size ≤ w2.heap.size) := hb2.size
  have H3 := Lib.hid hw3
  have g0 := cell_of_row w3 w2.heap.size 0 _ _ _ hq3
  have g1 := cell_of_row w3 w2.heap.size 1 _ _ _ hq3
  have g2 := cell_of_row w3 w2.heap.size 2 _ _ _ hq3
  simp at g0 g1 g2
  clear hb2 hw3 p0 p1
  go_upto_region 2 with (fail)
  rw [← H3.out]
  clear hq3
  obtain ⟨⟨p0, p1⟩, hq4⟩ := HC.out w3 HB3.out
  have z0 := cell_of_row w3 (w.heap.size + 1) 0 _ _ _ hq4
  have z1 := cell_of_row w3 (w.heap.size + 1) 1 _ _ _ hq4
  simp at z0 z1
  have zf : ∀ i, w3.frozen? ⟨w.heap.size + 1, i, none⟩ = false := fun i => frozen_of_row w3 _ i _ _ hq4
  have HT := Lib.hid (two (.slice A n c) (.int .i64 beat) hq4)
  have HRES : Hid (Below w.heap.size w ((w3.setCell ⟨w.heap.size + 1, 0, none⟩ (.slice A n c)).setCell ⟨w.heap.size + 1, 1, none⟩ (.int .i64 beat))) := ((HB1.out.trans (HB3.out.mono HB1.out.size)).setCell (by show w.heap.size ≤ w.heap.size + 1; omega) _).setCell (by show w.heap.size ≤ w.heap.size + 1; omega) _
  clear hq4
  go_wp2
  obtain ⟨e0, e1⟩ := HT.out
  exact bodyPost_ret (v := .tuple #[rV A n c beat, .int .u32 0, .int .i64 24]) (by simp [results, Try.results10, go_sem, e0, e1]) rfl ⟨A, c, rfl, (HR0.out.below HRES.out).mono HRES.out.size, HRES.out, .inl rfl⟩
set_option maxHeartbeats 4000000 in
theorem rdo2_i (A : Option Addr) (n c j y : Nat) (beat now s m a : Int) (l : List In) (w : World) (hn : n = l.length) (hR : Rs w w.heap.size A l) (hl : n ≤ 16) (hj : l[j]? = some (s, m, a)) (hs : s = 1) (hy : ¬ (1 ≤ y ∧ y ≤ 2147483647)) :
    Calls Try.prog 10 #[rV A n c beat, .int .u8 2, .int .u32 ((j + 1 : Nat) : Int), .int .u32 (y : Int), .int .i64 now] w (DPost A n beat (0, 14) l w) := by
  subst hs
  obtain ⟨w0, hw0⟩ : ∃ w0, w0 = w.alloc (.cells (rC A n c beat) 27) := ⟨_, rfl⟩
  have hs0 : w0.heap.size = w.heap.size + 1 := by rw [hw0]; simp
  have hb0 : Below w.heap.size w w0 := by rw [hw0]; exact (Below.refl _ _).alloc (Nat.le_refl _) _
  have hq0 : w0.heap[w.heap.size]? = some (.cells (rC A n c beat) 27 (0, 0)) := by rw [hw0]; exact heap_alloc_new w _
  obtain ⟨w1, hw1⟩ : ∃ w1, w1 = w0.alloc (.cells #[.slice none 0 0, .int .i64 0] 27) := ⟨_, rfl⟩
  have hs1 : w1.heap.size = w.heap.size + 2 := by rw [hw1]; simp [hs0]
  have hb1 : Below w0.heap.size w0 w1 := by rw [hw1]; exact (Below.refl _ _).alloc (Nat.le_refl _) _
  have hq1 : w1.heap[w.heap.size + 1]? = some (.cells #[.slice none 0 0, .int .i64 0] 27 (0, 0)) := by rw [hw1, ← hs0]; exact heap_alloc_new w0 _
  have hq01 : w1.heap[w.heap.size]? = some (.cells (rC A n c beat) 27 (0, 0)) := (hb1.block _ (lt_of_block hq0)).trans hq0
  have HB1 : Hid (Below w.heap.size w w1) := hb0.trans (hb1.mono hb0.size)
  have HS1 := Lib.hid hs1
  have H1 : Hid (w1 = (w.alloc (.cells (rC A n c beat) 27)).alloc (.cells #[.slice none 0 0, .int .i64 0] 27)) := by simp only [Hid]; rw [hw1, hw0]
  have HC : Hid (∀ W, Below w1.heap.size w1 W → (W.cell? ⟨w.heap.size, 0, none⟩ = some (.slice A n c) ∧ W.cell? ⟨w.heap.size, 1, none⟩ = some (.int .i64 beat)) ∧ W.heap[w.heap.size + 1]? = some (.cells #[.slice none 0 0, .int .i64 0] 27 (0, 0))) := fun W hW => by
    have e := (hW.block _ (lt_of_block hq01)).trans hq01
    exact ⟨⟨cell_of_row W _ 0 _ _ _ e, cell_of_row W _ 1 _ _ _ e⟩, (hW.block _ (lt_of_block hq1)).trans hq1⟩
  have HR : Hid (Rs w1 w1.heap.size A l) := (hR.below HB1.out).mono HB1.out.size
  have HR0 := Lib.hid hR
  have HBR : Hid (Below w1.heap.size w1 w1) := Below.refl _ _
  have HG := Lib.hid (rget_there A n c j beat l 1 m a w1 hn HR.out hl hj)
  have HX : Hid (j < n) := by simp only [Hid]; rw [hn]; exact (List.getElem?_eq_some_iff.1 hj).1
  have HN := Lib.hid hn
  clear hw0 hs0 hb0 hq0 hw1 hs1 hb1 hq1 hq01 hR
  clear hj hn
  have hRY := fun W => rright_any y W
  rw [show decide (1 ≤ y ∧ y ≤ 2147483647) = false from by simpa using hy] at hRY
  have HRY := Lib.hid hRY
  clear hRY hy
  go_enter Try.func10, Try.ntmps10
  go_upto_region 1 with (fail)
  rw [← H1.out]
  obtain ⟨⟨p0, p1⟩, -⟩ := HC.out w1 HBR.out
  go_wp2_with fail
  refine HG.out.mono ?_
  rintro r w2 ⟨rfl, hb2⟩
  obtain ⟨w3, hw3⟩ : ∃ w3, w3 = w2.alloc (.cells (iC 1 m a) 61) := ⟨_, rfl⟩
  have HB3 : Hid (Below w1.heap.size w1 w3) := by rw [hw3]; exact hb2.alloc hb2.size _
  have hq3 : w3.heap[w2.heap.size]? = some (.cells (iC 1 m a) 61 (0, 0)) := by rw [hw3]; exact heap_alloc_new w2 _
  have HL2 : Hid (w1.heap.size ≤ w2.heap.size) := hb2.size
  have H3 := Lib.hid hw3
  have g0 := cell_of_row w3 w2.heap.size 0 _ _ _ hq3
  have g1 := cell_of_row w3 w2.heap.size 1 _ _ _ hq3
  have g2 := cell_of_row w3 w2.heap.size 2 _ _ _ hq3
  simp at g0 g1 g2
  clear hb2 hw3 p0 p1
  go_upto_region 2 with (fail)
  rw [← H3.out]
  obtain ⟨⟨p0, p1⟩, -⟩ := HC.out w3 HB3.out
  go_wp2_with fail
  refine (HRY.out w3).mono ?_
  rintro r w3' ⟨rfl, hw3'⟩
  obtain rfl := hw3'.symm
  clear p0 p1
  clear hq3
  obtain ⟨⟨p0, p1⟩, hq4⟩ := HC.out w3 HB3.out
  have z0 := cell_of_row w3 (w.heap.size + 1) 0 _ _ _ hq4
  have z1 := cell_of_row w3 (w.heap.size + 1) 1 _ _ _ hq4
  simp at z0 z1
  have zf : ∀ i, w3.frozen? ⟨w.heap.size + 1, i, none⟩ = false := fun i => frozen_of_row w3 _ i _ _ hq4
  have HT := Lib.hid (two (.slice A n c) (.int .i64 beat) hq4)
  have HRES : Hid (Below w.heap.size w ((w3.setCell ⟨w.heap.size + 1, 0, none⟩ (.slice A n c)).setCell ⟨w.heap.size + 1, 1, none⟩ (.int .i64 beat))) := ((HB1.out.trans (HB3.out.mono HB1.out.size)).setCell (by show w.heap.size ≤ w.heap.size + 1; omega) _).setCell (by show w.heap.size ≤ w.heap.size + 1; omega) _
  clear hq4
  go_wp2
  obtain ⟨e0, e1⟩ := HT.out
  exact bodyPost_ret (v := .tuple #[rV A n c beat, .int .u32 0, .int .i64 14]) (by simp [results, Try.results10, go_sem, e0, e1]) rfl ⟨A, c, rfl, (HR0.out.below HRES.out).mono HRES.out.size, HRES.out, .inl rfl⟩
set_option maxHeartbeats 4000000 in
theorem rdo2_o (A : Option Addr) (n c j y : Nat) (beat now s m a : Int) (l : List In) (w : World) (hn : n = l.length) (hR : Rs w w.heap.size A l) (hl : n ≤ 16) (hj : l[j]? = some (s, m, a)) (hs : s = 1) (hy : 1 ≤ y ∧ y ≤ 2147483647) :
    Calls Try.prog 10 #[rV A n c beat, .int .u8 2, .int .u32 ((j + 1 : Nat) : Int), .int .u32 (y : Int), .int .i64 now] w (DPost A n beat (0, 0) (l.set j (2, (y : Int), a)) w) := by
  subst hs
  obtain ⟨w0, hw0⟩ : ∃ w0, w0 = w.alloc (.cells (rC A n c beat) 27) := ⟨_, rfl⟩
  have hs0 : w0.heap.size = w.heap.size + 1 := by rw [hw0]; simp
  have hb0 : Below w.heap.size w w0 := by rw [hw0]; exact (Below.refl _ _).alloc (Nat.le_refl _) _
  have hq0 : w0.heap[w.heap.size]? = some (.cells (rC A n c beat) 27 (0, 0)) := by rw [hw0]; exact heap_alloc_new w _
  obtain ⟨w1, hw1⟩ : ∃ w1, w1 = w0.alloc (.cells #[.slice none 0 0, .int .i64 0] 27) := ⟨_, rfl⟩
  have hs1 : w1.heap.size = w.heap.size + 2 := by rw [hw1]; simp [hs0]
  have hb1 : Below w0.heap.size w0 w1 := by rw [hw1]; exact (Below.refl _ _).alloc (Nat.le_refl _) _
  have hq1 : w1.heap[w.heap.size + 1]? = some (.cells #[.slice none 0 0, .int .i64 0] 27 (0, 0)) := by rw [hw1, ← hs0]; exact heap_alloc_new w0 _
  have hq01 : w1.heap[w.heap.size]? = some (.cells (rC A n c beat) 27 (0, 0)) := (hb1.block _ (lt_of_block hq0)).trans hq0
  have HB1 : Hid (Below w.heap.size w w1) := hb0.trans (hb1.mono hb0.size)
  have HS1 := Lib.hid hs1
  have H1 : Hid (w1 = (w.alloc (.cells (rC A n c beat) 27)).alloc (.cells #[.slice none 0 0, .int .i64 0] 27)) := by simp only [Hid]; rw [hw1, hw0]
  have HC : Hid (∀ W, Below w1.heap.size w1 W → (W.cell? ⟨w.heap.size, 0, none⟩ = some (.slice A n c) ∧ W.cell? ⟨w.heap.size, 1, none⟩ = some (.int .i64 beat)) ∧ W.heap[w.heap.size + 1]? = some (.cells #[.slice none 0 0, .int .i64 0] 27 (0, 0))) := fun W hW => by
    have e := (hW.block _ (lt_of_block hq01)).trans hq01
    exact ⟨⟨cell_of_row W _ 0 _ _ _ e, cell_of_row W _ 1 _ _ _ e⟩, (hW.block _ (lt_of_block hq1)).trans hq1⟩
  have HR : Hid (Rs w1 w1.heap.size A l) := (hR.below HB1.out).mono HB1.out.size
  have HR0 := Lib.hid hR
  have HBR : Hid (Below w1.heap.size w1 w1) := Below.refl _ _
  have HG := Lib.hid (rget_there A n c j beat l 1 m a w1 hn HR.out hl hj)
  have HX : Hid (j < n) := by simp only [Hid]; rw [hn]; exact (List.getElem?_eq_some_iff.1 hj).1
  have HN := Lib.hid hn
  clear hw0 hs0 hb0 hq0 hw1 hs1 hb1 hq1 hq01 hR
  clear hj hn
  have hRY := fun W => rright_any y W
  rw [show decide (1 ≤ y ∧ y ≤ 2147483647) = true from by simpa using hy] at hRY
  have HRY := Lib.hid hRY
  clear hRY hy
  go_enter Try.func10, Try.ntmps10
  go_upto_region 1 with (fail)
  rw [← H1.out]
  obtain ⟨⟨p0, p1⟩, -⟩ := HC.out w1 HBR.out
  go_wp2_with fail
  refine HG.out.mono ?_
  rintro r w2 ⟨rfl, hb2⟩
  obtain ⟨w3, hw3⟩ : ∃ w3, w3 = w2.alloc (.cells (iC 1 m a) 61) := ⟨_, rfl⟩
  have HB3 : Hid (Below w1.heap.size w1 w3) := by rw [hw3]; exact hb2.alloc hb2.size _
  have hq3 : w3.heap[w2.heap.size]? = some (.cells (iC 1 m a) 61 (0, 0)) := by rw [hw3]; exact heap_alloc_new w2 _
  have HL2 : Hid (w1.heap.size ≤ w2.heap.size) := hb2.size
  have H3 := Lib.hid hw3
  have g0 := cell_of_row w3 w2.heap.size 0 _ _ _ hq3
  have g1 := cell_of_row w3 w2.heap.size 1 _ _ _ hq3
  have g2 := cell_of_row w3 w2.heap.size 2 _ _ _ hq3
  simp at g0 g1 g2
  clear hb2 hw3 p0 p1
  go_upto_region 2 with (fail)
  rw [← H3.out]
  clear hq3
  have HWT := Lib.hid (rwith_any A n c j beat 2 (y : Int) a l w3 HN.out ((HR.out.below HB3.out).mono HB3.out.size) hl HX.out)
  obtain ⟨⟨p0, p1⟩, -⟩ := HC.out w3 HB3.out
  go_wp2_with fail
  refine (HRY.out w3).mono ?_
  rintro r w3' ⟨rfl, hw3'⟩
  obtain rfl := hw3'.symm
  go_wp2_with fail
  refine HWT.out.mono ?_
  rintro r w4 ⟨A4, c4, rfl, hR4, hb4, hge4⟩
  have HB4 : Hid (Below w1.heap.size w1 w4) := HB3.out.trans (hb4.mono HB3.out.size)
  have HR4 := Lib.hid hR4
  have HGE : Hid (∀ b o, A4 = some ⟨b, o, none⟩ → b ≠ w.heap.size + 1) := fun b o e => by have := hge4 b o e; have := HB3.out.size; have := HS1.out; omega
  have HGL : Hid (∀ b o, A4 = some ⟨b, o, none⟩ → w.heap.size ≤ b) := fun b o e => by have := hge4 b o e; have := HB3.out.size; have := HS1.out; omega
  clear hR4 hb4 hge4 p0 p1
  obtain ⟨-, hq4⟩ := HC.out w4 HB4.out
  have z0 := cell_of_row w4 (w.heap.size + 1) 0 _ _ _ hq4
  have z1 := cell_of_row w4 (w.heap.size + 1) 1 _ _ _ hq4
  simp at z0 z1
  have zf : ∀ i, w4.frozen? ⟨w.heap.size + 1, i, none⟩ = false := fun i => frozen_of_row w4 _ i _ _ hq4
  have HT := Lib.hid (two (.slice A4 n c4) (.int .i64 beat) hq4)
  have HRES : Hid (Rs ((w4.setCell ⟨w.heap.size + 1, 0, none⟩ (.slice A4 n c4)).setCell ⟨w.heap.size + 1, 1, none⟩ (.int .i64 beat)) ((w4.setCell ⟨w.heap.size + 1, 0, none⟩ (.slice A4 n c4)).setCell ⟨w.heap.size + 1, 1, none⟩ (.int .i64 beat)).heap.size A4 (l.set j (2, (y : Int), a)) ∧ Below w.heap.size w ((w4.setCell ⟨w.heap.size + 1, 0, none⟩ (.slice A4 n c4)).setCell ⟨w.heap.size + 1, 1, none⟩ (.int .i64 beat))) :=
    ⟨(HR4.out.setCell HGE.out).setCell HGE.out, ((HB1.out.trans (HB4.out.mono HB1.out.size)).setCell (by show w.heap.size ≤ w.heap.size + 1; omega) _).setCell (by show w.heap.size ≤ w.heap.size + 1; omega) _⟩
  clear hq4
  go_wp2
  obtain ⟨e0, e1⟩ := HT.out
  exact bodyPost_ret (v := .tuple #[rV A4 n c4 beat, .int .u32 0, .int .i64 0]) (by simp [results, Try.results10, go_sem, e0, e1]) rfl ⟨A4, c4, rfl, HRES.out.1, HRES.out.2, .inr HGL.out⟩
set_option maxHeartbeats 4000000 in
theorem rdo3_e (A : Option Addr) (n c j y : Nat) (beat now s m a : Int) (l : List In) (w : World) (hn : n = l.length) (hR : Rs w w.heap.size A l) (hl : n ≤ 16) (hj : l[j]? = some (s, m, a)) (hs : ¬ s = 2) :
    Calls Try.prog 10 #[rV A n c beat, .int .u8 3, .int .u32 ((j + 1 : Nat) : Int), .int .u32 (y : Int), .int .i64 now] w (DPost A n beat (0, 24) l w) := by
  obtain ⟨w0, hw0⟩ : ∃ w0, w0 = w.alloc (.cells (rC A n c beat) 27) := ⟨_, rfl⟩
  have hs0 : w0.heap.size = w.heap.size + 1 := by rw [hw0]; simp
  have hb0 : Below w.heap.size w w0 := by rw [hw0]; exact (Below.refl _ _).alloc (Nat.le_refl _) _
  have hq0 : w0.heap[w.heap.size]? = some (.cells (rC A n c beat) 27 (0, 0)) := by rw [hw0]; exact heap_alloc_new w _
  obtain ⟨w1, hw1⟩ : ∃ w1, w1 = w0.alloc (.cells #[.slice none 0 0, .int .i64 0] 27) := ⟨_, rfl⟩
  have hs1 : w1.heap.size = w.heap.size + 2 := by rw [hw1]; simp [hs0]
  have hb1 : Below w0.heap.size w0 w1 := by rw [hw1]; exact (Below.refl _ _).alloc (Nat.le_refl _) _
  have hq1 : w1.heap[w.heap.size + 1]? = some (.cells #[.slice none 0 0, .int .i64 0] 27 (0, 0)) := by rw [hw1, ← hs0]; exact heap_alloc_new w0 _
  have hq01 : w1.heap[w.heap.size]? = some (.cells (rC A n c beat) 27 (0, 0)) := (hb1.block _ (lt_of_block hq0)).trans hq0
  have HB1 : Hid (Below w.heap.size w w1) := hb0.trans (hb1.mono hb0.size)
  have HS1 := Lib.hid hs1
  have H1 : Hid (w1 = (w.alloc (.cells (rC A n c beat) 27)).alloc (.cells #[.slice none 0 0, .int .i64 0] 27)) := by simp only [Hid]; rw [hw1, hw0]
  have HC : Hid (∀ W, Below w1.heap.size w1 W → (W.cell? ⟨w.heap.size, 0, none⟩ = some (.slice A n c) ∧ W.cell? ⟨w.heap.size, 1, none⟩ = some (.int .i64 beat)) ∧ W.heap[w.heap.size + 1]? = some (.cells #[.slice none 0 0, .int .i64 0] 27 (0, 0))) := fun W hW => by
    have e := (hW.block _ (lt_of_block hq01)).trans hq01
    exact ⟨⟨cell_of_row W _ 0 _ _ _ e, cell_of_row W _ 1 _ _ _ e⟩, (hW.block _ (lt_of_block hq1)).trans hq1⟩
  have HR : Hid (Rs w1 w1.heap.size A l) := (hR.below HB1.out).mono HB1.out.size
  have HR0 := Lib.hid hR
  have HBR : Hid (Below w1.heap.size w1 w1) := Below.refl _ _
  have HG := Lib.hid (rget_there A n c j beat l s m a w1 hn HR.out hl hj)
  have HX : Hid (j < n) := by simp only [Hid]; rw [hn]; exact (List.getElem?_eq_some_iff.1 hj).1
  have HN := Lib.hid hn
  clear hw0 hs0 hb0 hq0 hw1 hs1 hb1 hq1 hq01 hR
  clear hj hn
  go_enter Try.func10, Try.ntmps10
  go_upto_region 1 with (fail)
  rw [← H1.out]
  obtain ⟨⟨p0, p1⟩, -⟩ := HC.out w1 HBR.out
  go_wp2_with fail
  refine HG.out.mono ?_
  rintro r w2 ⟨rfl, hb2⟩
  obtain ⟨w3, hw3⟩ : ∃ w3, w3 = w2.alloc (.cells (iC s m a) 61) := ⟨_, rfl⟩
  have HB3 : Hid (Below w1.heap.size w1 w3) := by rw [hw3]; exact hb2.alloc hb2.size _
  have hq3 : w3.heap[w2.heap.size]? = some (.cells (iC s m a) 61 (0, 0)) := by rw [hw3]; exact heap_alloc_new w2 _
  have HL2 : Hid (w1.heap.size ≤ w2.heap.size) := hb2.size
  have H3 := Lib.hid hw3
  have g0 := cell_of_row w3 w2.heap.size 0 _ _ _ hq3
  have g1 := cell_of_row w3 w2.heap.size 1 _ _ _ hq3
  have g2 := cell_of_row w3 w2.heap.size 2 _ _ _ hq3
  simp at g0 g1 g2
  clear hb2 hw3 p0 p1
  go_upto_region 2 with (fail)
  rw [← H3.out]
  clear hq3
  obtain ⟨⟨p0, p1⟩, hq4⟩ := HC.out w3 HB3.out
  have z0 := cell_of_row w3 (w.heap.size + 1) 0 _ _ _ hq4
  have z1 := cell_of_row w3 (w.heap.size + 1) 1 _ _ _ hq4
  simp at z0 z1
  have zf : ∀ i, w3.frozen? ⟨w.heap.size + 1, i, none⟩ = false := fun i => frozen_of_row w3 _ i _ _ hq4
  have HT := Lib.hid (two (.slice A n c) (.int .i64 beat) hq4)
  have HRES : Hid (Below w.heap.size w ((w3.setCell ⟨w.heap.size + 1, 0, none⟩ (.slice A n c)).setCell ⟨w.heap.size + 1, 1, none⟩ (.int .i64 beat))) := ((HB1.out.trans (HB3.out.mono HB1.out.size)).setCell (by show w.heap.size ≤ w.heap.size + 1; omega) _).setCell (by show w.heap.size ≤ w.heap.size + 1; omega) _
  clear hq4
  go_wp2
  obtain ⟨e0, e1⟩ := HT.out
  exact bodyPost_ret (v := .tuple #[rV A n c beat, .int .u32 0, .int .i64 24]) (by simp [results, Try.results10, go_sem, e0, e1]) rfl ⟨A, c, rfl, (HR0.out.below HRES.out).mono HRES.out.size, HRES.out, .inl rfl⟩
set_option maxHeartbeats 4000000 in
theorem rdo3_o (A : Option Addr) (n c j y : Nat) (beat now s m a : Int) (l : List In) (w : World) (hn : n = l.length) (hR : Rs w w.heap.size A l) (hl : n ≤ 16) (hj : l[j]? = some (s, m, a)) (hs : s = 2) :
    Calls Try.prog 10 #[rV A n c beat, .int .u8 3, .int .u32 ((j + 1 : Nat) : Int), .int .u32 (y : Int), .int .i64 now] w (DPost A n beat (0, 0) (l.set j (3, m, now)) w) := by
  subst hs
  obtain ⟨w0, hw0⟩ : ∃ w0, w0 = w.alloc (.cells (rC A n c beat) 27) := ⟨_, rfl⟩
  have hs0 : w0.heap.size = w.heap.size + 1 := by rw [hw0]; simp
  have hb0 : Below w.heap.size w w0 := by rw [hw0]; exact (Below.refl _ _).alloc (Nat.le_refl _) _
  have hq0 : w0.heap[w.heap.size]? = some (.cells (rC A n c beat) 27 (0, 0)) := by rw [hw0]; exact heap_alloc_new w _
  obtain ⟨w1, hw1⟩ : ∃ w1, w1 = w0.alloc (.cells #[.slice none 0 0, .int .i64 0] 27) := ⟨_, rfl⟩
  have hs1 : w1.heap.size = w.heap.size + 2 := by rw [hw1]; simp [hs0]
  have hb1 : Below w0.heap.size w0 w1 := by rw [hw1]; exact (Below.refl _ _).alloc (Nat.le_refl _) _
  have hq1 : w1.heap[w.heap.size + 1]? = some (.cells #[.slice none 0 0, .int .i64 0] 27 (0, 0)) := by rw [hw1, ← hs0]; exact heap_alloc_new w0 _
  have hq01 : w1.heap[w.heap.size]? = some (.cells (rC A n c beat) 27 (0, 0)) := (hb1.block _ (lt_of_block hq0)).trans hq0
  have HB1 : Hid (Below w.heap.size w w1) := hb0.trans (hb1.mono hb0.size)
  have HS1 := Lib.hid hs1
  have H1 : Hid (w1 = (w.alloc (.cells (rC A n c beat) 27)).alloc (.cells #[.slice none 0 0, .int .i64 0] 27)) := by simp only [Hid]; rw [hw1, hw0]
  have HC : Hid (∀ W, Below w1.heap.size w1 W → (W.cell? ⟨w.heap.size, 0, none⟩ = some (.slice A n c) ∧ W.cell? ⟨w.heap.size, 1, none⟩ = some (.int .i64 beat)) ∧ W.heap[w.heap.size + 1]? = some (.cells #[.slice none 0 0, .int .i64 0] 27 (0, 0))) := fun W hW => by
    have e := (hW.block _ (lt_of_block hq01)).trans hq01
    exact ⟨⟨cell_of_row W _ 0 _ _ _ e, cell_of_row W _ 1 _ _ _ e⟩, (hW.block _ (lt_of_block hq1)).trans hq1⟩
  have HR : Hid (Rs w1 w1.heap.size A l) := (hR.below HB1.out).mono HB1.out.size
  have HR0 := Lib.hid hR
  have HBR : Hid (Below w1.heap.size w1 w1) := Below.refl _ _
  have HG := Lib.hid (rget_there A n c j beat l 2 m a w1 hn HR.out hl hj)
  have HX : Hid (j < n) := by simp only [Hid]; rw [hn]; exact (List.getElem?_eq_some_iff.1 hj).1
  have HN := Lib.hid hn
  clear hw0 hs0 hb0 hq0 hw1 hs1 hb1 hq1 hq01 hR
  clear hj hn
  go_enter Try.func10, Try.ntmps10
  go_upto_region 1 with (fail)
  rw [← H1.out]
  obtain ⟨⟨p0, p1⟩, -⟩ := HC.out w1 HBR.out
  go_wp2_with fail
  refine HG.out.mono ?_
  rintro r w2 ⟨rfl, hb2⟩
  obtain ⟨w3, hw3⟩ : ∃ w3, w3 = w2.alloc (.cells (iC 2 m a) 61) := ⟨_, rfl⟩
  have HB3 : Hid (Below w1.heap.size w1 w3) := by rw [hw3]; exact hb2.alloc hb2.size _
  have hq3 : w3.heap[w2.heap.size]? = some (.cells (iC 2 m a) 61 (0, 0)) := by rw [hw3]; exact heap_alloc_new w2 _
  have HL2 : Hid (w1.heap.size ≤ w2.heap.size) := hb2.size
  have H3 := Lib.hid hw3
  have g0 := cell_of_row w3 w2.heap.size 0 _ _ _ hq3
  have g1 := cell_of_row w3 w2.heap.size 1 _ _ _ hq3
  have g2 := cell_of_row w3 w2.heap.size 2 _ _ _ hq3
  simp at g0 g1 g2
  clear hb2 hw3 p0 p1
  go_upto_region 2 with (fail)
  rw [← H3.out]
  clear hq3
  have HWT := Lib.hid (rwith_any A n c j beat 3 m now l w3 HN.out ((HR.out.below HB3.out).mono HB3.out.size) hl HX.out)
  obtain ⟨⟨p0, p1⟩, -⟩ := HC.out w3 HB3.out
  go_wp2_with fail
  refine HWT.out.mono ?_
  rintro r w4 ⟨A4, c4, rfl, hR4, hb4, hge4⟩
  have HB4 : Hid (Below w1.heap.size w1 w4) := HB3.out.trans (hb4.mono HB3.out.size)
  have HR4 := Lib.hid hR4
  have HGE : Hid (∀ b o, A4 = some ⟨b, o, none⟩ → b ≠ w.heap.size + 1) := fun b o e => by have := hge4 b o e; have := HB3.out.size; have := HS1.out; omega
  have HGL : Hid (∀ b o, A4 = some ⟨b, o, none⟩ → w.heap.size ≤ b) := fun b o e => by have := hge4 b o e; have := HB3.out.size; have := HS1.out; omega
  clear hR4 hb4 hge4 p0 p1
  obtain ⟨-, hq4⟩ := HC.out w4 HB4.out
  have z0 := cell_of_row w4 (w.heap.size + 1) 0 _ _ _ hq4
  have z1 := cell_of_row w4 (w.heap.size + 1) 1 _ _ _ hq4
  simp at z0 z1
  have zf : ∀ i, w4.frozen? ⟨w.heap.size + 1, i, none⟩ = false := fun i => frozen_of_row w4 _ i _ _ hq4
  have HT := Lib.hid (two (.slice A4 n c4) (.int .i64 beat) hq4)
  have HRES : Hid (Rs ((w4.setCell ⟨w.heap.size + 1, 0, none⟩ (.slice A4 n c4)).setCell ⟨w.heap.size + 1, 1, none⟩ (.int .i64 beat)) ((w4.setCell ⟨w.heap.size + 1, 0, none⟩ (.slice A4 n c4)).setCell ⟨w.heap.size + 1, 1, none⟩ (.int .i64 beat)).heap.size A4 (l.set j (3, m, now)) ∧ Below w.heap.size w ((w4.setCell ⟨w.heap.size + 1, 0, none⟩ (.slice A4 n c4)).setCell ⟨w.heap.size + 1, 1, none⟩ (.int .i64 beat))) :=
    ⟨(HR4.out.setCell HGE.out).setCell HGE.out, ((HB1.out.trans (HB4.out.mono HB1.out.size)).setCell (by show w.heap.size ≤ w.heap.size + 1; omega) _).setCell (by show w.heap.size ≤ w.heap.size + 1; omega) _⟩
  clear hq4
  go_wp2
  obtain ⟨e0, e1⟩ := HT.out
  exact bodyPost_ret (v := .tuple #[rV A4 n c4 beat, .int .u32 0, .int .i64 0]) (by simp [results, Try.results10, go_sem, e0, e1]) rfl ⟨A4, c4, rfl, HRES.out.1, HRES.out.2, .inr HGL.out⟩
set_option maxHeartbeats 4000000 in
theorem rdo4_e (A : Option Addr) (n c j y : Nat) (beat now s m a : Int) (l : List In) (w : World) (hn : n = l.length) (hR : Rs w w.heap.size A l) (hl : n ≤ 16) (hj : l[j]? = some (s, m, a)) (hs : ¬ s = 3) :
    Calls Try.prog 10 #[rV A n c beat, .int .u8 4, .int .u32 ((j + 1 : Nat) : Int), .int .u32 (y : Int), .int .i64 now] w (DPost A n beat (0, 24) l w) := by
  obtain ⟨w0, hw0⟩ : ∃ w0, w0 = w.alloc (.cells (rC A n c beat) 27) := ⟨_, rfl⟩
  have hs0 : w0.heap.size = w.heap.size + 1 := by rw [hw0]; simp
  have hb0 : Below w.heap.size w w0 := by rw [hw0]; exact (Below.refl _ _).alloc (Nat.le_refl _) _
  have hq0 : w0.heap[w.heap.size]? = some (.cells (rC A n c beat) 27 (0, 0)) := by rw [hw0]; exact heap_alloc_new w _
  obtain ⟨w1, hw1⟩ : ∃ w1, w1 = w0.alloc (.cells #[.slice none 0 0, .int .i64 0] 27) := ⟨_, rfl⟩
  have hs1 : w1.heap.size = w.heap.size + 2 := by rw [hw1]; simp [hs0]
  have hb1 : Below w0.heap.size w0 w1 := by rw [hw1]; exact (Below.refl _ _).alloc (Nat.le_refl _) _
  have hq1 : w1.heap[w.heap.size + 1]? = some (.cells #[.slice none 0 0, .int .i64 0] 27 (0, 0)) := by rw [hw1, ← hs0]; exact heap_alloc_new w0 _
  have hq01 : w1.heap[w.heap.size]? = some (.cells (rC A n c beat) 27 (0, 0)) := (hb1.block _ (lt_of_block hq0)).trans hq0
  have HB1 : Hid (Below w.heap.size w w1) := hb0.trans (hb1.mono hb0.size)
  have HS1 := Lib.hid hs1
  have H1 : Hid (w1 = (w.alloc (.cells (rC A n c beat) 27)).alloc (.cells #[.slice none 0 0, .int .i64 0] 27)) := by simp only [Hid]; rw [hw1, hw0]
  have HC : Hid (∀ W, Below w1.heap.size w1 W → (W.cell? ⟨w.heap.size, 0, none⟩ = some (.slice A n c) ∧ W.cell? ⟨w.heap.size, 1, none⟩ = some (.int .i64 beat)) ∧ W.heap[w.heap.size + 1]? = some (.cells #[.slice none 0 0, .int .i64 0] 27 (0, 0))) := fun W hW => by
    have e := (hW.block _ (lt_of_block hq01)).trans hq01
    exact ⟨⟨cell_of_row W _ 0 _ _ _ e, cell_of_row W _ 1 _ _ _ e⟩, (hW.block _ (lt_of_block hq1)).trans hq1⟩
  have HR : Hid (Rs w1 w1.heap.size A l) := (hR.below HB1.out).mono HB1.out.size
  have HR0 := Lib.hid hR
  have HBR : Hid (Below w1.heap.size w1 w1) := Below.refl _ _
  have HG := Lib.hid (rget_there A n c j beat l s m a w1 hn HR.out hl hj)
  have HX : Hid (j < n) := by simp only [Hid]; rw [hn]; exact (List.getElem?_eq_some_iff.1 hj).1
  have HN := Lib.hid hn
  clear hw0 hs0 hb0 hq0 hw1 hs1 hb1 hq1 hq01 hR
  clear hj hn
  go_enter Try.func10, Try.ntmps10
  go_upto_region 1 with (fail)
  rw [← H1.out]
  obtain ⟨⟨p0, p1⟩, -⟩ := HC.out w1 HBR.out
  go_wp2_with fail
  refine HG.out.mono ?_
  rintro r w2 ⟨rfl, hb2⟩
  obtain ⟨w3, hw3⟩ : ∃ w3, w3 = w2.alloc (.cells (iC s m a) 61) := ⟨_, rfl⟩
  have HB3 : Hid (Below w1.heap.size w1 w3) := by rw [hw3]; exact hb2.alloc hb2.size _
  have hq3 : w3.heap[w2.heap.size]? = some (.cells (iC s m a) 61 (0, 0)) := by rw [hw3]; exact heap_alloc_new w2 _
  have HL2 : Hid (w1.heap.size ≤ w2.heap.size) := hb2.size
  have H3 := Lib.hid hw3
  have g0 := cell_of_row w3 w2.heap.size 0 _ _ _ hq3
  have g1 := cell_of_row w3 w2.heap.size 1 _ _ _ hq3
  have g2 := cell_of_row w3 w2.heap.size 2 _ _ _ hq3
  simp at g0 g1 g2
  clear hb2 hw3 p0 p1
  go_upto_region 2 with (fail)
  rw [← H3.out]
  clear hq3
  obtain ⟨⟨p0, p1⟩, hq4⟩ := HC.out w3 HB3.out
  have z0 := cell_of_row w3 (w.heap.size + 1) 0 _ _ _ hq4
  have z1 := cell_of_row w3 (w.heap.size + 1) 1 _ _ _ hq4
  simp at z0 z1
  have zf : ∀ i, w3.frozen? ⟨w.heap.size + 1, i, none⟩ = false := fun i => frozen_of_row w3 _ i _ _ hq4
  have HT := Lib.hid (two (.slice A n c) (.int .i64 beat) hq4)
  have HRES : Hid (Below w.heap.size w ((w3.setCell ⟨w.heap.size + 1, 0, none⟩ (.slice A n c)).setCell ⟨w.heap.size + 1, 1, none⟩ (.int .i64 beat))) := ((HB1.out.trans (HB3.out.mono HB1.out.size)).setCell (by show w.heap.size ≤ w.heap.size + 1; omega) _).setCell (by show w.heap.size ≤ w.heap.size + 1; omega) _
  clear hq4
  go_wp2
  obtain ⟨e0, e1⟩ := HT.out
  exact bodyPost_ret (v := .tuple #[rV A n c beat, .int .u32 0, .int .i64 24]) (by simp [results, Try.results10, go_sem, e0, e1]) rfl ⟨A, c, rfl, (HR0.out.below HRES.out).mono HRES.out.size, HRES.out, .inl rfl⟩
set_option maxHeartbeats 4000000 in
theorem rdo4_o (A : Option Addr) (n c j y : Nat) (beat now s m a : Int) (l : List In) (w : World) (hn : n = l.length) (hR : Rs w w.heap.size A l) (hl : n ≤ 16) (hj : l[j]? = some (s, m, a)) (hs : s = 3) :
    Calls Try.prog 10 #[rV A n c beat, .int .u8 4, .int .u32 ((j + 1 : Nat) : Int), .int .u32 (y : Int), .int .i64 now] w (DPost A n beat (0, 0) (l.set j (4, m, now)) w) := by
  subst hs
  obtain ⟨w0, hw0⟩ : ∃ w0, w0 = w.alloc (.cells (rC A n c beat) 27) := ⟨_, rfl⟩
  have hs0 : w0.heap.size = w.heap.size + 1 := by rw [hw0]; simp
  have hb0 : Below w.heap.size w w0 := by rw [hw0]; exact (Below.refl _ _).alloc (Nat.le_refl _) _
  have hq0 : w0.heap[w.heap.size]? = some (.cells (rC A n c beat) 27 (0, 0)) := by rw [hw0]; exact heap_alloc_new w _
  obtain ⟨w1, hw1⟩ : ∃ w1, w1 = w0.alloc (.cells #[.slice none 0 0, .int .i64 0] 27) := ⟨_, rfl⟩
  have hs1 : w1.heap.size = w.heap.size + 2 := by rw [hw1]; simp [hs0]
  have hb1 : Below w0.heap.size w0 w1 := by rw [hw1]; exact (Below.refl _ _).alloc (Nat.le_refl _) _
  have hq1 : w1.heap[w.heap.size + 1]? = some (.cells #[.slice none 0 0, .int .i64 0] 27 (0, 0)) := by rw [hw1, ← hs0]; exact heap_alloc_new w0 _
  have hq01 : w1.heap[w.heap.size]? = some (.cells (rC A n c beat) 27 (0, 0)) := (hb1.block _ (lt_of_block hq0)).trans hq0
  have HB1 : Hid (Below w.heap.size w w1) := hb0.trans (hb1.mono hb0.size)
  have HS1 := Lib.hid hs1
  have H1 : Hid (w1 = (w.alloc (.cells (rC A n c beat) 27)).alloc (.cells #[.slice none 0 0, .int .i64 0] 27)) := by simp only [Hid]; rw [hw1, hw0]
  have HC : Hid (∀ W, Below w1.heap.size w1 W → (W.cell? ⟨w.heap.size, 0, none⟩ = some (.slice A n c) ∧ W.cell? ⟨w.heap.size, 1, none⟩ = some (.int .i64 beat)) ∧ W.heap[w.heap.size + 1]? = some (.cells #[.slice none 0 0, .int .i64 0] 27 (0, 0))) := fun W hW => by
    have e := (hW.block _ (lt_of_block hq01)).trans hq01
    exact ⟨⟨cell_of_row W _ 0 _ _ _ e, cell_of_row W _ 1 _ _ _ e⟩, (hW.block _ (lt_of_block hq1)).trans hq1⟩
  have HR : Hid (Rs w1 w1.heap.size A l) := (hR.below HB1.out).mono HB1.out.size
  have HR0 := Lib.hid hR
  have HBR : Hid (Below w1.heap.size w1 w1) := Below.refl _ _
  have HG := Lib.hid (rget_there A n c j beat l 3 m a w1 hn HR.out hl hj)
  have HX : Hid (j < n) := by simp only [Hid]; rw [hn]; exact (List.getElem?_eq_some_iff.1 hj).1
  have HN := Lib.hid hn
  clear hw0 hs0 hb0 hq0 hw1 hs1 hb1 hq1 hq01 hR
  clear hj hn
  go_enter Try.func10, Try.ntmps10
  go_upto_region 1 with (fail)
  rw [← H1.out]
  obtain ⟨⟨p0, p1⟩, -⟩ := HC.out w1 HBR.out
  go_wp2_with fail
  refine HG.out.mono ?_
  rintro r w2 ⟨rfl, hb2⟩
  obtain ⟨w3, hw3⟩ : ∃ w3, w3 = w2.alloc (.cells (iC 3 m a) 61) := ⟨_, rfl⟩
  have HB3 : Hid (Below w1.heap.size w1 w3) := by rw [hw3]; exact hb2.alloc hb2.size _
  have hq3 : w3.heap[w2.heap.size]? = some (.cells (iC 3 m a) 61 (0, 0)) := by rw [hw3]; exact heap_alloc_new w2 _
  have HL2 : Hid (w1.heap.size ≤ w2.heap.size) := hb2.size
  have H3 := Lib.hid hw3
  have g0 := cell_of_row w3 w2.heap.size 0 _ _ _ hq3
  have g1 := cell_of_row w3 w2.heap.size 1 _ _ _ hq3
  have g2 := cell_of_row w3 w2.heap.size 2 _ _ _ hq3
  simp at g0 g1 g2
  clear hb2 hw3 p0 p1
  go_upto_region 2 with (fail)
  rw [← H3.out]
  clear hq3
  have HWT := Lib.hid (rwith_any A n c j beat 4 m now l w3 HN.out ((HR.out.below HB3.out).mono HB3.out.size) hl HX.out)
  obtain ⟨⟨p0, p1⟩, -⟩ := HC.out w3 HB3.out
  go_wp2_with fail
  refine HWT.out.mono ?_
  rintro r w4 ⟨A4, c4, rfl, hR4, hb4, hge4⟩
  have HB4 : Hid (Below w1.heap.size w1 w4) := HB3.out.trans (hb4.mono HB3.out.size)
  have HR4 := Lib.hid hR4
  have HGE : Hid (∀ b o, A4 = some ⟨b, o, none⟩ → b ≠ w.heap.size + 1) := fun b o e => by have := hge4 b o e; have := HB3.out.size; have := HS1.out; omega
  have HGL : Hid (∀ b o, A4 = some ⟨b, o, none⟩ → w.heap.size ≤ b) := fun b o e => by have := hge4 b o e; have := HB3.out.size; have := HS1.out; omega
  clear hR4 hb4 hge4 p0 p1
  obtain ⟨-, hq4⟩ := HC.out w4 HB4.out
  have z0 := cell_of_row w4 (w.heap.size + 1) 0 _ _ _ hq4
  have z1 := cell_of_row w4 (w.heap.size + 1) 1 _ _ _ hq4
  simp at z0 z1
  have zf : ∀ i, w4.frozen? ⟨w.heap.size + 1, i, none⟩ = false := fun i => frozen_of_row w4 _ i _ _ hq4
  have HT := Lib.hid (two (.slice A4 n c4) (.int .i64 beat) hq4)
  have HRES : Hid (Rs ((w4.setCell ⟨w.heap.size + 1, 0, none⟩ (.slice A4 n c4)).setCell ⟨w.heap.size + 1, 1, none⟩ (.int .i64 beat)) ((w4.setCell ⟨w.heap.size + 1, 0, none⟩ (.slice A4 n c4)).setCell ⟨w.heap.size + 1, 1, none⟩ (.int .i64 beat)).heap.size A4 (l.set j (4, m, now)) ∧ Below w.heap.size w ((w4.setCell ⟨w.heap.size + 1, 0, none⟩ (.slice A4 n c4)).setCell ⟨w.heap.size + 1, 1, none⟩ (.int .i64 beat))) :=
    ⟨(HR4.out.setCell HGE.out).setCell HGE.out, ((HB1.out.trans (HB4.out.mono HB1.out.size)).setCell (by show w.heap.size ≤ w.heap.size + 1; omega) _).setCell (by show w.heap.size ≤ w.heap.size + 1; omega) _⟩
  clear hq4
  go_wp2
  obtain ⟨e0, e1⟩ := HT.out
  exact bodyPost_ret (v := .tuple #[rV A4 n c4 beat, .int .u32 0, .int .i64 0]) (by simp [results, Try.results10, go_sem, e0, e1]) rfl ⟨A4, c4, rfl, HRES.out.1, HRES.out.2, .inr HGL.out⟩
set_option maxHeartbeats 4000000 in
theorem rdo5_e (A : Option Addr) (n c j y : Nat) (beat now s m a : Int) (l : List In) (w : World) (hn : n = l.length) (hR : Rs w w.heap.size A l) (hl : n ≤ 16) (hj : l[j]? = some (s, m, a)) (hs : ¬ s = 2) :
    Calls Try.prog 10 #[rV A n c beat, .int .u8 5, .int .u32 ((j + 1 : Nat) : Int), .int .u32 (y : Int), .int .i64 now] w (DPost A n beat (0, 24) l w) := by
  obtain ⟨w0, hw0⟩ : ∃ w0, w0 = w.alloc (.cells (rC A n c beat) 27) := ⟨_, rfl⟩
  have hs0 : w0.heap.size = w.heap.size + 1 := by rw [hw0]; simp
  have hb0 : Below w.heap.size w w0 := by rw [hw0]; exact (Below.refl _ _).alloc (Nat.le_refl _) _
  have hq0 : w0.heap[w.heap.size]? = some (.cells (rC A n c beat) 27 (0, 0)) := by rw [hw0]; exact heap_alloc_new w _
  obtain ⟨w1, hw1⟩ : ∃ w1, w1 = w0.alloc (.cells #[.slice none 0 0, .int .i64 0] 27) := ⟨_, rfl⟩
  have hs1 : w1.heap.size = w.heap.size + 2 := by rw [hw1]; simp [hs0]
  have hb1 : Below w0.heap.size w0 w1 := by rw [hw1]; exact (Below.refl _ _).alloc (Nat.le_refl _) _
  have hq1 : w1.heap[w.heap.size + 1]? = some (.cells #[.slice none 0 0, .int .i64 0] 27 (0, 0)) := by rw [hw1, ← hs0]; exact heap_alloc_new w0 _
  have hq01 : w1.heap[w.heap.size]? = some (.cells (rC A n c beat) 27 (0, 0)) := (hb1.block _ (lt_of_block hq0)).trans hq0
  have HB1 : Hid (Below w.heap.size w w1) := hb0.trans (hb1.mono hb0.size)
  have HS1 := Lib.hid hs1
  have H1 : Hid (w1 = (w.alloc (.cells (rC A n c beat) 27)).alloc (.cells #[.slice none 0 0, .int .i64 0] 27)) := by simp only [Hid]; rw [hw1, hw0]
  have HC : Hid (∀ W, Below w1.heap.size w1 W → (W.cell? ⟨w.heap.size, 0, none⟩ = some (.slice A n c) ∧ W.cell? ⟨w.heap.size, 1, none⟩ = some (.int .i64 beat)) ∧ W.heap[w.heap.size + 1]? = some (.cells #[.slice none 0 0, .int .i64 0] 27 (0, 0))) := fun W hW => by
    have e := (hW.block _ (lt_of_block hq01)).trans hq01
    exact ⟨⟨cell_of_row W _ 0 _ _ _ e, cell_of_row W _ 1 _ _ _ e⟩, (hW.block _ (lt_of_block hq1)).trans hq1⟩
  have HR : Hid (Rs w1 w1.heap.size A l) := (hR.below HB1.out).mono HB1.out.size
  have HR0 := Lib.hid hR
  have HBR : Hid (Below w1.heap.size w1 w1) := Below.refl _ _
  have HG := Lib.hid (rget_there A n c j beat l s m a w1 hn HR.out hl hj)
  have HX : Hid (j < n) := by simp only [Hid]; rw [hn]; exact (List.getElem?_eq_some_iff.1 hj).1
  have HN := Lib.hid hn
  clear hw0 hs0 hb0 hq0 hw1 hs1 hb1 hq1 hq01 hR
  clear hj hn
  go_enter Try.func10, Try.ntmps10
  go_upto_region 1 with (fail)
  rw [← H1.out]
  obtain ⟨⟨p0, p1⟩, -⟩ := HC.out w1 HBR.out
  go_wp2_with fail
  refine HG.out.mono ?_
  rintro r w2 ⟨rfl, hb2⟩
  obtain ⟨w3, hw3⟩ : ∃ w3, w3 = w2.alloc (.cells (iC s m a) 61) := ⟨_, rfl⟩
  have HB3 : Hid (Below w1.heap.size w1 w3) := by rw [hw3]; exact hb2.alloc hb2.size _
  have hq3 : w3.heap[w2.heap.size]? = some (.cells (iC s m a) 61 (0, 0)) := by rw [hw3]; exact heap_alloc_new w2 _
  have HL2 : Hid (w1.heap.size ≤ w2.heap.size) := hb2.size
  have H3 := Lib.hid hw3
  have g0 := cell_of_row w3 w2.heap.size 0 _ _ _ hq3
  have g1 := cell_of_row w3 w2.heap.size 1 _ _ _ hq3
  have g2 := cell_of_row w3 w2.heap.size 2 _ _ _ hq3
  simp at g0 g1 g2
  clear hb2 hw3 p0 p1
  go_upto_region 2 with (fail)
  rw [← H3.out]
  clear hq3
  obtain ⟨⟨p0, p1⟩, hq4⟩ := HC.out w3 HB3.out
  have z0 := cell_of_row w3 (w.heap.size + 1) 0 _ _ _ hq4
  have z1 := cell_of_row w3 (w.heap.size + 1) 1 _ _ _ hq4
  simp at z0 z1
  have zf : ∀ i, w3.frozen? ⟨w.heap.size + 1, i, none⟩ = false := fun i => frozen_of_row w3 _ i _ _ hq4
  have HT := Lib.hid (two (.slice A n c) (.int .i64 beat) hq4)
  have HRES : Hid (Below w.heap.size w ((w3.setCell ⟨w.heap.size + 1, 0, none⟩ (.slice A n c)).setCell ⟨w.heap.size + 1, 1, none⟩ (.int .i64 beat))) := ((HB1.out.trans (HB3.out.mono HB1.out.size)).setCell (by show w.heap.size ≤ w.heap.size + 1; omega) _).setCell (by show w.heap.size ≤ w.heap.size + 1; omega) _
  clear hq4
  go_wp2
  obtain ⟨e0, e1⟩ := HT.out
  exact bodyPost_ret (v := .tuple #[rV A n c beat, .int .u32 0, .int .i64 24]) (by simp [results, Try.results10, go_sem, e0, e1]) rfl ⟨A, c, rfl, (HR0.out.below HRES.out).mono HRES.out.size, HRES.out, .inl rfl⟩
set_option maxHeartbeats 4000000 in
theorem rdo5_o (A : Option Addr) (n c j y : Nat) (beat now s m a : Int) (l : List In) (w : World) (hn : n = l.length) (hR : Rs w w.heap.size A l) (hl : n ≤ 16) (hj : l[j]? = some (s, m, a)) (hs : s = 2) :
    Calls Try.prog 10 #[rV A n c beat, .int .u8 5, .int .u32 ((j + 1 : Nat) : Int), .int .u32 (y : Int), .int .i64 now] w (DPost A n beat (0, 0) (l.set j (1, 0, a)) w) := by
  subst hs
  obtain ⟨w0, hw0⟩ : ∃ w0, w0 = w.alloc (.cells (rC A n c beat) 27) := ⟨_, rfl⟩
  have hs0 : w0.heap.size = w.heap.size + 1 := by rw [hw0]; simp
  have hb0 : Below w.heap.size w w0 := by rw [hw0]; exact (Below.refl _ _).alloc (Nat.le_refl _) _
  have hq0 : w0.heap[w.heap.size]? = some (.cells (rC A n c beat) 27 (0, 0)) := by rw [hw0]; exact heap_alloc_new w _
  obtain ⟨w1, hw1⟩ : ∃ w1, w1 = w0.alloc (.cells #[.slice none 0 0, .int .i64 0] 27) := ⟨_, rfl⟩
  have hs1 : w1.heap.size = w.heap.size + 2 := by rw [hw1]; simp [hs0]
  have hb1 : Below w0.heap.size w0 w1 := by rw [hw1]; exact (Below.refl _ _).alloc (Nat.le_refl _) _
  have hq1 : w1.heap[w.heap.size + 1]? = some (.cells #[.slice none 0 0, .int .i64 0] 27 (0, 0)) := by rw [hw1, ← hs0]; exact heap_alloc_new w0 _
  have hq01 : w1.heap[w.heap.size]? = some (.cells (rC A n c beat) 27 (0, 0)) := (hb1.block _ (lt_of_block hq0)).trans hq0
  have HB1 : Hid (Below w.heap.size w w1) := hb0.trans (hb1.mono hb0.size)
  have HS1 := Lib.hid hs1
  have H1 : Hid (w1 = (w.alloc (.cells (rC A n c beat) 27)).alloc (.cells #[.slice none 0 0, .int .i64 0] 27)) := by simp only [Hid]; rw [hw1, hw0]
  have HC : Hid (∀ W, Below w1.heap.size w1 W → (W.cell? ⟨w.heap.size, 0, none⟩ = some (.slice A n c) ∧ W.cell? ⟨w.heap.size, 1, none⟩ = some (.int .i64 beat)) ∧ W.heap[w.heap.size + 1]? = some (.cells #[.slice none 0 0, .int .i64 0] 27 (0, 0))) := fun W hW => by
    have e := (hW.block _ (lt_of_block hq01)).trans hq01
    exact ⟨⟨cell_of_row W _ 0 _ _ _ e, cell_of_row W _ 1 _ _ _ e⟩, (hW.block _ (lt_of_block hq1)).trans hq1⟩
  have HR : Hid (Rs w1 w1.heap.size A l) := (hR.below HB1.out).mono HB1.out.size
  have HR0 := Lib.hid hR
  have HBR : Hid (Below w1.heap.size w1 w1) := Below.refl _ _
  have HG := Lib.hid (rget_there A n c j beat l 2 m a w1 hn HR.out hl hj)
  have HX : Hid (j < n) := by simp only [Hid]; rw [hn]; exact (List.getElem?_eq_some_iff.1 hj).1
  have HN := Lib.hid hn
  clear hw0 hs0 hb0 hq0 hw1 hs1 hb1 hq1 hq01 hR
  clear hj hn
  go_enter Try.func10, Try.ntmps10
  go_upto_region 1 with (fail)
  rw [← H1.out]
  obtain ⟨⟨p0, p1⟩, -⟩ := HC.out w1 HBR.out
  go_wp2_with fail
  refine HG.out.mono ?_
  rintro r w2 ⟨rfl, hb2⟩
  obtain ⟨w3, hw3⟩ : ∃ w3, w3 = w2.alloc (.cells (iC 2 m a) 61) := ⟨_, rfl⟩
  have HB3 : Hid (Below w1.heap.size w1 w3) := by rw [hw3]; exact hb2.alloc hb2.size _
  have hq3 : w3.heap[w2.heap.size]? = some (.cells (iC 2 m a) 61 (0, 0)) := by rw [hw3]; exact heap_alloc_new w2 _
  have HL2 : Hid (w1.heap.size ≤ w2.heap.size) := hb2.size
  have H3 := Lib.hid hw3
  have g0 := cell_of_row w3 w2.heap.size 0 _ _ _ hq3
  have g1 := cell_of_row w3 w2.heap.size 1 _ _ _ hq3
  have g2 := cell_of_row w3 w2.heap.size 2 _ _ _ hq3
  simp at g0 g1 g2
  clear hb2 hw3 p0 p1
  go_upto_region 2 with (fail)
  rw [← H3.out]
  clear hq3
  have HWT := Lib.hid (rwith_any A n c j beat 1 0 a l w3 HN.out ((HR.out.below HB3.out).mono HB3.out.size) hl HX.out)
  obtain ⟨⟨p0, p1⟩, -⟩ := HC.out w3 HB3.out
  go_wp2_with fail
  refine HWT.out.mono ?_
  rintro r w4 ⟨A4, c4, rfl, hR4, hb4, hge4⟩
  have HB4 : Hid (Below w1.heap.size w1 w4) := HB3.out.trans (hb4.mono HB3.out.size)
  have HR4 := Lib.hid hR4
  have HGE : Hid (∀ b o, A4 = some ⟨b, o, none⟩ → b ≠ w.heap.size + 1) := fun b o e => by have := hge4 b o e; have := HB3.out.size; have := HS1.out; omega
  have HGL : Hid (∀ b o, A4 = some ⟨b, o, none⟩ → w.heap.size ≤ b) := fun b o e => by have := hge4 b o e; have := HB3.out.size; have := HS1.out; omega
  clear hR4 hb4 hge4 p0 p1
  obtain ⟨-, hq4⟩ := HC.out w4 HB4.out
  have z0 := cell_of_row w4 (w.heap.size + 1) 0 _ _ _ hq4
  have z1 := cell_of_row w4 (w.heap.size + 1) 1 _ _ _ hq4
  simp at z0 z1
  have zf : ∀ i, w4.frozen? ⟨w.heap.size + 1, i, none⟩ = false := fun i => frozen_of_row w4 _ i _ _ hq4
  have HT := Lib.hid (two (.slice A4 n c4) (.int .i64 beat) hq4)
  have HRES : Hid (Rs ((w4.setCell ⟨w.heap.size + 1, 0, none⟩ (.slice A4 n c4)).setCell ⟨w.heap.size + 1, 1, none⟩ (.int .i64 beat)) ((w4.setCell ⟨w.heap.size + 1, 0, none⟩ (.slice A4 n c4)).setCell ⟨w.heap.size + 1, 1, none⟩ (.int .i64 beat)).heap.size A4 (l.set j (1, 0, a)) ∧ Below w.heap.size w ((w4.setCell ⟨w.heap.size + 1, 0, none⟩ (.slice A4 n c4)).setCell ⟨w.heap.size + 1, 1, none⟩ (.int .i64 beat))) :=
    ⟨(HR4.out.setCell HGE.out).setCell HGE.out, ((HB1.out.trans (HB4.out.mono HB1.out.size)).setCell (by show w.heap.size ≤ w.heap.size + 1; omega) _).setCell (by show w.heap.size ≤ w.heap.size + 1; omega) _⟩
  clear hq4
  go_wp2
  obtain ⟨e0, e1⟩ := HT.out
  exact bodyPost_ret (v := .tuple #[rV A4 n c4 beat, .int .u32 0, .int .i64 0]) (by simp [results, Try.results10, go_sem, e0, e1]) rfl ⟨A4, c4, rfl, HRES.out.1, HRES.out.2, .inr HGL.out⟩
set_option maxHeartbeats 4000000 in
theorem rdo6_e (A : Option Addr) (n c j y : Nat) (beat now s m a : Int) (l : List In) (w : World) (hn : n = l.length) (hR : Rs w w.heap.size A l) (hl : n ≤ 16) (hj : l[j]? = some (s, m, a)) (hs3 : ¬ s = 3) (hs4 : ¬ s = 4) :
    Calls Try.prog 10 #[rV A n c beat, .int .u8 6, .int .u32 ((j + 1 : Nat) : Int), .int .u32 (y : Int), .int .i64 now] w (DPost A n beat (0, 24) l w) := by
  obtain ⟨w0, hw0⟩ : ∃ w0, w0 = w.alloc (.cells (rC A n c beat) 27) := ⟨_, rfl⟩
  have hs0 : w0.heap.size = w.heap.size + 1 := by rw [hw0]; simp
  have hb0 : Below w.heap.size w w0 := by rw [hw0]; exact (Below.refl _ _).alloc (Nat.le_refl _) _
  have hq0 : w0.heap[w.heap.size]? = some (.cells (rC A n c beat) 27 (0, 0)) := by rw [hw0]; exact heap_alloc_new w _
  obtain ⟨w1, hw1⟩ : ∃ w1, w1 = w0.alloc (.cells #[.slice none 0 0, .int .i64 0] 27) := ⟨_, rfl⟩
  have hs1 : w1.heap.size = w.heap.size + 2 := by rw [hw1]; simp [hs0]
  have hb1 : Below w0.heap.size w0 w1 := by rw [hw1]; exact (Below.refl _ _).alloc (Nat.le_refl _) _
  have hq1 : w1.heap[w.heap.size + 1]? = some (.cells #[.slice none 0 0, .int .i64 0] 27 (0, 0)) := by rw [hw1, ← hs0]; exact heap_alloc_new w0 _
  have hq01 : w1.heap[w.heap.size]? = some (.cells (rC A n c beat) 27 (0, 0)) := (hb1.block _ (lt_of_block hq0)).trans hq0
  have HB1 : Hid (Below w.heap.size w w1) := hb0.trans (hb1.mono hb0.size)
  have HS1 := Lib.hid hs1
  have H1 : Hid (w1 = (w.alloc (.cells (rC A n c beat) 27)).alloc (.cells #[.slice none 0 0, .int .i64 0] 27)) := by simp only [Hid]; rw [hw1, hw0]
  have HC : Hid (∀ W, Below w1.heap.size w1 W → (W.cell? ⟨w.heap.size, 0, none⟩ = some (.slice A n c) ∧ W.cell? ⟨w.heap.size, 1, none⟩ = some (.int .i64 beat)) ∧ W.heap[w.heap.size + 1]? = some (.cells #[.slice none 0 0, .int .i64 0] 27 (0, 0))) := fun W hW => by
    have e := (hW.block _ (lt_of_block hq01)).trans hq01
    exact ⟨⟨cell_of_row W _ 0 _ _ _ e, cell_of_row W _ 1 _ _ _ e⟩, (hW.block _ (lt_of_block hq1)).trans hq1⟩
  have HR : Hid (Rs w1 w1.heap.size A l) := (hR.below HB1.out).mono HB1.out.size
  have HR0 := Lib.hid hR
  have HBR : Hid (Below w1.heap.size w1 w1) := Below.refl _ _
  have HG := Lib.hid (rget_there A n c j beat l s m a w1 hn HR.out hl hj)
  have HX : Hid (j < n) := by simp only [Hid]; rw [hn]; exact (List.getElem?_eq_some_iff.1 hj).1
  have HN := Lib.hid hn
  clear hw0 hs0 hb0 hq0 hw1 hs1 hb1 hq1 hq01 hR
  clear hj hn
  have hb3 : (s != 3) = true := by simpa using hs3
  have hb4 : (s != 4) = true := by simpa using hs4
  go_enter Try.func10, Try.ntmps10
  go_upto_region 1 with (fail)
  rw [← H1.out]
  obtain ⟨⟨p0, p1⟩, -⟩ := HC.out w1 HBR.out
  go_wp2_with fail
  refine HG.out.mono ?_
  rintro r w2 ⟨rfl, hb2⟩
  obtain ⟨w3, hw3⟩ : ∃ w3, w3 = w2.alloc (.cells (iC s m a) 61) := ⟨_, rfl⟩
  have HB3 : Hid (Below w1.heap.size w1 w3) := by rw [hw3]; exact hb2.alloc hb2.size _
  have hq3 : w3.heap[w2.heap.size]? = some (.cells (iC s m a) 61 (0, 0)) := by rw [hw3]; exact heap_alloc_new w2 _
  have HL2 : Hid (w1.heap.size ≤ w2.heap.size) := hb2.size
  have H3 := Lib.hid hw3
  have g0 := cell_of_row w3 w2.heap.size 0 _ _ _ hq3
  have g1 := cell_of_row w3 w2.heap.size 1 _ _ _ hq3
  have g2 := cell_of_row w3 w2.heap.size 2 _ _ _ hq3
  simp at g0 g1 g2
  clear hb2 hw3 p0 p1
  go_upto_region 2 with (fail)
  rw [← H3.out]
  clear hq3
  obtain ⟨⟨p0, p1⟩, hq4⟩ := HC.out w3 HB3.out
  have z0 := cell_of_row w3 (w.heap.size + 1) 0 _ _ _ hq4
  have z1 := cell_of_row w3 (w.heap.size + 1) 1 _ _ _ hq4
  simp at z0 z1
  have zf : ∀ i, w3.frozen? ⟨w.heap.size + 1, i, none⟩ = false := fun i => frozen_of_row w3 _ i _ _ hq4
  have HT := Lib.hid (two (.slice A n c) (.int .i64 beat) hq4)
  have HRES : Hid (Below w.heap.size w ((w3.setCell ⟨w.heap.size + 1, 0, none⟩ (.slice A n c)).setCell ⟨w.heap.size + 1, 1, none⟩ (.int .i64 beat))) := ((HB1.out.trans (HB3.out.mono HB1.out.size)).setCell (by show w.heap.size ≤ w.heap.size + 1; omega) _).setCell (by show w.heap.size ≤ w.heap.size + 1; omega) _
  clear hq4
  go_wp2
  obtain ⟨e0, e1⟩ := HT.out
  exact bodyPost_ret (v := .tuple #[rV A n c beat, .int .u32 0, .int .i64 24]) (by simp [results, Try.results10, go_sem, e0, e1]) rfl ⟨A, c, rfl, (HR0.out.below HRES.out).mono HRES.out.size, HRES.out, .inl rfl⟩
set_option maxHeartbeats 4000000 in
theorem rdo6_t (A : Option Addr) (n c j y : Nat) (beat now s m a : Int) (l : List In) (w : World) (hn : n = l.length) (hR : Rs w w.heap.size A l) (hl : n ≤ 16) (hj : l[j]? = some (s, m, a)) (hs : s = 3) :
    Calls Try.prog 10 #[rV A n c beat, .int .u8 6, .int .u32 ((j + 1 : Nat) : Int), .int .u32 (y : Int), .int .i64 now] w (DPost A n beat (0, 0) (l.set j (5, 0, a)) w) := by
  subst hs
  obtain ⟨w0, hw0⟩ : ∃ w0, w0 = w.alloc (.cells (rC A n c beat) 27) := ⟨_, rfl⟩
  have hs0 : w0.heap.size = w.heap.size + 1 := by rw [hw0]; simp
  have hb0 : Below w.heap.size w w0 := by rw [hw0]; exact (Below.refl _ _).alloc (Nat.le_refl _) _
  have hq0 : w0.heap[w.heap.size]? = some (.cells (rC A n c beat) 27 (0, 0)) := by rw [hw0]; exact heap_alloc_new w _
  obtain ⟨w1, hw1⟩ : ∃ w1, w1 = w0.alloc (.cells #[.slice none 0 0, .int .i64 0] 27) := ⟨_, rfl⟩
  have hs1 : w1.heap.size = w.heap.size + 2 := by rw [hw1]; simp [hs0]
  have hb1 : Below w0.heap.size w0 w1 := by rw [hw1]; exact (Below.refl _ _).alloc (Nat.le_refl _) _
  have hq1 : w1.heap[w.heap.size + 1]? = some (.cells #[.slice none 0 0, .int .i64 0] 27 (0, 0)) := by rw [hw1, ← hs0]; exact heap_alloc_new w0 _
  have hq01 : w1.heap[w.heap.size]? = some (.cells (rC A n c beat) 27 (0, 0)) := (hb1.block _ (lt_of_block hq0)).trans hq0
  have HB1 : Hid (Below w.heap.size w w1) := hb0.trans (hb1.mono hb0.size)
  have HS1 := Lib.hid hs1
  have H1 : Hid (w1 = (w.alloc (.cells (rC A n c beat) 27)).alloc (.cells #[.slice none 0 0, .int .i64 0] 27)) := by simp only [Hid]; rw [hw1, hw0]
  have HC : Hid (∀ W, Below w1.heap.size w1 W → (W.cell? ⟨w.heap.size, 0, none⟩ = some (.slice A n c) ∧ W.cell? ⟨w.heap.size, 1, none⟩ = some (.int .i64 beat)) ∧ W.heap[w.heap.size + 1]? = some (.cells #[.slice none 0 0, .int .i64 0] 27 (0, 0))) := fun W hW => by
    have e := (hW.block _ (lt_of_block hq01)).trans hq01
    exact ⟨⟨cell_of_row W _ 0 _ _ _ e, cell_of_row W _ 1 _ _ _ e⟩, (hW.block _ (lt_of_block hq1)).trans hq1⟩
  have HR : Hid (Rs w1 w1.heap.size A l) := (hR.below HB1.out).mono HB1.out.size
  have HR0 := Lib.hid hR
  have HBR : Hid (Below w1.heap.size w1 w1) := Below.refl _ _
  have HG := Lib.hid (rget_there A n c j beat l 3 m a w1 hn HR.out hl hj)
  have HX : Hid (j < n) := by simp only [Hid]; rw [hn]; exact (List.getElem?_eq_some_iff.1 hj).1
  have HN := Lib.hid hn
  clear hw0 hs0 hb0 hq0 hw1 hs1 hb1 hq1 hq01 hR
  clear hj hn
  go_enter Try.func10, Try.ntmps10
  go_upto_region 1 with (fail)
  rw [← H1.out]
  obtain ⟨⟨p0, p1⟩, -⟩ := HC.out w1 HBR.out
  go_wp2_with fail
  refine HG.out.mono ?_
  rintro r w2 ⟨rfl, hb2⟩
  obtain ⟨w3, hw3⟩ : ∃ w3, w3 = w2.alloc (.cells (iC 3 m a) 61) := ⟨_, rfl⟩
  have HB3 : Hid (Below w1.heap.size w1 w3) := by rw [hw3]; exact hb2.alloc hb2.size _
  have hq3 : w3.heap[w2.heap.size]? = some (.cells (iC 3 m a) 61 (0, 0)) := by rw [hw3]; exact heap_alloc_new w2 _
  have HL2 : Hid (w1.heap.size ≤ w2.heap.size) := hb2.size
  have H3 := Lib.hid hw3
  have g0 := cell_of_row w3 w2.heap.size 0 _ _ _ hq3
  have g1 := cell_of_row w3 w2.heap.size 1 _ _ _ hq3
  have g2 := cell_of_row w3 w2.heap.size 2 _ _ _ hq3
  simp at g0 g1 g2
  clear hb2 hw3 p0 p1
  go_upto_region 2 with (fail)
  rw [← H3.out]
  clear hq3
  have HWT := Lib.hid (rwith_any A n c j beat 5 0 a l w3 HN.out ((HR.out.below HB3.out).mono HB3.out.size) hl HX.out)
  obtain ⟨⟨p0, p1⟩, -⟩ := HC.out w3 HB3.out
  go_wp2_with fail
  refine HWT.out.mono ?_
  rintro r w4 ⟨A4, c4, rfl, hR4, hb4, hge4⟩
  have HB4 : Hid (Below w1.heap.size w1 w4) := HB3.out.trans (hb4.mono HB3.out.size)
  have HR4 := Lib.hid hR4
  have HGE : Hid (∀ b o, A4 = some ⟨b, o, none⟩ → b ≠ w.heap.size + 1) := fun b o e => by have := hge4 b o e; have := HB3.out.size; have := HS1.out; omega
  have HGL : Hid (∀ b o, A4 = some ⟨b, o, none⟩ → w.heap.size ≤ b) := fun b o e => by have := hge4 b o e; have := HB3.out.size; have := HS1.out; omega
  clear hR4 hb4 hge4 p0 p1
  obtain ⟨-, hq4⟩ := HC.out w4 HB4.out
  have z0 := cell_of_row w4 (w.heap.size + 1) 0 _ _ _ hq4
  have z1 := cell_of_row w4 (w.heap.size + 1) 1 _ _ _ hq4
  simp at z0 z1
  have zf : ∀ i, w4.frozen? ⟨w.heap.size + 1, i, none⟩ = false := fun i => frozen_of_row w4 _ i _ _ hq4
  have HT := Lib.hid (two (.slice A4 n c4) (.int .i64 beat) hq4)
  have HRES : Hid (Rs ((w4.setCell ⟨w.heap.size + 1, 0, none⟩ (.slice A4 n c4)).setCell ⟨w.heap.size + 1, 1, none⟩ (.int .i64 beat)) ((w4.setCell ⟨w.heap.size + 1, 0, none⟩ (.slice A4 n c4)).setCell ⟨w.heap.size + 1, 1, none⟩ (.int .i64 beat)).heap.size A4 (l.set j (5, 0, a)) ∧ Below w.heap.size w ((w4.setCell ⟨w.heap.size + 1, 0, none⟩ (.slice A4 n c4)).setCell ⟨w.heap.size + 1, 1, none⟩ (.int .i64 beat))) :=
    ⟨(HR4.out.setCell HGE.out).setCell HGE.out, ((HB1.out.trans (HB4.out.mono HB1.out.size)).setCell (by show w.heap.size ≤ w.heap.size + 1; omega) _).setCell (by show w.heap.size ≤ w.heap.size + 1; omega) _⟩
  clear hq4
  go_wp2
  obtain ⟨e0, e1⟩ := HT.out
  exact bodyPost_ret (v := .tuple #[rV A4 n c4 beat, .int .u32 0, .int .i64 0]) (by simp [results, Try.results10, go_sem, e0, e1]) rfl ⟨A4, c4, rfl, HRES.out.1, HRES.out.2, .inr HGL.out⟩
set_option maxHeartbeats 4000000 in
theorem rdo6_o (A : Option Addr) (n c j y : Nat) (beat now s m a : Int) (l : List In) (w : World) (hn : n = l.length) (hR : Rs w w.heap.size A l) (hl : n ≤ 16) (hj : l[j]? = some (s, m, a)) (hs : s = 4) :
    Calls Try.prog 10 #[rV A n c beat, .int .u8 6, .int .u32 ((j + 1 : Nat) : Int), .int .u32 (y : Int), .int .i64 now] w (DPost A n beat (0, 0) (l.set j (5, 0, a)) w) := by
  subst hs
  obtain ⟨w0, hw0⟩ : ∃ w0, w0 = w.alloc (.cells (rC A n c beat) 27) := ⟨_, rfl⟩
  have hs0 : w0.heap.size = w.heap.size + 1 := by rw [hw0]; simp
  have hb0 : Below w.heap.size w w0 := by rw [hw0]; exact (Below.refl _ _).alloc (Nat.le_refl _) _
  have hq0 : w0.heap[w.heap.size]? = some (.cells (rC A n c beat) 27 (0, 0)) := by rw [hw0]; exact heap_alloc_new w _
  obtain ⟨w1, hw1⟩ : ∃ w1, w1 = w0.alloc (.cells #[.slice none 0 0, .int .i64 0] 27) := ⟨_, rfl⟩
  have hs1 : w1.heap.size = w.heap.size + 2 := by rw [hw1]; simp [hs0]
  have hb1 : Below w0.heap.size w0 w1 := by rw [hw1]; exact (Below.refl _ _).alloc (Nat.le_refl _) _
  have hq1 : w1.heap[w.heap.size + 1]? = some (.cells #[.slice none 0 0, .int .i64 0] 27 (0, 0)) := by rw [hw1, ← hs0]; exact heap_alloc_new w0 _
  have hq01 : w1.heap[w.heap.size]? = some (.cells (rC A n c beat) 27 (0, 0)) := (hb1.block _ (lt_of_block hq0)).trans hq0
  have HB1 : Hid (Below w.heap.size w w1) := hb0.trans (hb1.mono hb0.size)
  have HS1 := Lib.hid hs1
  have H1 : Hid (w1 = (w.alloc (.cells (rC A n c beat) 27)).alloc (.cells #[.slice none 0 0, .int .i64 0] 27)) := by simp only [Hid]; rw [hw1, hw0]
  have HC : Hid (∀ W, Below w1.heap.size w1 W → (W.cell? ⟨w.heap.size, 0, none⟩ = some (.slice A n c) ∧ W.cell? ⟨w.heap.size, 1, none⟩ = some (.int .i64 beat)) ∧ W.heap[w.heap.size + 1]? = some (.cells #[.slice none 0 0, .int .i64 0] 27 (0, 0))) := fun W hW => by
    have e := (hW.block _ (lt_of_block hq01)).trans hq01
    exact ⟨⟨cell_of_row W _ 0 _ _ _ e, cell_of_row W _ 1 _ _ _ e⟩, (hW.block _ (lt_of_block hq1)).trans hq1⟩
  have HR : Hid (Rs w1 w1.heap.size A l) := (hR.below HB1.out).mono HB1.out.size
  have HR0 := Lib.hid hR
  have HBR : Hid (Below w1.heap.size w1 w1) := Below.refl _ _
  have HG := Lib.hid (rget_there A n c j beat l 4 m a w1 hn HR.out hl hj)
  have HX : Hid (j < n) := by simp only [Hid]; rw [hn]; exact (List.getElem?_eq_some_iff.1 hj).1
  have HN := Lib.hid hn
  clear hw0 hs0 hb0 hq0 hw1 hs1 hb1 hq1 hq01 hR
  clear hj hn
  go_enter Try.func10, Try.ntmps10
  go_upto_region 1 with (fail)
  rw [← H1.out]
  obtain ⟨⟨p0, p1⟩, -⟩ := HC.out w1 HBR.out
  go_wp2_with fail
  refine HG.out.mono ?_
  rintro r w2 ⟨rfl, hb2⟩
  obtain ⟨w3, hw3⟩ : ∃ w3, w3 = w2.alloc (.cells (iC 4 m a) 61) := ⟨_, rfl⟩
  have HB3 : Hid (Below w1.heap.size w1 w3) := by rw [hw3]; exact hb2.alloc hb2.size _
  have hq3 : w3.heap[w2.heap.size]? = some (.cells (iC 4 m a) 61 (0, 0)) := by rw [hw3]; exact heap_alloc_new w2 _
  have HL2 : Hid (w1.heap.size ≤ w2.heap.size) := hb2.size
  have H3 := Lib.hid hw3
  have g0 := cell_of_row w3 w2.heap.size 0 _ _ _ hq3
  have g1 := cell_of_row w3 w2.heap.size 1 _ _ _ hq3
  have g2 := cell_of_row w3 w2.heap.size 2 _ _ _ hq3
  simp at g0 g1 g2
  clear hb2 hw3 p0 p1
  go_upto_region 2 with (fail)
  rw [← H3.out]
  clear hq3
  have HWT := Lib.hid (rwith_any A n c j beat 5 0 a l w3 HN.out ((HR.out.below HB3.out).mono HB3.out.size) hl HX.out)
  obtain ⟨⟨p0, p1⟩, -⟩ := HC.out w3 HB3.out
  go_wp2_with fail
  refine HWT.out.mono ?_
  rintro r w4 ⟨A4, c4, rfl, hR4, hb4, hge4⟩
  have HB4 : Hid (Below w1.heap.size w1 w4) := HB3.out.trans (hb4.mono HB3.out.size)
  have HR4 := Lib.hid hR4
  have HGE : Hid (∀ b o, A4 = some ⟨b, o, none⟩ → b ≠ w.heap.size + 1) := fun b o e => by have := hge4 b o e; have := HB3.out.size; have := HS1.out; omega
  have HGL : Hid (∀ b o, A4 = some ⟨b, o, none⟩ → w.heap.size ≤ b) := fun b o e => by have := hge4 b o e; have := HB3.out.size; have := HS1.out; omega
  clear hR4 hb4 hge4 p0 p1
  obtain ⟨-, hq4⟩ := HC.out w4 HB4.out
  have z0 := cell_of_row w4 (w.heap.size + 1) 0 _ _ _ hq4
  have z1 := cell_of_row w4 (w.heap.size + 1) 1 _ _ _ hq4
  simp at z0 z1
  have zf : ∀ i, w4.frozen? ⟨w.heap.size + 1, i, none⟩ = false := fun i => frozen_of_row w4 _ i _ _ hq4
  have HT := Lib.hid (two (.slice A4 n c4) (.int .i64 beat) hq4)
  have HRES : Hid (Rs ((w4.setCell ⟨w.heap.size + 1, 0, none⟩ (.slice A4 n c4)).setCell ⟨w.heap.size + 1, 1, none⟩ (.int .i64 beat)) ((w4.setCell ⟨w.heap.size + 1, 0, none⟩ (.slice A4 n c4)).setCell ⟨w.heap.size + 1, 1, none⟩ (.int .i64 beat)).heap.size A4 (l.set j (5, 0, a)) ∧ Below w.heap.size w ((w4.setCell ⟨w.heap.size + 1, 0, none⟩ (.slice A4 n c4)).setCell ⟨w.heap.size + 1, 1, none⟩ (.int .i64 beat))) :=
    ⟨(HR4.out.setCell HGE.out).setCell HGE.out, ((HB1.out.trans (HB4.out.mono HB1.out.size)).setCell (by show w.heap.size ≤ w.heap.size + 1; omega) _).setCell (by show w.heap.size ≤ w.heap.size + 1; omega) _⟩
  clear hq4
  go_wp2
  obtain ⟨e0, e1⟩ := HT.out
  exact bodyPost_ret (v := .tuple #[rV A4 n c4 beat, .int .u32 0, .int .i64 0]) (by simp [results, Try.results10, go_sem, e0, e1]) rfl ⟨A4, c4, rfl, HRES.out.1, HRES.out.2, .inr HGL.out⟩
set_option maxHeartbeats 4000000 in
theorem rdo7_e (A : Option Addr) (n c j y : Nat) (beat now s m a : Int) (l : List In) (w : World) (hn : n = l.length) (hR : Rs w w.heap.size A l) (hl : n ≤ 16) (hj : l[j]? = some (s, m, a)) (hs : ¬ s = 5) :
    Calls Try.prog 10 #[rV A n c beat, .int .u8 7, .int .u32 ((j + 1 : Nat) : Int), .int .u32 (y : Int), .int .i64 now] w (DPost A n beat (0, 24) l w) := by
  obtain ⟨w0, hw0⟩ : ∃ w0, w0 = w.alloc (.cells (rC A n c beat) 27) := ⟨_, rfl⟩
  have hs0 : w0.heap.size = w.heap.size + 1 := by rw [hw0]; simp
  have hb0 : Below w.heap.size w w0 := by rw [hw0]; exact (Below.refl _ _).alloc (Nat.le_refl _) _
  have hq0 : w0.heap[w.heap.size]? = some (.cells (rC A n c beat) 27 (0, 0)) := by rw [hw0]; exact heap_alloc_new w _
  obtain ⟨w1, hw1⟩ : ∃ w1, w1 = w0.alloc (.cells #[.slice none 0 0, .int .i64 0] 27) := ⟨_, rfl⟩
  have hs1 : w1.heap.size = w.heap.size + 2 := by rw [hw1]; simp [hs0]
  have hb1 : Below w0.heap.size w0 w1 := by rw [hw1]; exact (Below.refl _ _).alloc (Nat.le_refl _) _
  have hq1 : w1.heap[w.heap.size + 1]? = some (.cells #[.slice none 0 0, .int .i64 0] 27 (0, 0)) := by rw [hw1, ← hs0]; exact heap_alloc_new w0 _
  have hq01 : w1.heap[w.heap.size]? = some (.cells (rC A n c beat) 27 (0, 0)) := (hb1.block _ (lt_of_block hq0)).trans hq0
  have HB1 : Hid (Below w.heap.size w w1) := hb0.trans (hb1.mono hb0.size)
  have HS1 := Lib.hid hs1
  have H1 : Hid (w1 = (w.alloc (.cells (rC A n c beat) 27)).alloc (.cells #[.slice none 0 0, .int .i64 0] 27)) := by simp only [Hid]; rw [hw1, hw0]
  have HC : Hid (∀ W, Below w1.heap.size w1 W → (W.cell? ⟨w.heap.size, 0, none⟩ = some (.slice A n c) ∧ W.cell? ⟨w.heap.size, 1, none⟩ = some (.int .i64 beat)) ∧ W.heap[w.heap.size + 1]? = some (.cells #[.slice none 0 0, .int .i64 0] 27 (0, 0))) := fun W hW => by
    have e := (hW.block _ (lt_of_block hq01)).trans hq01
    exact ⟨⟨cell_of_row W _ 0 _ _ _ e, cell_of_row W _ 1 _ _ _ e⟩, (hW.block _ (lt_of_block hq1)).trans hq1⟩
  have HR : Hid (Rs w1 w1.heap.size A l) := (hR.below HB1.out).mono HB1.out.size
  have HR0 := Lib.hid hR
  have HBR : Hid (Below w1.heap.size w1 w1) := Below.refl _ _
  have HG := Lib.hid (rget_there A n c j beat l s m a w1 hn HR.out hl hj)
  have HX : Hid (j < n) := by simp only [Hid]; rw [hn]; exact (List.getElem?_eq_some_iff.1 hj).1
  have HN := Lib.hid hn
  clear hw0 hs0 hb0 hq0 hw1 hs1 hb1 hq1 hq01 hR
  clear hj hn
  go_enter Try.func10, Try.ntmps10
  go_upto_region 1 with (fail)
  rw [← H1.out]
  obtain ⟨⟨p0, p1⟩, -⟩ := HC.out w1 HBR.out
  go_wp2_with fail
  refine HG.out.mono ?_
  rintro r w2 ⟨rfl, hb2⟩
  obtain ⟨w3, hw3⟩ : ∃ w3, w3 = w2.alloc (.cells (iC s m a) 61) := ⟨_, rfl⟩
  have HB3 : Hid (Below w1.heap.size w1 w3) := by rw [hw3]; exact hb2.alloc hb2.size _
  have hq3 : w3.heap[w2.heap.size]? = some (.cells (iC s m a) 61 (0, 0)) := by rw [hw3]; exact heap_alloc_new w2 _
  have HL2 : Hid (w1.heap.size ≤ w2.heap.size) := hb2.size
  have H3 := Lib.hid hw3
  have g0 := cell_of_row w3 w2.heap.size 0 _ _ _ hq3
  have g1 := cell_of_row w3 w2.heap.size 1 _ _ _ hq3
  have g2 := cell_of_row w3 w2.heap.size 2 _ _ _ hq3
  simp at g0 g1 g2
  clear hb2 hw3 p0 p1
  go_upto_region 2 with (fail)
  rw [← H3.out]
  clear hq3
  obtain ⟨⟨p0, p1⟩, hq4⟩ := HC.out w3 HB3.out
  have z0 := cell_of_row w3 (w.heap.size + 1) 0 _ _ _ hq4
  have z1 := cell_of_row w3 (w.heap.size + 1) 1 _ _ _ hq4
  simp at z0 z1
  have zf : ∀ i, w3.frozen? ⟨w.heap.size + 1, i, none⟩ = false := fun i => frozen_of_row w3 _ i _ _ hq4
  have HT := Lib.hid (two (.slice A n c) (.int .i64 beat) hq4)
  have HRES : Hid (Below w.heap.size w ((w3.setCell ⟨w.heap.size + 1, 0, none⟩ (.slice A n c)).setCell ⟨w.heap.size + 1, 1, none⟩ (.int .i64 beat))) := ((HB1.out.trans (HB3.out.mono HB1.out.size)).setCell (by show w.heap.size ≤ w.heap.size + 1; omega) _).setCell (by show w.heap.size ≤ w.heap.size + 1; omega) _
  clear hq4
  go_wp2
  obtain ⟨e0, e1⟩ := HT.out
  exact bodyPost_ret (v := .tuple #[rV A n c beat, .int .u32 0, .int .i64 24]) (by simp [results, Try.results10, go_sem, e0, e1]) rfl ⟨A, c, rfl, (HR0.out.below HRES.out).mono HRES.out.size, HRES.out, .inl rfl⟩
set_option maxHeartbeats 4000000 in
theorem rdo7_o (A : Option Addr) (n c j y : Nat) (beat now s m a : Int) (l : List In) (w : World) (hn : n = l.length) (hR : Rs w w.heap.size A l) (hl : n ≤ 16) (hj : l[j]? = some (s, m, a)) (hs : s = 5) :
    Calls Try.prog 10 #[rV A n c beat, .int .u8 7, .int .u32 ((j + 1 : Nat) : Int), .int .u32 (y : Int), .int .i64 now] w (DPost A n beat (0, 0) (l.set j (1, 0, now)) w) := by
  subst hs
  obtain ⟨w0, hw0⟩ : ∃ w0, w0 = w.alloc (.cells (rC A n c beat) 27) := ⟨_, rfl⟩
  have hs0 : w0.heap.size = w.heap.size + 1 := by rw [hw0]; simp
  have hb0 : Below w.heap.size w w0 := by rw [hw0]; exact (Below.refl _ _).alloc (Nat.le_refl _) _
  have hq0 : w0.heap[w.heap.size]? = some (.cells (rC A n c beat) 27 (0, 0)) := by rw [hw0]; exact heap_alloc_new w _
  obtain ⟨w1, hw1⟩ : ∃ w1, w1 = w0.alloc (.cells #[.slice none 0 0, .int .i64 0] 27) := ⟨_, rfl⟩
  have hs1 : w1.heap.size = w.heap.size + 2 := by rw [hw1]; simp [hs0]
  have hb1 : Below w0.heap.size w0 w1 := by rw [hw1]; exact (Below.refl _ _).alloc (Nat.le_refl _) _
  have hq1 : w1.heap[w.heap.size + 1]? = some (.cells #[.slice none 0 0, .int .i64 0] 27 (0, 0)) := by rw [hw1, ← hs0]; exact heap_alloc_new w0 _
  have hq01 : w1.heap[w.heap.size]? = some (.cells (rC A n c beat) 27 (0, 0)) := (hb1.block _ (lt_of_block hq0)).trans hq0
  have HB1 : Hid (Below w.heap.size w w1) := hb0.trans (hb1.mono hb0.size)
  have HS1 := Lib.hid hs1
  have H1 : Hid (w1 = (w.alloc (.cells (rC A n c beat) 27)).alloc (.cells #[.slice none 0 0, .int .i64 0] 27)) := by simp only [Hid]; rw [hw1, hw0]
  have HC : Hid (∀ W, Below w1.heap.size w1 W → (W.cell? ⟨w.heap.size, 0, none⟩ = some (.slice A n c) ∧ W.cell? ⟨w.heap.size, 1, none⟩ = some (.int .i64 beat)) ∧ W.heap[w.heap.size + 1]? = some (.cells #[.slice none 0 0, .int .i64 0] 27 (0, 0))) := fun W hW => by
    have e := (hW.block _ (lt_of_block hq01)).trans hq01
    exact ⟨⟨cell_of_row W _ 0 _ _ _ e, cell_of_row W _ 1 _ _ _ e⟩, (hW.block _ (lt_of_block hq1)).trans hq1⟩
  have HR : Hid (Rs w1 w1.heap.size A l) := (hR.below HB1.out).mono HB1.out.size
  have HR0 := Lib.hid hR
  have HBR : Hid (Below w1.heap.size w1 w1) := Below.refl _ _
  have HG := Lib.hid (rget_there A n c j beat l 5 m a w1 hn HR.out hl hj)
  have HX : Hid (j < n) := by simp only [Hid]; rw [hn]; exact (List.getElem?_eq_some_iff.1 hj).1
  have HN := Lib.hid hn
  clear hw0 hs0 hb0 hq0 hw1 hs1 hb1 hq1 hq01 hR
  clear hj hn
  go_enter Try.func10, Try.ntmps10
  go_upto_region 1 with (fail)
  rw [← H1.out]
  obtain ⟨⟨p0, p1⟩, -⟩ := HC.out w1 HBR.out
  go_wp2_with fail
  refine HG.out.mono ?_
  rintro r w2 ⟨rfl, hb2⟩
  obtain ⟨w3, hw3⟩ : ∃ w3, w3 = w2.alloc (.cells (iC 5 m a) 61) := ⟨_, rfl⟩
  have HB3 : Hid (Below w1.heap.size w1 w3) := by rw [hw3]; exact hb2.alloc hb2.size _
  have hq3 : w3.heap[w2.heap.size]? = some (.cells (iC 5 m a) 61 (0, 0)) := by rw [hw3]; exact heap_alloc_new w2 _
  have HL2 : Hid (w1.heap.size ≤ w2.heap.size) := hb2.size
  have H3 := Lib.hid hw3
  have g0 := cell_of_row w3 w2.heap.size 0 _ _ _ hq3
  have g1 := cell_of_row w3 w2.heap.size 1 _ _ _ hq3
  have g2 := cell_of_row w3 w2.heap.size 2 _ _ _ hq3
  simp at g0 g1 g2
  clear hb2 hw3 p0 p1
  go_upto_region 2 with (fail)
  rw [← H3.out]
  clear hq3
  have HWT := Lib.hid (rwith_any A n c j beat 1 0 now l w3 HN.out ((HR.out.below HB3.out).mono HB3.out.size) hl HX.out)
  obtain ⟨⟨p0, p1⟩, -⟩ := HC.out w3 HB3.out
  go_wp2_with fail
  refine HWT.out.mono ?_
  rintro r w4 ⟨A4, c4, rfl, hR4, hb4, hge4⟩
  have HB4 : Hid (Below w1.heap.size w1 w4) := HB3.out.trans (hb4.mono HB3.out.size)
  have HR4 := Lib.hid hR4
  have HGE : Hid (∀ b o, A4 = some ⟨b, o, none⟩ → b ≠ w.heap.size + 1) := fun b o e => by have := hge4 b o e; have := HB3.out.size; have := HS1.out; omega
  have HGL : Hid (∀ b o, A4 = some ⟨b, o, none⟩ → w.heap.size ≤ b) := fun b o e => by have := hge4 b o e; have := HB3.out.size; have := HS1.out; omega
  clear hR4 hb4 hge4 p0 p1
  obtain ⟨-, hq4⟩ := HC.out w4 HB4.out
  have z0 := cell_of_row w4 (w.heap.size + 1) 0 _ _ _ hq4
  have z1 := cell_of_row w4 (w.heap.size + 1) 1 _ _ _ hq4
  simp at z0 z1
  have zf : ∀ i, w4.frozen? ⟨w.heap.size + 1, i, none⟩ = false := fun i => frozen_of_row w4 _ i _ _ hq4
  have HT := Lib.hid (two (.slice A4 n c4) (.int .i64 beat) hq4)
  have HRES : Hid (Rs ((w4.setCell ⟨w.heap.size + 1, 0, none⟩ (.slice A4 n c4)).setCell ⟨w.heap.size + 1, 1, none⟩ (.int .i64 beat)) ((w4.setCell ⟨w.heap.size + 1, 0, none⟩ (.slice A4 n c4)).setCell ⟨w.heap.size + 1, 1, none⟩ (.int .i64 beat)).heap.size A4 (l.set j (1, 0, now)) ∧ Below w.heap.size w ((w4.setCell ⟨w.heap.size + 1, 0, none⟩ (.slice A4 n c4)).setCell ⟨w.heap.size + 1, 1, none⟩ (.int .i64 beat))) :=
    ⟨(HR4.out.setCell HGE.out).setCell HGE.out, ((HB1.out.trans (HB4.out.mono HB1.out.size)).setCell (by show w.heap.size ≤ w.heap.size + 1; omega) _).setCell (by show w.heap.size ≤ w.heap.size + 1; omega) _⟩
  clear hq4
  go_wp2
  obtain ⟨e0, e1⟩ := HT.out
  exact bodyPost_ret (v := .tuple #[rV A4 n c4 beat, .int .u32 0, .int .i64 0]) (by simp [results, Try.results10, go_sem, e0, e1]) rfl ⟨A4, c4, rfl, HRES.out.1, HRES.out.2, .inr HGL.out⟩
set_option maxHeartbeats 4000000 in
theorem rdo8_e (A : Option Addr) (n c j y : Nat) (d : Int) (n0 : ¬ d = 0) (n1 : ¬ d = 1) (n2 : ¬ d = 2) (n3 : ¬ d = 3) (n4 : ¬ d = 4) (n5 : ¬ d = 5) (n6 : ¬ d = 6) (n7 : ¬ d = 7) (beat now s m a : Int) (l : List In) (w : World) (hn : n = l.length) (hR : Rs w w.heap.size A l) (hl : n ≤ 16) (hj : l[j]? = some (s, m, a)) (hs : s = 0) :
    Calls Try.prog 10 #[rV A n c beat, .int .u8 d, .int .u32 ((j + 1 : Nat) : Int), .int .u32 (y : Int), .int .i64 now] w (DPost A n beat (0, 24) l w) := by
  subst hs
  obtain ⟨w0, hw0⟩ : ∃ w0, w0 = w.alloc (.cells (rC A n c beat) 27) := ⟨_, rfl⟩
  have hs0 : w0.heap.size = w.heap.size + 1 := by rw [hw0]; simp
  have hb0 : Below w.heap.size w w0 := by rw [hw0]; exact (Below.refl _ _).alloc (Nat.le_refl _) _
  have hq0 : w0.heap[w.heap.size]? = some (.cells (rC A n c beat) 27 (0, 0)) := by rw [hw0]; exact heap_alloc_new w _
  obtain ⟨w1, hw1⟩ : ∃ w1, w1 = w0.alloc (.cells #[.slice none 0 0, .int .i64 0] 27) := ⟨_, rfl⟩
  have hs1 : w1.heap.size = w.heap.size + 2 := by rw [hw1]; simp [hs0]
  have hb1 : Below w0.heap.size w0 w1 := by rw [hw1]; exact (Below.refl _ _).alloc (Nat.le_refl _) _
  have hq1 : w1.heap[w.heap.size + 1]? = some (.cells #[.slice none 0 0, .int .i64 0] 27 (0, 0)) := by rw [hw1, ← hs0]; exact heap_alloc_new w0 _
  have hq01 : w1.heap[w.heap.size]? = some (.cells (rC A n c beat) 27 (0, 0)) := (hb1.block _ (lt_of_block hq0)).trans hq0
  have HB1 : Hid (Below w.heap.size w w1) := hb0.trans (hb1.mono hb0.size)
  have HS1 := Lib.hid hs1
  have H1 : Hid (w1 = (w.alloc (.cells (rC A n c beat) 27)).alloc (.cells #[.slice none 0 0, .int .i64 0] 27)) := by simp only [Hid]; rw [hw1, hw0]
  have HC : Hid (∀ W, Below w1.heap.size w1 W → (W.cell? ⟨w.heap.size, 0, none⟩ = some (.slice A n c) ∧ W.cell? ⟨w.heap.size, 1, none⟩ = some (.int .i64 beat)) ∧ W.heap[w.heap.size + 1]? = some (.cells #[.slice none 0 0, .int .i64 0] 27 (0, 0))) := fun W hW => by
    have e := (hW.block _ (lt_of_block hq01)).trans hq01
    exact ⟨⟨cell_of_row W _ 0 _ _ _ e, cell_of_row W _ 1 _ _ _ e⟩, (hW.block _ (lt_of_block hq1)).trans hq1⟩
  have HR : Hid (Rs w1 w1.heap.size A l) := (hR.below HB1.out).mono HB1.out.size
  have HR0 := Lib.hid hR
  have HBR : Hid (Below w1.heap.size w1 w1) := Below.refl _ _
  have HG := Lib.hid (rget_there A n c j beat l 0 m a w1 hn HR.out hl hj)
  have HX : Hid (j < n) := by simp only [Hid]; rw [hn]; exact (List.getElem?_eq_some_iff.1 hj).1
  have HN := Lib.hid hn
  clear hw0 hs0 hb0 hq0 hw1 hs1 hb1 hq1 hq01 hR
  clear hj hn
  go_enter Try.func10, Try.ntmps10
  go_upto_region 1 with (fail)
  rw [← H1.out]
  obtain ⟨⟨p0, p1⟩, -⟩ := HC.out w1 HBR.out
  go_wp2_with fail
  refine HG.out.mono ?_
  rintro r w2 ⟨rfl, hb2⟩
  obtain ⟨w3, hw3⟩ : ∃ w3, w3 = w2.alloc (.cells (iC 0 m a) 61) := ⟨_, rfl⟩
  have HB3 : Hid (Below w1.heap.size w1 w3) := by rw [hw3]; exact hb2.alloc hb2.size _
  have hq3 : w3.heap[w2.heap.size]? = some (.cells (iC 0 m a) 61 (0, 0)) := by rw [hw3]; exact heap_alloc_new w2 _
  have HL2 : Hid (w1.heap.size ≤ w2.heap.size) := hb2.size
  have H3 := Lib.hid hw3
  have g0 := cell_of_row w3 w2.heap.size 0 _ _ _ hq3
  have g1 := cell_of_row w3 w2.heap.size 1 _ _ _ hq3
  have g2 := cell_of_row w3 w2.heap.size 2 _ _ _ hq3
  simp at g0 g1 g2
  clear hb2 hw3 p0 p1
  go_upto_region 2 with (fail)
  rw [← H3.out]
  clear hq3
  obtain ⟨⟨p0, p1⟩, hq4⟩ := HC.out w3 HB3.out
  have z0 := cell_of_row w3 (w.heap.size + 1) 0 _ _ _ hq4
  have z1 := cell_of_row w3 (w.heap.size + 1) 1 _ _ _ hq4
  simp at z0 z1
  have zf : ∀ i, w3.frozen? ⟨w.heap.size + 1, i, none⟩ = false := fun i => frozen_of_row w3 _ i _ _ hq4
  have HT := Lib.hid (two (.slice A n c) (.int .i64 beat) hq4)
  have HRES : Hid (Below w.heap.size w ((w3.setCell ⟨w.heap.size + 1, 0, none⟩ (.slice A n c)).setCell ⟨w.heap.size + 1, 1, none⟩ (.int .i64 beat))) := ((HB1.out.trans (HB3.out.mono HB1.out.size)).setCell (by show w.heap.size ≤ w.heap.size + 1; omega) _).setCell (by show w.heap.size ≤ w.heap.size + 1; omega) _
  clear hq4
  go_wp2
  obtain ⟨e0, e1⟩ := HT.out
  exact bodyPost_ret (v := .tuple #[rV A n c beat, .int .u32 0, .int .i64 24]) (by simp [results, Try.results10, go_sem, e0, e1]) rfl ⟨A, c, rfl, (HR0.out.below HRES.out).mono HRES.out.size, HRES.out, .inl rfl⟩
set_option maxHeartbeats 4000000 in
theorem rdo8_o (A : Option Addr) (n c j y : Nat) (d : Int) (n0 : ¬ d = 0) (n1 : ¬ d = 1) (n2 : ¬ d = 2) (n3 : ¬ d = 3) (n4 : ¬ d = 4) (n5 : ¬ d = 5) (n6 : ¬ d = 6) (n7 : ¬ d = 7) (beat now s m a : Int) (l : List In) (w : World) (hn : n = l.length) (hR : Rs w w.heap.size A l) (hl : n ≤ 16) (hj : l[j]? = some (s, m, a)) (hs : ¬ s = 0) :
    Calls Try.prog 10 #[rV A n c beat, .int .u8 d, .int .u32 ((j + 1 : Nat) : Int), .int .u32 (y : Int), .int .i64 now] w (DPost A n beat (m, 0) (l.set j (0, 0, a)) w) := by
  obtain ⟨w0, hw0⟩ : ∃ w0, w0 = w.alloc (.cells (rC A n c beat) 27) := ⟨_, rfl⟩
  have hs0 : w0.heap.size = w.heap.size + 1 := by rw [hw0]; simp
  have hb0 : Below w.heap.size w w0 := by rw [hw0]; exact (Below.refl _ _).alloc (Nat.le_refl _) _
  have hq0 : w0.heap[w.heap.size]? = some (.cells (rC A n c beat) 27 (0, 0)) := by rw [hw0]; exact heap_alloc_new w _
  obtain ⟨w1, hw1⟩ : ∃ w1, w1 = w0.alloc (.cells #[.slice none 0 0, .int .i64 0] 27) := ⟨_, rfl⟩
  have hs1 : w1.heap.size = w.heap.size + 2 := by rw [hw1]; simp [hs0]
  have hb1 : Below w0.heap.size w0 w1 := by rw [hw1]; exact (Below.refl _ _).alloc (Nat.le_refl _) _
  have hq1 : w1.heap[w.heap.size + 1]? = some (.cells #[.slice none 0 0, .int .i64 0] 27 (0, 0)) := by rw [hw1, ← hs0]; exact heap_alloc_new w0 _
  have hq01 : w1.heap[w.heap.size]? = some (.cells (rC A n c beat) 27 (0, 0)) := (hb1.block _ (lt_of_block hq0)).trans hq0
  have HB1 : Hid (Below w.heap.size w w1) := hb0.trans (hb1.mono hb0.size)
  have HS1 := Lib.hid hs1
  have H1 : Hid (w1 = (w.alloc (.cells (rC A n c beat) 27)).alloc (.cells #[.slice none 0 0, .int .i64 0] 27)) := by simp only [Hid]; rw [hw1, hw0]
  have HC : Hid (∀ W, Below w1.heap.size w1 W → (W.cell? ⟨w.heap.size, 0, none⟩ = some (.slice A n c) ∧ W.cell? ⟨w.heap.size, 1, none⟩ = some (.int .i64 beat)) ∧ W.heap[w.heap.size + 1]? = some (.cells #[.slice none 0 0, .int .i64 0] 27 (0, 0))) := fun W hW => by
    have e := (hW.block _ (lt_of_block hq01)).trans hq01
    exact ⟨⟨cell_of_row W _ 0 _ _ _ e, cell_of_row W _ 1 _ _ _ e⟩, (hW.block _ (lt_of_block hq1)).trans hq1⟩
  have HR : Hid (Rs w1 w1.heap.size A l) := (hR.below HB1.out).mono HB1.out.size
  have HR0 := Lib.hid hR
  have HBR : Hid (Below w1.heap.size w1 w1) := Below.refl _ _
  have HG := Lib.hid (rget_there A n c j beat l s m a w1 hn HR.out hl hj)
  have HX : Hid (j < n) := by simp only [Hid]; rw [hn]; exact (List.getElem?_eq_some_iff.1 hj).1
  have HN := Lib.hid hn
  clear hw0 hs0 hb0 hq0 hw1 hs1 hb1 hq1 hq01 hR
  clear hj hn
  go_enter Try.func10, Try.ntmps10
  go_upto_region 1 with (fail)
  rw [← H1.out]
  obtain ⟨⟨p0, p1⟩, -⟩ := HC.out w1 HBR.out
  go_wp2_with fail
  refine HG.out.mono ?_
  rintro r w2 ⟨rfl, hb2⟩
  obtain ⟨w3, hw3⟩ : ∃ w3, w3 = w2.alloc (.cells (iC s m a) 61) := ⟨_, rfl⟩
  have HB3 : Hid (Below w1.heap.size w1 w3) := by rw [hw3]; exact hb2.alloc hb2.size _
  have hq3 : w3.heap[w2.heap.size]? = some (.cells (iC s m a) 61 (0, 0)) := by rw [hw3]; exact heap_alloc_new w2 _
  have HL2 : Hid (w1.heap.size ≤ w2.heap.size) := hb2.size
  have H3 := Lib.hid hw3
  have g0 := cell_of_row w3 w2.heap.size 0 _ _ _ hq3
  have g1 := cell_of_row w3 w2.heap.size 1 _ _ _ hq3
  have g2 := cell_of_row w3 w2.heap.size 2 _ _ _ hq3
  simp at g0 g1 g2
  clear hb2 hw3 p0 p1
  go_upto_region 2 with (fail)
  rw [← H3.out]
  clear hq3
  have HWT := Lib.hid (rwith_any A n c j beat 0 0 a l w3 HN.out ((HR.out.below HB3.out).mono HB3.out.size) hl HX.out)
  obtain ⟨⟨p0, p1⟩, -⟩ := HC.out w3 HB3.out
  go_wp2_with fail
  refine HWT.out.mono ?_
  rintro r w4 ⟨A4, c4, rfl, hR4, hb4, hge4⟩
  have HB4 : Hid (Below w1.heap.size w1 w4) := HB3.out.trans (hb4.mono HB3.out.size)
  have HR4 := Lib.hid hR4
  have HGE : Hid (∀ b o, A4 = some ⟨b, o, none⟩ → b ≠ w.heap.size + 1) := fun b o e => by have := hge4 b o e; have := HB3.out.size; have := HS1.out; omega
  have HGL : Hid (∀ b o, A4 = some ⟨b, o, none⟩ → w.heap.size ≤ b) := fun b o e => by have := hge4 b o e; have := HB3.out.size; have := HS1.out; omega
  clear hR4 hb4 hge4 p0 p1
  obtain ⟨-, hq4⟩ := HC.out w4 HB4.out
  have z0 := cell_of_row w4 (w.heap.size + 1) 0 _ _ _ hq4
  have z1 := cell_of_row w4 (w.heap.size + 1) 1 _ _ _ hq4
  simp at z0 z1
  have zf : ∀ i, w4.frozen? ⟨w.heap.size + 1, i, none⟩ = false := fun i => frozen_of_row w4 _ i _ _ hq4
  have HT := Lib.hid (two (.slice A4 n c4) (.int .i64 beat) hq4)
  have HRES : Hid (Rs ((w4.setCell ⟨w.heap.size + 1, 0, none⟩ (.slice A4 n c4)).setCell ⟨w.heap.size + 1, 1, none⟩ (.int .i64 beat)) ((w4.setCell ⟨w.heap.size + 1, 0, none⟩ (.slice A4 n c4)).setCell ⟨w.heap.size + 1, 1, none⟩ (.int .i64 beat)).heap.size A4 (l.set j (0, 0, a)) ∧ Below w.heap.size w ((w4.setCell ⟨w.heap.size + 1, 0, none⟩ (.slice A4 n c4)).setCell ⟨w.heap.size + 1, 1, none⟩ (.int .i64 beat))) :=
    ⟨(HR4.out.setCell HGE.out).setCell HGE.out, ((HB1.out.trans (HB4.out.mono HB1.out.size)).setCell (by show w.heap.size ≤ w.heap.size + 1; omega) _).setCell (by show w.heap.size ≤ w.heap.size + 1; omega) _⟩
  clear hq4
  go_wp2
  obtain ⟨e0, e1⟩ := HT.out
  exact bodyPost_ret (v := .tuple #[rV A4 n c4 beat, .int .u32 m, .int .i64 0]) (by simp [results, Try.results10, go_sem, e0, e1]) rfl ⟨A4, c4, rfl, HRES.out.1, HRES.out.2, .inr HGL.out⟩
end Go.Proofs.Ytddjbkaofodmlaa
