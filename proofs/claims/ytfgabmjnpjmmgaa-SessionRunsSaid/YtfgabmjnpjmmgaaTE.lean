/- Session: the document's Login. -/
import Derived.Test.YtfgabmjnpjmmgaaTD
namespace Go.Proofs.Ytfgabmjnpjmmgaa.T
open Go.RowKit
set_option maxRecDepth 20000
set_option linter.unusedVariables false
set_option linter.unusedSimpArgs false

set_option maxHeartbeats 8000000 in
theorem rlogin_free (A : Option Addr) (n c : Nat) (most idle : Int) (l : List Lk) (x pl : Nat) (now : Int) (j : Nat) (ya yp : Int) (w : World) (hn : n = l.length) (hR : Rs w w.heap.size A l) (hl : n ≤ 100) (hj : l[j]? = some (x, (ya, yp))) (hpw : l.Pairwise Rd) (hp : 1 ≤ pl ∧ pl ≤ 2147483647) (h0 : yp = 0) (hc : connQ (pl : Int) l = 0) :
    Calls Try.prog 11 #[rV A n c most idle, .int .u32 (x : Int), .int .u32 (pl : Int), .int .i64 now] w (Q3 A most idle 0 0 (setS x (now, (pl : Int)) l) w) := by
  have H00 := Lib.hid h0
  clear h0
  obtain ⟨wa, hwa⟩ : ∃ wa, wa = w.alloc (.cells (rC A n c most idle) 27) := ⟨_, rfl⟩
  have hsa : wa.heap.size = w.heap.size + 1 := by rw [hwa]; simp
  have hba : Below w.heap.size w wa := by rw [hwa]; exact (Below.refl _ _).alloc (Nat.le_refl _) _
  have hqa : wa.heap[w.heap.size]? = some (.cells (rC A n c most idle) 27 (0, 0)) := by rw [hwa]; exact heap_alloc_new w _
  obtain ⟨wb, hwb⟩ : ∃ wb, wb = wa.alloc (.cells #[.slice none 0 0, .int .i64 0, .int .i64 0] 27) := ⟨_, rfl⟩
  have hsb : wb.heap.size = w.heap.size + 2 := by rw [hwb]; simp [hsa]
  have hbb : Below wa.heap.size wa wb := by rw [hwb]; exact (Below.refl _ _).alloc (Nat.le_refl _) _
  have hqb : wb.heap[w.heap.size + 1]? = some (.cells #[.slice none 0 0, .int .i64 0, .int .i64 0] 27 (0, 0)) := by rw [hwb, ← hsa]; exact heap_alloc_new wa _
  have hqab : wb.heap[w.heap.size]? = some (.cells (rC A n c most idle) 27 (0, 0)) := (hbb.block _ (lt_of_block hqa)).trans hqa
  have HBB : Hid (Below w.heap.size w wb) := hba.trans (hbb.mono hba.size)
  have HSB := Lib.hid hsb
  have HWB : Hid (wb = (w.alloc (.cells (rC A n c most idle) 27)).alloc (.cells #[.slice none 0 0, .int .i64 0, .int .i64 0] 27)) := by simp only [Hid]; rw [hwb, hwa]
  have HCC : Hid (∀ W, Below wb.heap.size wb W → (W.cell? ⟨w.heap.size, 0, none⟩ = some (.slice A n c) ∧ W.cell? ⟨w.heap.size, 1, none⟩ = some (.int .i64 most) ∧ W.cell? ⟨w.heap.size, 2, none⟩ = some (.int .i64 idle)) ∧ W.heap[w.heap.size + 1]? = some (.cells #[.slice none 0 0, .int .i64 0, .int .i64 0] 27 (0, 0))) := fun W hW => by
    have e1 := (hW.block w.heap.size (lt_of_block hqab)).trans hqab
    exact ⟨⟨cell_of_row W _ 0 _ _ _ e1, cell_of_row W _ 1 _ _ _ e1, cell_of_row W _ 2 _ _ _ e1⟩, (hW.block _ (lt_of_block hqb)).trans hqb⟩
  have HR : Hid (Rs wb w.heap.size A l) := hR.below HBB.out
  have HR0 := Lib.hid hR
  have HN := Lib.hid hn
  have HBR : Hid (Below wb.heap.size wb wb) := Below.refl _ _
  clear hwa hsa hba hqa hwb hsb hbb hqb hqab hR hn
  have HUN : Hid (∀ (i : Nat) e, i ≠ j → l[i]? = some e → e.1 ≠ x) := fun i e => uni hpw hj i e
  have HJ := Lib.hid hj
  have hjn : j < n := by rw [HN.out]; exact (List.getElem?_eq_some_iff.1 hj).1
  obtain ⟨b1, o1, rfl, hb1, ha1⟩ := HR.out (by have := HN.out; omega)
  have HF := Lib.hid (rfind_there (some ⟨b1, o1, none⟩) n c most idle l j x (ya, yp) wb HN.out (HR.out.mono HBB.out.size) hl hj (fun i e h => HUN.out i e (by omega)))
  have HBL : Hid (b1 < w.heap.size) := hb1
  have HS1 : Hid (∀ W, Below wb.heap.size wb W → (fun W : World => (W.cell? ⟨w.heap.size, 0, none⟩ = some (.slice (some ⟨b1, o1, none⟩) n c) ∧ W.cell? ⟨w.heap.size, 1, none⟩ = some (.int .i64 most) ∧ W.cell? ⟨w.heap.size, 2, none⟩ = some (.int .i64 idle)) ∧ W.cell? ⟨b1, o1 + j * 3 + 1, none⟩ = some (.int .u32 yp) ∧ W.cell? ⟨b1, o1 + j * 3 + 2, none⟩ = some (.int .i64 ya)) W) := fun W hW => by
    obtain ⟨-, d1, d2⟩ := ha1 j _ HJ.out
    have hlt' : b1 < wb.heap.size := by have := HSB.out; omega
    exact ⟨(HCC.out W hW).1, (hW.cell (p := ⟨b1, _, none⟩) hlt').trans d1, (hW.cell (p := ⟨b1, _, none⟩) hlt').trans d2⟩
  clear hj hpw ha1 hb1
  have HRT : Hid (∀ W, Calls Try.prog 27 #[.int .u32 (pl : Int)] W fun r w' => r = .returned (.bool true) ∧ w' = W) := fun W => by
    have := right27 pl W
    rwa [decide_eq_true hp] at this
  have hpl0 : ¬ (pl : Int) = 0 := by omega
  clear hp
  have HCN : Hid (∀ W, Below wb.heap.size wb W → Calls Try.prog 33 #[rV (some ⟨b1, o1, none⟩) n c most idle, .int .u32 (pl : Int)] W fun r w' => r = .returned (.int .u32 0) ∧ Below W.heap.size W w') := fun W hW => by
    have hB := HBB.out.trans (hW.mono HBB.out.size)
    have := rconn_any (some ⟨b1, o1, none⟩) n c most idle l (pl : Int) W HN.out ((HR0.out.below hB).mono hB.size) hl hpl0
    rwa [hc] at this
  clear hc
  go_enter Try.func11, Try.ntmps11
  go_upto_region 1 with (fail)
  rw [← HWB.out]
  obtain ⟨⟨p0, p1, p2⟩, -⟩ := HCC.out wb HBR.out
  go_wp2_with fail
  refine HF.out.mono ?_
  rintro r w2 ⟨rfl, hb2⟩
  have HB2 := Lib.hid hb2
  clear hb2 p0 p1 p2
  obtain ⟨⟨p0, p1, p2⟩, d1, -⟩ := HS1.out w2 HB2.out
  rw [H00.out] at d1
  go_wp2_with fail
  refine (HRT.out _).mono ?_
  rintro r w9 ⟨rfl, rfl⟩
  go_wp2_with fail
  refine (HCN.out _ HB2.out).mono ?_
  rintro r w3 ⟨rfl, hb3⟩
  have HB3 : Hid (Below wb.heap.size wb w3) := HB2.out.trans (hb3.mono HB2.out.size)
  clear hb3 p0 p1 p2 d1
  obtain ⟨⟨p0, p1, p2⟩, -, -⟩ := HS1.out w3 HB3.out
  have hB := HBB.out.trans (HB3.out.mono HBB.out.size)
  have HW := Lib.hid (rwith_any (some ⟨b1, o1, none⟩) n c x most idle pl now l w3 HN.out ((HR0.out.below hB).mono hB.size) hl)
  clear hB
  go_wp2_with fail
  refine HW.out.mono ?_
  rintro r w5 ⟨A5, c5, rfl, hR5, hb5, hA5⟩
  obtain ⟨n5, hn5⟩ : ∃ n5, n5 = n := ⟨_, rfl⟩
  have HN5 := Lib.hid hn5
  rw [← hn5]
  have HR5 := Lib.hid hR5
  have HB5 : Hid (Below wb.heap.size wb w5) := HB3.out.trans (hb5.mono HB3.out.size)
  have HA5 : Hid (∀ b o, A5 = some ⟨b, o, none⟩ → w.heap.size + 2 ≤ b ∧ Ty w5 b) := fun b o e => by
    have h1 := hA5 b o e
    have h2 := HB3.out.size
    have h3 := HSB.out
    exact ⟨by have := h1.1; omega, h1.2⟩
  clear hR5 hb5 hA5 p0 p1 p2 hn5
  have hq4 := (HCC.out w5 HB5.out).2
  have z0 := cell_of_row w5 (w.heap.size + 1) 0 _ _ _ hq4
  have z1 := cell_of_row w5 (w.heap.size + 1) 1 _ _ _ hq4
  have z2 := cell_of_row w5 (w.heap.size + 1) 2 _ _ _ hq4
  simp at z0 z1 z2
  have zf : ∀ i, w5.frozen? ⟨w.heap.size + 1, i, none⟩ = false := fun i => frozen_of_row w5 _ i _ _ hq4
  have HT := Lib.hid (three (.slice A5 n5 c5) (.int .i64 most) (.int .i64 idle) hq4)
  have HRES := Lib.hid (put_out (w := w) (p := .slice A5 n5 c5) (q := .int .i64 most) (r := .int .i64 idle) hq4 (Nat.le_succ _) HR5.out (HBB.out.trans (HB5.out.mono HBB.out.size)) (fun b o e => by have := (HA5.out b o e).1; omega))
  clear hq4
  go_wp2
  obtain ⟨e0, e1, e2, _⟩ := HT.out
  exact bodyPost_ret (v := .tuple #[rV A5 n5 c5 most idle, .int .u32 0, .int .i64 0]) (by simp [results, Try.results11, go_sem, e0, e1, e2]) rfl ⟨A5, n5, c5, (by rw [len_set]; exact HN5.out.trans HN.out), rfl, HRES.out.1, HRES.out.2.1, .inr fun b o e => by
    obtain ⟨h1, cs, h2⟩ := HA5.out b o e
    exact ⟨by omega, cs, (HRES.out.2.2.1 b (by omega)).trans h2⟩⟩

set_option maxHeartbeats 8000000 in
theorem rlogin_move (A : Option Addr) (n c : Nat) (most idle : Int) (l : List Lk) (x pl : Nat) (now : Int) (j : Nat) (ya yp : Int) (old q : Nat) (ja : Int) (w : World) (hn : n = l.length) (hR : Rs w w.heap.size A l) (hl : n ≤ 100) (hj : l[j]? = some (x, (ya, yp))) (hpw : l.Pairwise Rd) (hp : 1 ≤ pl ∧ pl ≤ 2147483647) (h0 : yp = 0) (hc : connQ (pl : Int) l = old) (hold : ¬ old = 0) (hq : l[q]? = some (old, (ja, (pl : Int)))) :
    Calls Try.prog 11 #[rV A n c most idle, .int .u32 (x : Int), .int .u32 (pl : Int), .int .i64 now] w (Q3 A most idle (old : Int) 0 (setS x (now, (pl : Int)) (delS old l)) w) := by
  have H00 := Lib.hid h0
  clear h0
  have HPW := Lib.hid hpw
  have HQ := Lib.hid hq
  have ho0 : ¬ (old : Int) = 0 := by omega
  clear hq hold
  obtain ⟨wa, hwa⟩ : ∃ wa, wa = w.alloc (.cells (rC A n c most idle) 27) := ⟨_, rfl⟩
  have hsa : wa.heap.size = w.heap.size + 1 := by rw [hwa]; simp
  have hba : Below w.heap.size w wa := by rw [hwa]; exact (Below.refl _ _).alloc (Nat.le_refl _) _
  have hqa : wa.heap[w.heap.size]? = some (.cells (rC A n c most idle) 27 (0, 0)) := by rw [hwa]; exact heap_alloc_new w _
  obtain ⟨wb, hwb⟩ : ∃ wb, wb = wa.alloc (.cells #[.slice none 0 0, .int .i64 0, .int .i64 0] 27) := ⟨_, rfl⟩
  have hsb : wb.heap.size = w.heap.size + 2 := by rw [hwb]; simp [hsa]
  have hbb : Below wa.heap.size wa wb := by rw [hwb]; exact (Below.refl _ _).alloc (Nat.le_refl _) _
  have hqb : wb.heap[w.heap.size + 1]? = some (.cells #[.slice none 0 0, .int .i64 0, .int .i64 0] 27 (0, 0)) := by rw [hwb, ← hsa]; exact heap_alloc_new wa _
  have hqab : wb.heap[w.heap.size]? = some (.cells (rC A n c most idle) 27 (0, 0)) := (hbb.block _ (lt_of_block hqa)).trans hqa
  have HBB : Hid (Below w.heap.size w wb) := hba.trans (hbb.mono hba.size)
  have HSB := Lib.hid hsb
  have HWB : Hid (wb = (w.alloc (.cells (rC A n c most idle) 27)).alloc (.cells #[.slice none 0 0, .int .i64 0, .int .i64 0] 27)) := by simp only [Hid]; rw [hwb, hwa]
  have HCC : Hid (∀ W, Below wb.heap.size wb W → (W.cell? ⟨w.heap.size, 0, none⟩ = some (.slice A n c) ∧ W.cell? ⟨w.heap.size, 1, none⟩ = some (.int .i64 most) ∧ W.cell? ⟨w.heap.size, 2, none⟩ = some (.int .i64 idle)) ∧ W.heap[w.heap.size + 1]? = some (.cells #[.slice none 0 0, .int .i64 0, .int .i64 0] 27 (0, 0))) := fun W hW => by
    have e1 := (hW.block w.heap.size (lt_of_block hqab)).trans hqab
    exact ⟨⟨cell_of_row W _ 0 _ _ _ e1, cell_of_row W _ 1 _ _ _ e1, cell_of_row W _ 2 _ _ _ e1⟩, (hW.block _ (lt_of_block hqb)).trans hqb⟩
  have HR : Hid (Rs wb w.heap.size A l) := hR.below HBB.out
  have HR0 := Lib.hid hR
  have HN := Lib.hid hn
  have HBR : Hid (Below wb.heap.size wb wb) := Below.refl _ _
  clear hwa hsa hba hqa hwb hsb hbb hqb hqab hR hn
  have HUN : Hid (∀ (i : Nat) e, i ≠ j → l[i]? = some e → e.1 ≠ x) := fun i e => uni hpw hj i e
  have HJ := Lib.hid hj
  have hjn : j < n := by rw [HN.out]; exact (List.getElem?_eq_some_iff.1 hj).1
  obtain ⟨b1, o1, rfl, hb1, ha1⟩ := HR.out (by have := HN.out; omega)
  have HF := Lib.hid (rfind_there (some ⟨b1, o1, none⟩) n c most idle l j x (ya, yp) wb HN.out (HR.out.mono HBB.out.size) hl hj (fun i e h => HUN.out i e (by omega)))
  have HBL : Hid (b1 < w.heap.size) := hb1
  have HS1 : Hid (∀ W, Below wb.heap.size wb W → (fun W : World => (W.cell? ⟨w.heap.size, 0, none⟩ = some (.slice (some ⟨b1, o1, none⟩) n c) ∧ W.cell? ⟨w.heap.size, 1, none⟩ = some (.int .i64 most) ∧ W.cell? ⟨w.heap.size, 2, none⟩ = some (.int .i64 idle)) ∧ W.cell? ⟨b1, o1 + j * 3 + 1, none⟩ = some (.int .u32 yp) ∧ W.cell? ⟨b1, o1 + j * 3 + 2, none⟩ = some (.int .i64 ya)) W) := fun W hW => by
    obtain ⟨-, d1, d2⟩ := ha1 j _ HJ.out
    have hlt' : b1 < wb.heap.size := by have := HSB.out; omega
    exact ⟨(HCC.out W hW).1, (hW.cell (p := ⟨b1, _, none⟩) hlt').trans d1, (hW.cell (p := ⟨b1, _, none⟩) hlt').trans d2⟩
  clear hj hpw ha1 hb1
  have HRT : Hid (∀ W, Calls Try.prog 27 #[.int .u32 (pl : Int)] W fun r w' => r = .returned (.bool true) ∧ w' = W) := fun W => by
    have := right27 pl W
    rwa [decide_eq_true hp] at this
  have hpl0 : ¬ (pl : Int) = 0 := by omega
  clear hp
  have HCN : Hid (∀ W, Below wb.heap.size wb W → Calls Try.prog 33 #[rV (some ⟨b1, o1, none⟩) n c most idle, .int .u32 (pl : Int)] W fun r w' => r = .returned (.int .u32 (old : Int)) ∧ Below W.heap.size W w') := fun W hW => by
    have hB := HBB.out.trans (hW.mono HBB.out.size)
    have := rconn_any (some ⟨b1, o1, none⟩) n c most idle l (pl : Int) W HN.out ((HR0.out.below hB).mono hB.size) hl hpl0
    rwa [hc] at this
  clear hc
  have HCW : Hid (∀ W, Below wb.heap.size wb W → W.heap[w.heap.size]? = some (.cells (rC (some ⟨b1, o1, none⟩) n c most idle) 27 (0, 0))) := fun W hW => by
    have e1 : wb.heap[w.heap.size]? = some (.cells (rC (some ⟨b1, o1, none⟩) n c most idle) 27 (0, 0)) := by
      rw [HWB.out]
      exact (((Below.refl (w.heap.size + 1) (w.alloc (.cells (rC (some ⟨b1, o1, none⟩) n c most idle) 27))).alloc (by simp) _).block _ (by omega)).trans (heap_alloc_new w _)
    exact (hW.block _ (lt_of_block e1)).trans e1
  go_enter Try.func11, Try.ntmps11
  go_upto_region 1 with (fail)
  rw [← HWB.out]
  obtain ⟨⟨p0, p1, p2⟩, -⟩ := HCC.out wb HBR.out
  go_wp2_with fail
  refine HF.out.mono ?_
  rintro r w2 ⟨rfl, hb2⟩
  have HB2 := Lib.hid hb2
  clear hb2 p0 p1 p2
  obtain ⟨⟨p0, p1, p2⟩, d1, -⟩ := HS1.out w2 HB2.out
  rw [H00.out] at d1
  go_wp2_with fail
  refine (HRT.out _).mono ?_
  rintro r w9 ⟨rfl, rfl⟩
  go_wp2_with fail
  refine (HCN.out _ HB2.out).mono ?_
  rintro r w3 ⟨rfl, hb3⟩
  have HB3 : Hid (Below wb.heap.size wb w3) := HB2.out.trans (hb3.mono HB2.out.size)
  clear hb3 p0 p1 p2 d1
  obtain ⟨⟨p0, p1, p2⟩, -, -⟩ := HS1.out w3 HB3.out
  have hB := HBB.out.trans (HB3.out.mono HBB.out.size)
  have HW := Lib.hid (rclose_there (some ⟨b1, o1, none⟩) n c most idle l old q ja (pl : Int) w3 HN.out ((HR0.out.below hB).mono hB.size) hl HQ.out HPW.out)
  clear hB
  go_wp2_with fail
  refine HW.out.mono ?_
  rintro r w4 ⟨A4, n4, c4, hn4, rfl, hR4, hb4, hA4⟩
  have HB4 : Hid (Below wb.heap.size wb w4) := HB3.out.trans (hb4.mono HB3.out.size)
  have HA4 : Hid (∀ b o, A4 = some ⟨b, o, none⟩ → b ≠ w.heap.size) := fun b o e => by
    rcases hA4 with h | h
    · rw [e] at h
      injection h with h
      injection h with h
      have := HBL.out
      omega
    · have h1 := (h b o e).1
      have h2 := HB3.out.size
      have h3 := HSB.out
      omega
  have HN4 := Lib.hid hn4
  have hn4l : n4 ≤ 100 := by
    have h1 := HN4.out
    have h2 := len_del old l
    have h3 := HN.out
    omega
  have hqw : w4.heap[w.heap.size]? = some (.cells (rC (some ⟨b1, o1, none⟩) n c most idle) 27 (0, 0)) := HCW.out w4 HB4.out
  have HP := Lib.hid (put_out (w := w) (p := .slice A4 n4 c4) (q := .int .i64 most) (r := .int .i64 idle) hqw (Nat.le_refl _) hR4 (HBB.out.trans (HB4.out.mono HBB.out.size)) HA4.out)
  have HTW := Lib.hid (three (.slice A4 n4 c4) (.int .i64 most) (.int .i64 idle) hqw)
  have q0 := cell_of_row w4 w.heap.size 0 _ _ _ hqw
  have q1 := cell_of_row w4 w.heap.size 1 _ _ _ hqw
  have q2 := cell_of_row w4 w.heap.size 2 _ _ _ hqw
  simp at q0 q1 q2
  have qf : ∀ i, w4.frozen? ⟨w.heap.size, i, none⟩ = false := fun i => frozen_of_row w4 _ i _ _ hqw
  clear hR4 hb4 hA4 hn4 hqw p0 p1 p2
  go_upto_region 11 with (fail)
  obtain ⟨W5, hW5⟩ : ∃ W5, W5 = (((w4.setCell ⟨w.heap.size, 0, none⟩ (.slice A4 n4 c4)).setCell ⟨w.heap.size, 1, none⟩ (.int .i64 most)).setCell ⟨w.heap.size, 2, none⟩ (.int .i64 idle)) := ⟨_, rfl⟩
  rw [← hW5] at HP HTW ⊢
  clear hW5 q0 q1 q2 qf
  obtain ⟨p0, p1, p2, -⟩ := HTW.out
  have HW := Lib.hid (rwith_any A4 n4 c4 x most idle pl now (delS old l) W5 HN4.out HP.out.1 hn4l)
  go_wp2_with fail
  refine HW.out.mono ?_
  rintro r w5 ⟨A5, c5, rfl, hR5, hb5, hA5⟩
  obtain ⟨n5, hn5⟩ : ∃ n5, n5 = n4 := ⟨_, rfl⟩
  have HN5 := Lib.hid hn5
  rw [← hn5]
  have HR5 := Lib.hid hR5
  have HB5 : Hid (Below w.heap.size w w5) := HP.out.2.1.trans (hb5.mono HP.out.2.1.size)
  have HA5 : Hid (∀ b o, A5 = some ⟨b, o, none⟩ → w.heap.size + 2 ≤ b ∧ Ty w5 b) := fun b o e => by
    have h1 := hA5 b o e
    have h2 := HB4.out.size
    have h3 := HSB.out
    have h4 := HP.out.2.2.2
    exact ⟨by have := h1.1; omega, h1.2⟩
  have hq4 : w5.heap[w.heap.size + 1]? = some (.cells #[.slice none 0 0, .int .i64 0, .int .i64 0] 27 (0, 0)) := (hb5.block _ (by rw [HP.out.2.2.2]; have := HB4.out.size; have := HSB.out; omega)).trans ((HP.out.2.2.1 _ (by omega)).trans (HCC.out w4 HB4.out).2)
  clear hR5 hb5 hA5 p0 p1 p2 hn5
  have z0 := cell_of_row w5 (w.heap.size + 1) 0 _ _ _ hq4
  have z1 := cell_of_row w5 (w.heap.size + 1) 1 _ _ _ hq4
  have z2 := cell_of_row w5 (w.heap.size + 1) 2 _ _ _ hq4
  simp at z0 z1 z2
  have zf : ∀ i, w5.frozen? ⟨w.heap.size + 1, i, none⟩ = false := fun i => frozen_of_row w5 _ i _ _ hq4
  have HT := Lib.hid (three (.slice A5 n5 c5) (.int .i64 most) (.int .i64 idle) hq4)
  have HRES := Lib.hid (put_out (w := w) (p := .slice A5 n5 c5) (q := .int .i64 most) (r := .int .i64 idle) hq4 (Nat.le_succ _) HR5.out HB5.out (fun b o e => by have := (HA5.out b o e).1; omega))
  clear hq4
  go_wp2
  obtain ⟨e0, e1, e2, _⟩ := HT.out
  exact bodyPost_ret (v := .tuple #[rV A5 n5 c5 most idle, .int .u32 (old : Int), .int .i64 0]) (by simp [results, Try.results11, go_sem, e0, e1, e2]) rfl ⟨A5, n5, c5, (by rw [len_set]; exact HN5.out.trans HN4.out), rfl, HRES.out.1, HRES.out.2.1, .inr fun b o e => by
    obtain ⟨h1, cs, h2⟩ := HA5.out b o e
    exact ⟨by omega, cs, (HRES.out.2.2.1 b (by omega)).trans h2⟩⟩

theorem rlogin_any (A : Option Addr) (n c : Nat) (most idle : Int) (l : List Lk) (x pl : Nat) (now : Int) (w : World) (hn : n = l.length) (hR : Rs w w.heap.size A l) (hl : n ≤ 100) (hN : Nd l) :
    Calls Try.prog 11 #[rV A n c most idle, .int .u32 (x : Int), .int .u32 (pl : Int), .int .i64 now] w (Q3 A most idle ((loginS x pl now l).2.1 : Nat) (loginS x pl now l).1 (loginS x pl now l).2.2 w) := by
  unfold loginS
  cases hk : look x l with
  | none => exact rlogin_none A n c most idle l x pl now w hn hR hl (look_none hk)
  | some y =>
    obtain ⟨k, hk'⟩ := look_some hk
    obtain ⟨y1, y2⟩ := y
    by_cases hpl : 1 ≤ pl ∧ pl ≤ 2147483647
    · simp only [if_neg (Classical.not_not.2 hpl)]
      by_cases h0 : y2 = 0
      · simp only [h0, not_true_eq_false, if_false]
        rcases connQ_cases (pl : Int) l with ⟨e1, e2⟩ | ⟨q, ⟨ac, az, ap⟩, e1, e2, e3⟩
        · simp only [e1, if_true]
          exact rlogin_free A n c most idle l x pl now k y1 y2 w hn hR hl hk' hN.1 hpl h0 e1
        · have ha := hN.2 _ (List.mem_of_getElem? e1)
          simp only at e2 e3 ha
          simp only [e3, if_neg (show ¬ ac = 0 by omega)]
          exact rlogin_move A n c most idle l x pl now k y1 y2 ac q az w hn hR hl hk' hN.1 hpl h0 e3 (by omega) (by rw [e1, e2])
      · simp only [if_pos h0]
        exact rlogin_other A n c most idle l x pl now k y1 y2 w hn hR hl hk' hN.1 hpl h0
    · simp only [if_pos hpl]
      exact rlogin_id A n c most idle l x pl now k y1 y2 w hn hR hl hk' hN.1 hpl
theorem rlogout_any (A : Option Addr) (n c : Nat) (most idle : Int) (l : List Lk) (x : Nat) (w : World) (hn : n = l.length) (hR : Rs w w.heap.size A l) (hl : n ≤ 100) (hN : Nd l) :
    Calls Try.prog 13 #[rV A n c most idle, .int .u32 (x : Int)] w (Q3 A most idle (logoutS x l).2.1 (logoutS x l).1 (logoutS x l).2.2 w) := by
  unfold logoutS
  cases hk : look x l with
  | none => exact rlogout_none A n c most idle l x w hn hR hl (look_none hk)
  | some y =>
    obtain ⟨k, hk'⟩ := look_some hk
    obtain ⟨y1, y2⟩ := y
    by_cases h0 : y2 = 0
    · simp only [if_pos h0]
      exact rlogout_free A n c most idle l x k y1 y2 w hn hR hl hk' hN.1 h0
    · simp only [if_neg h0]
      exact rlogout_there A n c most idle l x k y1 y2 w hn hR hl hk' hN.1 h0
theorem rclose_any (A : Option Addr) (n c : Nat) (most idle : Int) (l : List Lk) (x : Nat) (w : World) (hn : n = l.length) (hR : Rs w w.heap.size A l) (hl : n ≤ 100) (hN : Nd l) :
    Calls Try.prog 15 #[rV A n c most idle, .int .u32 (x : Int)] w (Q3 A most idle (closeS x l).2.1 (closeS x l).1 (closeS x l).2.2 w) := by
  unfold closeS
  cases hk : look x l with
  | none => exact rclose_none A n c most idle l x w hn hR hl (look_none hk)
  | some y =>
    obtain ⟨k, hk'⟩ := look_some hk
    obtain ⟨y1, y2⟩ := y
    exact rclose_there A n c most idle l x k y1 y2 w hn hR hl hk' hN.1
theorem rtouch_any (A : Option Addr) (n c : Nat) (most idle : Int) (l : List Lk) (x : Nat) (now : Int) (w : World) (hn : n = l.length) (hR : Rs w w.heap.size A l) (hl : n ≤ 100) (hN : Nd l) :
    Calls Try.prog 17 #[rV A n c most idle, .int .u32 (x : Int), .int .i64 now] w (Q2 A most idle (touchS x now l).1 (touchS x now l).2 w) := by
  unfold touchS
  cases hk : look x l with
  | none => exact rtouch_none A n c most idle l x now w hn hR hl (look_none hk)
  | some y =>
    obtain ⟨k, hk'⟩ := look_some hk
    obtain ⟨y1, y2⟩ := y
    exact rtouch_there A n c most idle l x now k y1 y2 w hn hR hl hk' hN.1
end Go.Proofs.Ytfgabmjnpjmmgaa.T
