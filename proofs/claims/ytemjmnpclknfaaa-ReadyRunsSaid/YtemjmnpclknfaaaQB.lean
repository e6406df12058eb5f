/- Ready: Accept. -/
import Derived.Test.YtemjmnpclknfaaaQA
namespace Go.Proofs.Ytemjmnpclknfaaa.P
open Go.RowKit
set_option maxRecDepth 20000
set_option linter.unusedVariables false
set_option linter.unusedSimpArgs false

set_option maxHeartbeats 4000000 in
theorem acc_none (B R : Nat) (most : Int) (vi : Value) (L : List Pt) (p : Nat) (w : World) (h : Bk w B R most vi L) (hl : L.length ≤ 100) (hms : ∀ e ∈ L, e.mem.length ≤ 100) (hg : getP L (ofP L p) = none) :
    Calls Try.prog 20 #[bp B, .int .u32 (p : Int)] w fun r w' => r = .returned (.tuple #[cZ, .bool false, .int .i64 12]) ∧ Below w.heap.size w w' := by
  obtain ⟨w0, hw0⟩ : ∃ w0, w0 = w.alloc (.cells #[.int .u32 0, .slice none 0 0, .slice none 0 0, .int .i64 0] 33) := ⟨_, rfl⟩
  have hb0 : Below w.heap.size w w0 := by rw [hw0]; exact (Below.refl _ _).alloc (Nat.le_refl _) _
  have hq0 : w0.heap[w.heap.size]? = some (.cells #[.int .u32 0, .slice none 0 0, .slice none 0 0, .int .i64 0] 33 (0, 0)) := by rw [hw0]; exact heap_alloc_new w _
  have HOF := Lib.hid (of_any B R most vi L p w0 (h.after hb0) hl hms)
  obtain ⟨x, hx⟩ : ∃ x, x = ofP L p := ⟨_, rfl⟩
  rw [← hx] at HOF hg
  have H0 := Lib.hid hw0
  have HQ0 := Lib.hid hq0
  have HB0 := Lib.hid hb0
  have HC : Hid (∀ W, Below w.heap.size w W → Calls Try.prog 37 #[bp B, .int .u32 (x : Int)] W fun r w' => r = .returned (.tuple #[.agg mZ, .bool false]) ∧ Below W.heap.size W w') := fun W hW => at_none B R most vi L x W (h.after hW) hl hg
  clear hw0 hq0 hb0 h hl hms hg hx
  go_enter Try.func20, Try.ntmps20
  go_upto_region 1 with (fail)
  rw [← H0.out]
  go_wp2_with fail
  refine HOF.out.mono ?_
  rintro r w1 ⟨rfl, hb1⟩
  have HB1 := Lib.hid (HB0.out.trans (hb1.mono HB0.out.size))
  have HQ1 := Lib.hid ((hb1.block _ (lt_of_block HQ0.out)).trans HQ0.out)
  clear hb1
  go_wp2_with fail
  refine (HC.out w1 HB1.out).mono ?_
  rintro r w2 ⟨rfl, hb2⟩
  obtain ⟨w3, hw3⟩ : ∃ w3, w3 = w2.alloc (.cells mZ 86) := ⟨_, rfl⟩
  have hb3 : Below w2.heap.size w2 w3 := by rw [hw3]; exact (Below.refl _ _).alloc (Nat.le_refl _) _
  have hb23 := hb2.trans (hb3.mono hb2.size)
  have hr3 := (hb23.block _ (lt_of_block HQ1.out)).trans HQ1.out
  have x0 := cell_of_row w3 w.heap.size 0 _ _ _ hr3
  have x1 := cell_of_row w3 w.heap.size 1 _ _ _ hr3
  have x2 := cell_of_row w3 w.heap.size 2 _ _ _ hr3
  have x3 := cell_of_row w3 w.heap.size 3 _ _ _ hr3
  simp at x0 x1 x2 x3
  have xf : ∀ i, w3.frozen? ⟨w.heap.size, i, none⟩ = false := fun i => frozen_of_row w3 _ i _ _ hr3
  have HCL := Lib.hid (putZ_cells hr3)
  have HBF := Lib.hid (putZ_below (HB1.out.trans (hb23.mono HB1.out.size)) (Nat.le_refl w.heap.size))
  have H3 := Lib.hid hw3
  clear hb2 hb3 hb23 hr3 hw3
  go_upto_region 3 with (fail)
  rw [← H3.out]
  go_wp2_with fail
  obtain ⟨e0, e1, e2, e3⟩ := HCL.out
  exact bodyPost_ret (v := .tuple #[cZ, .bool false, .int .i64 12]) (by simp [results, Try.results20, go_sem, e0, e1, e2, e3]) rfl ⟨rfl, HBF.out⟩
set_option maxHeartbeats 4000000 in
theorem acc_again (B R : Nat) (most : Int) (vi : Value) (L : List Pt) (p : Nat) (g : Pt) (w : World) (h : Bk w B R most vi L) (hl : L.length ≤ 100) (hms : ∀ e ∈ L, e.mem.length ≤ 100) (hg : getP L (ofP L p) = some g) (hy : g.inv.length ≤ 100) (hp : p ∈ g.inv) :
    Calls Try.prog 20 #[bp B, .int .u32 (p : Int)] w fun r w' => r = .returned (.tuple #[cZ, .bool false, .int .i64 11]) ∧ Below w.heap.size w w' := by
  obtain ⟨w0, hw0⟩ : ∃ w0, w0 = w.alloc (.cells #[.int .u32 0, .slice none 0 0, .slice none 0 0, .int .i64 0] 33) := ⟨_, rfl⟩
  have hb0 : Below w.heap.size w w0 := by rw [hw0]; exact (Below.refl _ _).alloc (Nat.le_refl _) _
  have hq0 : w0.heap[w.heap.size]? = some (.cells #[.int .u32 0, .slice none 0 0, .slice none 0 0, .int .i64 0] 33 (0, 0)) := by rw [hw0]; exact heap_alloc_new w _
  have HOF := Lib.hid (of_any B R most vi L p w0 (h.after hb0) hl hms)
  obtain ⟨x, hx⟩ : ∃ x, x = ofP L p := ⟨_, rfl⟩
  rw [← hx] at HOF hg
  have H0 := Lib.hid hw0
  have HQ0 := Lib.hid hq0
  have HB0 := Lib.hid hb0
  have HC : Hid (∀ W, Below w.heap.size w W → Calls Try.prog 37 #[bp B, .int .u32 (x : Int)] W fun r w' => GetP R vi g W r w') := fun W hW => at_some B R most vi L x g W (h.after hW) hl hg
  have HY := Lib.hid hy
  have HP := Lib.hid hp
  clear hw0 hq0 hb0 h hl hms hg hx hy hp
  go_enter Try.func20, Try.ntmps20
  go_upto_region 1 with (fail)
  rw [← H0.out]
  go_wp2_with fail
  refine HOF.out.mono ?_
  rintro r w1 ⟨rfl, hb1⟩
  have HB1 := Lib.hid (HB0.out.trans (hb1.mono HB0.out.size))
  have HQ1 := Lib.hid ((hb1.block _ (lt_of_block HQ0.out)).trans HQ0.out)
  clear hb1
  go_wp2_with fail
  refine (HC.out w1 HB1.out).mono ?_
  rintro r w2 ⟨y1, y2, y3, rfl, hy3, f1, f2, hb2⟩
  obtain ⟨G, hG⟩ : ∃ G, G = w2.heap.size := ⟨_, rfl⟩
  obtain ⟨w3, hw3⟩ : ∃ w3, w3 = w2.alloc (.cells (mC y1 y2 y3) 86) := ⟨_, rfl⟩
  have hb3 : Below w2.heap.size w2 w3 := by rw [hw3]; exact (Below.refl _ _).alloc (Nat.le_refl _) _
  have hg3 : w3.heap[G]? = some (.cells (mC y1 y2 y3) 86 (0, 0)) := by rw [hw3, hG]; exact heap_alloc_new w2 _
  have hb23 := hb2.trans (hb3.mono hb2.size)
  have g1 := cell_of_row w3 G 1 _ _ _ hg3
  simp at g1
  have HCC := Lib.hid (contains_any y2.a y2.n y2.c g.inv p w3 f2.1 (f2.after hb3).rn (by have := HY.out; have := f2.1; omega))
  rw [decide_eq_true HP.out] at HCC
  have HQ3 := Lib.hid ((hb23.block _ (lt_of_block HQ1.out)).trans HQ1.out)
  have HB3 := Lib.hid (HB1.out.trans (hb23.mono HB1.out.size))
  have H3 := Lib.hid hw3
  have HGG := Lib.hid hG
  clear hb2 hb3 hb23 hg3 hw3 hG f1 f2 hy3
  go_upto_region 3 with (fail)
  rw [← H3.out, ← HGG.out]
  go_wp2_with fail
  refine HCC.out.mono ?_
  rintro r w4 ⟨rfl, hb4⟩
  have hr4 := (hb4.block _ (lt_of_block HQ3.out)).trans HQ3.out
  have x0 := cell_of_row w4 w.heap.size 0 _ _ _ hr4
  have x1 := cell_of_row w4 w.heap.size 1 _ _ _ hr4
  have x2 := cell_of_row w4 w.heap.size 2 _ _ _ hr4
  have x3 := cell_of_row w4 w.heap.size 3 _ _ _ hr4
  simp at x0 x1 x2 x3
  have xf : ∀ i, w4.frozen? ⟨w.heap.size, i, none⟩ = false := fun i => frozen_of_row w4 _ i _ _ hr4
  have HCL := Lib.hid (putZ_cells hr4)
  have HBF := Lib.hid (putZ_below (HB3.out.trans (hb4.mono HB3.out.size)) (Nat.le_refl w.heap.size))
  clear hb4 hr4 g1
  go_wp2_with fail
  obtain ⟨e0, e1, e2, e3⟩ := HCL.out
  exact bodyPost_ret (v := .tuple #[cZ, .bool false, .int .i64 11]) (by simp [results, Try.results20, go_sem, e0, e1, e2, e3]) rfl ⟨rfl, HBF.out⟩
/-- What Accept tells where a yes counts. -/
def AccP (B R : Nat) (most : Int) (vi : Value) (L' : List Pt) (x : Nat) (g : Pt) (ys : List Nat) (over : Bool) (w : World) (r : Ending) (w' : World) : Prop := ∃ v, r = .returned (.tuple #[v, .bool over, .int .i64 0]) ∧ Tl w.heap.size x g.mem ys g.ld v w' ∧ PutP B R most vi L' w w'
theorem setCell_fl {W : World} {G R : Nat} {vi u : Value} {s : Sl} {l : List Nat} {i : Nat} (h : Fl W R vi s l) (hn : ∀ b cur, W.heap[b]? = some (.cells cur 26 (0, 0)) → b ≠ G) : Fl (W.setCell ⟨G, i, none⟩ u) R vi s l := ⟨h.1, fun hl => by
  obtain ⟨b, o, e1, e2, e3, ⟨cur, e4⟩, e5⟩ := h.2 hl
  have hne := hn b cur e4
  have k : (W.setCell ⟨G, i, none⟩ u).heap[b]? = W.heap[b]? := Below.heap_setCell _ _ _ _ hne
  exact ⟨b, o, e1, e2, e3, ⟨cur, k.trans e4⟩, fun j x hj => (World.cell?_of_block k).trans (e5 j x hj)⟩⟩
theorem setCell_own {W : World} {G B i : Nat} {u v : Value} {l : List Nat} {n : Nat} (h : W.ownsRow B 26 1 v n (un l)) (hn : ∀ b cur, W.heap[b]? = some (.cells cur 26 (0, 0)) → b ≠ G) : (W.setCell ⟨G, i, none⟩ u).ownsRow B 26 1 v n (un l) :=
  own_after h fun g hg => by
    obtain ⟨cur, hc⟩ := own_type h hg
    exact Below.heap_setCell _ _ _ _ (hn g cur hc)
set_option maxHeartbeats 16000000 in
theorem acc_some (B R : Nat) (most : Int) (vi : Value) (L : List Pt) (p : Nat) (g : Pt) (w : World) (h : Bk w B R most vi L) (hl : L.length ≤ 100) (hms : ∀ e ∈ L, e.mem.length ≤ 100) (hg : getP L (ofP L p) = some g) (hm : g.mem.length ≤ 99) (hy : g.inv.length ≤ 98) (hp : p ∉ g.inv) (hnd : g.inv.Nodup) :
    Calls Try.prog 20 #[bp B, .int .u32 (p : Int)] w fun r w' => AccP B R most vi (if miss g.mem (g.inv ++ [p]) = [] then delL L (ofP L p) else insL L (yesP g p)) (ofP L p) g (g.inv ++ [p]) (decide (miss g.mem (g.inv ++ [p]) = [])) w r w' := by
  obtain ⟨w0, hw0⟩ : ∃ w0, w0 = w.alloc (.cells #[.int .u32 0, .slice none 0 0, .slice none 0 0, .int .i64 0] 33) := ⟨_, rfl⟩
  have hb0 : Below w.heap.size w w0 := by rw [hw0]; exact (Below.refl _ _).alloc (Nat.le_refl _) _
  have hq0 : w0.heap[w.heap.size]? = some (.cells #[.int .u32 0, .slice none 0 0, .slice none 0 0, .int .i64 0] 33 (0, 0)) := by rw [hw0]; exact heap_alloc_new w _
  have HOF := Lib.hid (of_any B R most vi L p w0 (h.after hb0) hl hms)
  obtain ⟨x, hx⟩ : ∃ x, x = ofP L p := ⟨_, rfl⟩
  rw [← hx] at HOF hg ⊢
  have H0 := Lib.hid hw0
  have HQ0 := Lib.hid hq0
  have HB0 := Lib.hid hb0
  obtain ⟨M, hM⟩ : ∃ M, M = miss g.mem (g.inv ++ [p]) := ⟨_, rfl⟩
  rw [← hM]
  obtain ⟨ov, hov⟩ : ∃ ov, ov = decide (M = []) := ⟨_, rfl⟩
  obtain ⟨LL, hLL⟩ : ∃ LL, LL = if M = [] then delL L x else insL L (yesP g p) := ⟨_, rfl⟩
  rw [← hov, ← hLL]
  have HMM := Lib.hid hM
  have HOV := Lib.hid hov
  have HLL := Lib.hid hLL
  clear hM hov hLL
  have HC : Hid (∀ W, Below w.heap.size w W → Calls Try.prog 37 #[bp B, .int .u32 (x : Int)] W fun r w' => GetP R vi g W r w') := fun W hW => at_some B R most vi L x g W (h.after hW) hl hg
  have HBK := Lib.hid h
  have HCX := Lib.hid h.ctx
  have hgs := get_some hg
  have HD : Hid (∀ W, Below w.heap.size w W → Calls Try.prog 50 #[bp R, .int .u32 (x : Int)] W fun r w' => DropP B R most vi (delL L x) W r w') := fun W hW => bdrop B R most vi L x W (h.after hW) hl ⟨g, hgs⟩
  have HPT : Hid (∀ W (z1 z2 : Sl) (z3 : Int), Below w.heap.size w W → Gp W R vi (z1, z2, z3) (yesP g p) → Calls Try.prog 51 #[bp R, .int .u32 (x : Int), mV z1 z2 z3] W fun r w' => r = .returned (.int .i64 0) ∧ PutP B R most vi (insL L (yesP g p)) W w' ∧ ∀ k, w.heap.size ≤ k → k < W.heap.size → w'.heap[k]? = W.heap[k]?) := fun W z1 z2 z3 hW hG => by
    have := bput_there B R most vi L z1 z2 z3 (yesP g p) w W h hW hl ⟨g, hgs.1, rfl⟩ hG
    rw [show (yesP g p).id = x from hgs.2] at this
    exact this
  have HM := Lib.hid hm
  have HY := Lib.hid hy
  have HP := Lib.hid hp
  have HND := Lib.hid hnd
  clear hw0 hq0 hb0 h hl hms hg hx hy hp hm hnd hgs
  go_enter Try.func20, Try.ntmps20
  go_upto_region 1 with (fail)
  rw [← H0.out]
  go_wp2_with fail
  refine HOF.out.mono ?_
  rintro r w1 ⟨rfl, hb1⟩
  have HB1 := Lib.hid (HB0.out.trans (hb1.mono HB0.out.size))
  have HQ1 := Lib.hid ((hb1.block _ (lt_of_block HQ0.out)).trans HQ0.out)
  clear hb1
  go_wp2_with fail
  refine (HC.out w1 HB1.out).mono ?_
  rintro r w2 ⟨y1, y2, y3, rfl, hy3, f1, f2, hb2⟩
  obtain ⟨G, hG⟩ : ∃ G, G = w2.heap.size := ⟨_, rfl⟩
  obtain ⟨w3, hw3⟩ : ∃ w3, w3 = w2.alloc (.cells (mC y1 y2 y3) 86) := ⟨_, rfl⟩
  have hb3 : Below w2.heap.size w2 w3 := by rw [hw3]; exact (Below.refl _ _).alloc (Nat.le_refl _) _
  have hg3 : w3.heap[G]? = some (.cells (mC y1 y2 y3) 86 (0, 0)) := by rw [hw3, hG]; exact heap_alloc_new w2 _
  have hb23 := hb2.trans (hb3.mono hb2.size)
  have HB3 := Lib.hid (HB1.out.trans (hb23.mono HB1.out.size))
  have HGL : Hid (w.heap.size ≤ G) := by rw [Hid, hG]; exact Nat.le_trans HB1.out.size hb2.size
  have HGN : Hid (G ≠ w.heap.size) := by
    have := lt_of_block HQ1.out
    have := hb2.size
    rw [Hid, hG]; omega
  have g1 := cell_of_row w3 G 1 _ _ _ hg3
  simp at g1
  obtain ⟨n2, hn2⟩ : ∃ n2, n2 = g.inv.length := ⟨_, rfl⟩
  have hyn : y2.n = n2 := f2.1.trans hn2.symm
  have HCC := Lib.hid (contains_any y2.a y2.n y2.c g.inv p w3 f2.1 (f2.after hb3).rn (by have := HY.out; have := f2.1; omega))
  rw [decide_eq_false HP.out] at HCC
  have HF13 := Lib.hid (f1.after hb3)
  have HF23 := Lib.hid (f2.after hb3)
  have HY3 := Lib.hid hy3
  have HN2 := Lib.hid hn2
  have HYN := Lib.hid hyn
  have HQ3 := Lib.hid ((hb23.block _ (lt_of_block HQ1.out)).trans HQ1.out)
  have HG3 := Lib.hid hg3
  have H3 := Lib.hid hw3
  have HGG := Lib.hid hG
  clear hb2 hb3 hb23 hg3 hw3 hG f1 f2 hy3 hyn hn2
  go_upto_region 3 with (fail)
  rw [← H3.out, ← HGG.out]
  go_wp2_with fail
  refine HCC.out.mono ?_
  rintro r w4 ⟨rfl, hb4⟩
  have HG4 := Lib.hid ((hb4.block _ (lt_of_block HG3.out)).trans HG3.out)
  have HQ4 := Lib.hid ((hb4.block _ (lt_of_block HQ3.out)).trans HQ3.out)
  have HB4 := Lib.hid (HB3.out.trans (hb4.mono HB3.out.size))
  have HF14 := Lib.hid (HF13.out.after hb4)
  have HCN := Lib.hid (clone_rn y2.a y2.n y2.c g.inv w4 HF23.out.1 ((HF23.out.after hb4).rn) (by have := HYN.out; have := HN2.out; have := HY.out; omega))
  clear g1 hb4
  have g1 := cell_of_row w4 G 1 _ _ _ HG4.out
  simp at g1
  go_wp2_with fail
  refine HCN.out.mono ?_
  rintro r w5 ⟨A5, c5, rfl, ho5, hb5⟩
  rw [HYN.out] at ho5 ⊢
  have HO5 := Lib.hid ho5
  have HS5 : Hid (w4.heap.size ≤ w5.heap.size) := hb5.size
  have HB5 := Lib.hid hb5
  have hn98 : n2 ≤ 98 := by rw [HN2.out]; exact HY.out
  clear g1 ho5 hb5
  go_upto_region 8 with (at_builtin; refine wpList_append_u32 rfl _ _ rfl w4.heap.size w5.heap.size (.slice A5 n2 c5) n2 _ p rfl rfl (HO5.out.alloc _) (heap_alloc_new _ _) (by omega) (by have := HS5.out; simp; omega) ?_; intro v7 w7 hown7 hg7; obtain ⟨A8, c8, rfl⟩ := own_form1 hown7; have HO7 := Lib.hid hown7; have HB7 : Hid (Below w4.heap.size w4 w7) := (HB5.out.alloc HS5.out _).grown hg7 (by have := HS5.out; simp; omega) (fun g h => (ownlt HO5.out g h).1); clear hown7 hg7; have hg7 := (HB7.out.block _ (lt_of_block HG4.out)).trans HG4.out; have z1 := cell_of_row w7 G 1 _ _ _ hg7; simp at z1; have zf : ∀ i, w7.frozen? ⟨G, i, none⟩ = false := fun i => frozen_of_row w7 _ i _ _ hg7)
  rw [← un_snoc] at HO7
  obtain ⟨w8, hw8⟩ : ∃ w8, w8 = w7.setCell ⟨G, 1, none⟩ (.slice A8 (n2 + 1) c8) := ⟨_, rfl⟩
  have hnG := not26' hg7 (by decide)
  have hg8 : w8.heap[G]? = some (.cells (mC y1 ⟨A8, n2 + 1, c8⟩ y3) 86 (0, 0)) := by rw [hw8]; exact heap_setCell_same w7 G 1 _ 86 _ hg7
  have hq8 : w8.heap[w.heap.size]? = some (.cells #[.int .u32 0, .slice none 0 0, .slice none 0 0, .int .i64 0] 33 (0, 0)) := by rw [hw8]; exact (Below.heap_setCell _ _ _ _ (fun e => HGN.out e.symm)).trans ((HB7.out.block _ (lt_of_block HQ4.out)).trans HQ4.out)
  have hb8 : Below w.heap.size w w8 := by rw [hw8]; exact (HB4.out.trans (HB7.out.mono HB4.out.size)).setCell HGL.out _
  have ho8 : w8.ownsRow w4.heap.size 26 1 (.slice A8 (n2 + 1) c8) (n2 + 1) (un (g.inv ++ [p])) := by rw [hw8]; exact setCell_own HO7.out hnG
  have hf8 : Fl w8 R vi y1 g.mem := by rw [hw8]; exact setCell_fl (HF14.out.after HB7.out) hnG
  have hlen : (g.inv ++ [p]).length = n2 + 1 := by rw [List.length_append, HN2.out]; rfl
  have hfy : Fl w8 R vi ⟨A8, n2 + 1, c8⟩ (g.inv ++ [p]) := Fl.fresh (HCX.out.size HB4.out.size) (Nat.le_refl _) ho8
  obtain ⟨nm, hnm⟩ : ∃ nm, nm = g.mem.length := ⟨_, rfl⟩
  have HCK := Lib.hid (check_any x y1 ⟨A8, n2 + 1, c8⟩ y3 g.mem (g.inv ++ [p]) w8 hf8.1 hlen.symm hf8.rn hfy.rn (by have := HM.out; omega) (by omega))
  have u0 := cell_of_row w8 G 0 _ _ _ hg8
  have u1 := cell_of_row w8 G 1 _ _ _ hg8
  have u2 := cell_of_row w8 G 2 _ _ _ hg8
  simp at u0 u1 u2
  have HG8 := Lib.hid hg8
  have HQ8 := Lib.hid hq8
  have HB8 := Lib.hid hb8
  have HF8 := Lib.hid hf8
  have HFY := Lib.hid hfy
  have HLE := Lib.hid hlen
  have HNM := Lib.hid hnm
  have H8 := Lib.hid hw8
  clear z1 zf hw8 hnG hg8 hq8 hb8 ho8 hf8 hlen hfy hnm hg7
  rw [← H8.out]
  go_wp2_with fail
  refine HCK.out.mono ?_
  rintro r w9 ⟨v, rfl, D1, D2, e1, e2, rfl, o1, o2, hb9⟩
  rw [← HNM.out] at o1 ⊢
  rw [HLE.out] at o2 ⊢
  obtain ⟨Q, hQ⟩ : ∃ Q, Q = w9.heap.size := ⟨_, rfl⟩
  obtain ⟨w10, hw10⟩ : ∃ w10, w10 = w9.alloc (.cells (cC x ⟨D1, nm, e1⟩ ⟨D2, n2 + 1, e2⟩ y3) 33) := ⟨_, rfl⟩
  have hb10 : Below w9.heap.size w9 w10 := by rw [hw10]; exact (Below.refl _ _).alloc (Nat.le_refl _) _
  have hq10 : w10.heap[Q]? = some (.cells (cC x ⟨D1, nm, e1⟩ ⟨D2, n2 + 1, e2⟩ y3) 33 (0, 0)) := by rw [hw10, hQ]; exact heap_alloc_new w9 _
  have hb810 := hb9.trans (hb10.mono hb9.size)
  have hr10 := (hb810.block _ (lt_of_block HQ8.out)).trans HQ8.out
  have HTL0 : Hid (Tl w.heap.size x g.mem (g.inv ++ [p]) g.ld (cV x ⟨D1, nm, e1⟩ ⟨D2, n2 + 1, e2⟩ y3) w10) := by
    have ht : Tl w8.heap.size x g.mem (g.inv ++ [p]) g.ld (cV x ⟨D1, nm, e1⟩ ⟨D2, n2 + 1, e2⟩ y3) w9 := ⟨D1, D2, e1, e2, by rw [HNM.out, HLE.out, HY3.out], by rw [← HNM.out]; exact o1, by rw [HLE.out]; exact o2⟩
    exact (ht.after hb10).base HB8.out.size
  have r1 := (Rn.of_own (o1)).2.after hb10
  have r2 := (Rn.of_own (o2)).2.after hb10
  have hnod : (g.inv ++ [p]).Nodup := List.nodup_append.2 ⟨HND.out, by simp, fun a ha b hb => by
    simp at hb
    subst hb
    exact fun e => HP.out (e ▸ ha)⟩
  have HMI := Lib.hid (missing_any x ⟨D1, nm, e1⟩ ⟨D2, n2 + 1, e2⟩ y3 g.mem (g.inv ++ [p]) w10 HNM.out HLE.out.symm r1 r2 hnod (by have := HM.out; omega) (by rw [HLE.out]; omega))
  obtain ⟨q0, q1, q2, q3⟩ := cell4 hq10
  have HG10 := Lib.hid ((hb810.block _ (lt_of_block HG8.out)).trans HG8.out)
  have HQ10 := Lib.hid hq10
  have HR10 := Lib.hid hr10
  have HB10 := Lib.hid (HB8.out.trans (hb810.mono HB8.out.size))
  have HFB10 := Lib.hid (HF8.out.after hb810)
  have HFY10 := Lib.hid (HFY.out.after hb810)
  have HQN : Hid (Q ≠ w.heap.size) := by
    have := lt_of_block HQ8.out
    have := hb9.size
    rw [Hid, hQ]; omega
  have H10 := Lib.hid hw10
  have HQQ := Lib.hid hQ
  clear u0 u1 u2 hb9 hb10 hq10 hb810 hr10 r1 r2 hnod o1 o2 hw10 hQ
  go_upto_region 9 with (fail)
  rw [← H10.out, ← HQQ.out]
  rw [← HMM.out] at HMI
  go_wp2_with fail
  refine HMI.out.mono ?_
  rintro r w11 ⟨A11, c11, rfl, o11, hb11⟩
  have HQ11 := Lib.hid ((hb11.block _ (lt_of_block HQ10.out)).trans HQ10.out)
  have HG11 := Lib.hid ((hb11.block _ (lt_of_block HG10.out)).trans HG10.out)
  have HR11 := Lib.hid ((hb11.block _ (lt_of_block HR10.out)).trans HR10.out)
  have HB11 := Lib.hid (HB10.out.trans (hb11.mono HB10.out.size))
  have HTL := Lib.hid (HTL0.out.after hb11)
  have HFB11 := Lib.hid (HFB10.out.after hb11)
  have HFY11 := Lib.hid (HFY10.out.after hb11)
  clear o11 hb11 q0 q1 q2 q3
  by_cases hM0 : M = []
  · have HOt : Hid (ov = true) := HOV.out.trans (decide_eq_true hM0)
    have HLt : Hid (LL = delL L x) := HLL.out.trans (if_pos hM0)
    clear HOV HLL HMM
    subst hM0
    obtain ⟨q0, q1, q2, q3⟩ := cell4 HQ11.out
    have b0 := (HB11.out.cell (p := ⟨B, 0, none⟩) (lt_of_block HBK.out.blk)).trans (cell_of_row w B 0 _ _ _ HBK.out.blk)
    simp at b0
    go_wp2_with fail
    refine (HD.out w11 HB11.out).mono ?_
    rintro r w12 ⟨⟨z1, z2, z3, rfl⟩, hp⟩
    have hq12 := hp.keep4 HQ11.out
    have hr12 := hp.keep4 HR11.out
    clear q0 q1 q2 q3
    obtain ⟨q0, q1, q2, q3⟩ := cell4 hq12
    have x0 := cell_of_row w12 w.heap.size 0 _ _ _ hr12
    have x1 := cell_of_row w12 w.heap.size 1 _ _ _ hr12
    have x2 := cell_of_row w12 w.heap.size 2 _ _ _ hr12
    have x3 := cell_of_row w12 w.heap.size 3 _ _ _ hr12
    simp at x0 x1 x2 x3
    have xf : ∀ i, w12.frozen? ⟨w.heap.size, i, none⟩ = false := fun i => frozen_of_row w12 _ i _ _ hr12
    have hpw := hp.from (Nat.le_of_lt HCX.out.1) HB11.out
    have HPF := Lib.hid (hpw.put4 hr12 HCX.out.1 (Nat.le_refl _) x ⟨D1, nm, e1⟩ ⟨D2, n2 + 1, e2⟩ y3)
    have HTF : Hid (Tl w.heap.size x g.mem (g.inv ++ [p]) g.ld (cV x ⟨D1, nm, e1⟩ ⟨D2, n2 + 1, e2⟩ y3) (put4 w12 w.heap.size x ⟨D1, nm, e1⟩ ⟨D2, n2 + 1, e2⟩ y3)) := by
      obtain ⟨vi', _, hs⟩ := hp
      exact (HTL.out.stp hs HCX.out.2).put hr12 _ _ _ _
    have HCL := Lib.hid (cell4 (put4_row x ⟨D1, nm, e1⟩ ⟨D2, n2 + 1, e2⟩ y3 hr12))
    clear hp hq12 hr12 hpw b0
    go_wp2_with fail
    obtain ⟨e0, e1', e2', e3⟩ := HCL.out
    exact bodyPost_ret (v := .tuple #[cV x ⟨D1, nm, e1⟩ ⟨D2, n2 + 1, e2⟩ y3, .bool true, .int .i64 0]) (by simp [results, Try.results20, go_sem, e0, e1', e2', e3]) rfl ⟨_, by rw [HOt.out], HTF.out, by rw [HLt.out]; exact HPF.out⟩
  · have HOt : Hid (ov = false) := HOV.out.trans (decide_eq_false hM0)
    have HLt : Hid (LL = insL L (yesP g p)) := HLL.out.trans (if_neg hM0)
    clear HOV HLL
    have hm1 : 1 ≤ M.length := List.length_pos_iff.2 hM0
    obtain ⟨q0, q1, q2, q3⟩ := cell4 HQ11.out
    have HBS : Hid (Below w11.heap.size w11 w11) := Below.refl _ _
    have HCE : Hid (∀ W, Below w11.heap.size w11 W → (fun W : World => W.cell? ⟨B, 0, none⟩ = some (bp R) ∧ (W.cell? ⟨G, 0, none⟩ = some (.slice y1.a y1.n y1.c) ∧ W.cell? ⟨G, 1, none⟩ = some (.slice A8 (n2 + 1) c8) ∧ W.cell? ⟨G, 2, none⟩ = some (.int .i64 y3)) ∧ W.cell? ⟨Q, 0, none⟩ = some (.int .u32 (x : Int)) ∧ W.cell? ⟨Q, 1, none⟩ = some (.slice D1 nm e1) ∧ W.cell? ⟨Q, 2, none⟩ = some (.slice D2 (n2 + 1) e2) ∧ W.cell? ⟨Q, 3, none⟩ = some (.int .i64 y3)) W) := fun W hW => by
      have b0 := ((HB11.out.trans (hW.mono HB11.out.size)).cell (p := ⟨B, 0, none⟩) (lt_of_block HBK.out.blk)).trans (cell_of_row w B 0 _ _ _ HBK.out.blk)
      simp at b0
      have hg := (hW.block _ (lt_of_block HG11.out)).trans HG11.out
      have hq := (hW.block _ (lt_of_block HQ11.out)).trans HQ11.out
      exact ⟨b0, ⟨cell_of_row W G 0 _ _ _ hg, cell_of_row W G 1 _ _ _ hg, cell_of_row W G 2 _ _ _ hg⟩, cell_of_row W Q 0 _ _ _ hq, cell_of_row W Q 1 _ _ _ hq, cell_of_row W Q 2 _ _ _ hq, cell_of_row W Q 3 _ _ _ hq⟩
    have HPUT : Hid (∀ W, Below w11.heap.size w11 W → Calls Try.prog 51 #[bp R, .int .u32 (x : Int), mV y1 ⟨A8, n2 + 1, c8⟩ y3] W fun r w' => r = .returned (.int .i64 0) ∧ PutP B R most vi (insL L (yesP g p)) W w' ∧ ∀ k, w.heap.size ≤ k → k < W.heap.size → w'.heap[k]? = W.heap[k]?) := fun W hW => HPT.out W _ _ _ (HB11.out.trans (hW.mono HB11.out.size)) ⟨HY3.out, HFB11.out.after hW, HFY11.out.after hW⟩
    clear hM0
    go_upto_region 12 with (fail)
    clear q0 q1 q2 q3
    have HDa : Hid (Below w11.heap.size w11 w11.drew) := HBS.out.drew
    refine wp_region_held_drew (S := fun W : World => W.cell? ⟨B, 0, none⟩ = some (bp R) ∧ (W.cell? ⟨G, 0, none⟩ = some (.slice y1.a y1.n y1.c) ∧ W.cell? ⟨G, 1, none⟩ = some (.slice A8 (n2 + 1) c8) ∧ W.cell? ⟨G, 2, none⟩ = some (.int .i64 y3)) ∧ W.cell? ⟨Q, 0, none⟩ = some (.int .u32 (x : Int)) ∧ W.cell? ⟨Q, 1, none⟩ = some (.slice D1 nm e1) ∧ W.cell? ⟨Q, 2, none⟩ = some (.slice D2 (n2 + 1) e2) ∧ W.cell? ⟨Q, 3, none⟩ = some (.int .i64 y3)) (by kernel_rfl) (HCE.out _ (HDa.out)) (fun hHeld => ?_)
    obtain ⟨Wa0, hW0⟩ : ∃ W0, W0 = w11.drew := ⟨_, rfl⟩
    rw [← hW0] at hHeld HDa ⊢
    clear hW0
    refine wpAnyH_take (i := 0) (oi := ?oi0a) (v := ?v0a) ?hi0a ?hs0a ?hf0a ?hr0a ?hQ0a ?hy0a ?hS0a ?h0a
    case hi0a => exact (by simp only [List.getElem?_toArray, List.getElem?_cons_zero]; rfl)
    case hs0a => kernel_rfl
    case hf0a => kernel_rfl
    case hr0a => kernel_rfl
    case hQ0a => exact fun _ _ _ h => h
    case hy0a =>
      refine Or.inl ⟨rfl, ?_⟩
      intro W hSw
      obtain ⟨s0, ⟨s1, s2, s3⟩, s4, s5, s6, s7⟩ := hSw
      go_simp
      try with_reducible rfl
    case hS0a => assumption
    try simp only [Act.put, List.setIfInBounds_toArray, List.set_cons_zero, List.set_cons_succ]
    refine wpAnyH_take (i := 1) (oi := ?oi1a) (v := ?v1a) ?hi1a ?hs1a ?hf1a ?hr1a ?hQ1a ?hy1a ?hS1a ?h1a
    case hi1a => exact (by simp only [List.getElem?_toArray, List.getElem?_cons_succ, List.getElem?_cons_zero]; rfl)
    case hs1a => kernel_rfl
    case hf1a => kernel_rfl
    case hr1a => kernel_rfl
    case hQ1a => exact fun _ _ _ h => h
    case hy1a =>
      refine Or.inl ⟨rfl, ?_⟩
      intro W hSw
      obtain ⟨s0, ⟨s1, s2, s3⟩, s4, s5, s6, s7⟩ := hSw
      go_simp
      try with_reducible rfl
    case hS1a => assumption
    try simp only [Act.put, List.setIfInBounds_toArray, List.set_cons_zero, List.set_cons_succ]
    refine wpAnyH_take (i := 2) (oi := ?oi2a) (v := ?v2a) ?hi2a ?hs2a ?hf2a ?hr2a ?hQ2a ?hy2a ?hS2a ?h2a
    case hi2a => exact (by simp only [List.getElem?_toArray, List.getElem?_cons_succ, List.getElem?_cons_zero]; rfl)
    case hs2a => kernel_rfl
    case hf2a => kernel_rfl
    case hr2a => kernel_rfl
    case hQ2a => exact fun _ _ _ h => h
    case hy2a =>
      refine Or.inl ⟨rfl, ?_⟩
      intro W hSw
      obtain ⟨s0, ⟨s1, s2, s3⟩, s4, s5, s6, s7⟩ := hSw
      go_simp
      try with_reducible rfl
    case hS2a => assumption
    try simp only [Act.put, List.setIfInBounds_toArray, List.set_cons_zero, List.set_cons_succ]
    refine wpAnyH_take (i := 3) (oi := ?oi3a) (v := ?v3a) ?hi3a ?hs3a ?hf3a ?hr3a ?hQ3a ?hy3a ?hS3a ?h3a
    case hi3a => exact (by simp only [List.getElem?_toArray, List.getElem?_cons_succ, List.getElem?_cons_zero]; rfl)
    case hs3a => kernel_rfl
    case hf3a => kernel_rfl
    case hr3a => kernel_rfl
    case hQ3a => exact fun _ _ _ h => h
    case hy3a =>
      refine Or.inl ⟨rfl, ?_⟩
      intro W hSw
      obtain ⟨s0, ⟨s1, s2, s3⟩, s4, s5, s6, s7⟩ := hSw
      go_simp
      try with_reducible rfl
    case hS3a => assumption
    try simp only [Act.put, List.setIfInBounds_toArray, List.set_cons_zero, List.set_cons_succ]
    refine wpAnyH_take (i := 4) (oi := ?oi4a) (v := ?v4a) ?hi4a ?hs4a ?hf4a ?hr4a ?hQ4a ?hy4a ?hS4a ?h4a
    case hi4a => exact (by simp only [List.getElem?_toArray, List.getElem?_cons_succ, List.getElem?_cons_zero]; rfl)
    case hs4a => kernel_rfl
    case hf4a => kernel_rfl
    case hr4a => kernel_rfl
    case hQ4a => exact fun _ _ _ h => h
    case hy4a =>
      refine Or.inl ⟨rfl, ?_⟩
      intro W hSw
      obtain ⟨s0, ⟨s1, s2, s3⟩, s4, s5, s6, s7⟩ := hSw
      go_simp
      try with_reducible rfl
    case hS4a => assumption
    try simp only [Act.put, List.setIfInBounds_toArray, List.set_cons_zero, List.set_cons_succ]
    refine wpAnyH_take (i := 5) (oi := ?oi5a) (v := ?v5a) ?hi5a ?hs5a ?hf5a ?hr5a ?hQ5a ?hy5a ?hS5a ?h5a
    case hi5a => exact (by simp only [List.getElem?_toArray, List.getElem?_cons_succ, List.getElem?_cons_zero]; rfl)
    case hs5a => kernel_rfl
    case hf5a => kernel_rfl
    case hr5a => kernel_rfl
    case hQ5a => exact fun _ _ _ h => h
    case hy5a =>
      refine Or.inl ⟨rfl, ?_⟩
      intro W hSw
      obtain ⟨s0, ⟨s1, s2, s3⟩, s4, s5, s6, s7⟩ := hSw
      go_simp
      try with_reducible rfl
    case hS5a => assumption
    try simp only [Act.put, List.setIfInBounds_toArray, List.set_cons_zero, List.set_cons_succ]
    refine wpAnyH_take (i := 6) (oi := ?oi6a) (v := ?v6a) ?hi6a ?hs6a ?hf6a ?hr6a ?hQ6a ?hy6a ?hS6a ?h6a
    case hi6a => exact (by simp only [List.getElem?_toArray, List.getElem?_cons_succ, List.getElem?_cons_zero]; rfl)
    case hs6a => kernel_rfl
    case hf6a => kernel_rfl
    case hr6a => kernel_rfl
    case hQ6a => exact fun _ _ _ h => h
    case hy6a =>
      refine Or.inl ⟨rfl, ?_⟩
      intro W hSw
      obtain ⟨s0, ⟨s1, s2, s3⟩, s4, s5, s6, s7⟩ := hSw
      go_simp
      try with_reducible rfl
    case hS6a => assumption
    try simp only [Act.put, List.setIfInBounds_toArray, List.set_cons_zero, List.set_cons_succ]
    refine wpAnyH_ready (rs := [7]) (by kernel_rfl) (by simp) ?_
    refine AllReadyH.cons (o := _) rfl (fun K hK => ?_) AllReadyH.nil
    have hq8 := HPUT.out Wa0 HDa.out
    go_simp
    refine hq8.mono ?_
    rintro r W9 ⟨rfl, hp, hkp⟩
    have HP9 := Lib.hid hp
    have HK9 := Lib.hid hkp
    have HG9 : Hid (W9.heap[G]? = some (.cells (mC y1 ⟨A8, n2 + 1, c8⟩ y3) 86 (0, 0))) := (hkp G HGL.out (Nat.lt_of_lt_of_le (lt_of_block HG11.out) HDa.out.size)).trans ((HDa.out.block _ (lt_of_block HG11.out)).trans HG11.out)
    have HQ9 : Hid (W9.heap[Q]? = some (.cells (cC x ⟨D1, nm, e1⟩ ⟨D2, n2 + 1, e2⟩ y3) 33 (0, 0))) := hp.keep4 ((HDa.out.block _ (lt_of_block HQ11.out)).trans HQ11.out)
    have HR9 : Hid (W9.heap[w.heap.size]? = some (.cells #[.int .u32 0, .slice none 0 0, .slice none 0 0, .int .i64 0] 33 (0, 0))) := hp.keep4 ((HDa.out.block _ (lt_of_block HR11.out)).trans HR11.out)
    have HTL9 : Hid (Tl w.heap.size x g.mem (g.inv ++ [p]) g.ld (cV x ⟨D1, nm, e1⟩ ⟨D2, n2 + 1, e2⟩ y3) W9) := by
      obtain ⟨vi', _, hs⟩ := hp
      exact (HTL.out.after HDa.out).stp hs HCX.out.2
    have HSb : Hid ((fun W : World => W.cell? ⟨B, 0, none⟩ = some (bp R) ∧ (W.cell? ⟨G, 0, none⟩ = some (.slice y1.a y1.n y1.c) ∧ W.cell? ⟨G, 1, none⟩ = some (.slice A8 (n2 + 1) c8) ∧ W.cell? ⟨G, 2, none⟩ = some (.int .i64 y3)) ∧ W.cell? ⟨Q, 0, none⟩ = some (.int .u32 (x : Int)) ∧ W.cell? ⟨Q, 1, none⟩ = some (.slice D1 nm e1) ∧ W.cell? ⟨Q, 2, none⟩ = some (.slice D2 (n2 + 1) e2) ∧ W.cell? ⟨Q, 3, none⟩ = some (.int .i64 y3)) W9) := by
      obtain ⟨vi', h1, _⟩ := hp
      have b0 := cell_of_row W9 B 0 _ _ _ h1.blk
      simp at b0
      exact ⟨b0, ⟨cell_of_row W9 G 0 _ _ _ HG9.out, cell_of_row W9 G 1 _ _ _ HG9.out, cell_of_row W9 G 2 _ _ _ HG9.out⟩, cell_of_row W9 Q 0 _ _ _ HQ9.out, cell_of_row W9 Q 1 _ _ _ HQ9.out, cell_of_row W9 Q 2 _ _ _ HQ9.out, cell_of_row W9 Q 3 _ _ _ HQ9.out⟩
    have HPF := Lib.hid (hp.from (Nat.le_of_lt HCX.out.1) (HB11.out.trans (HDa.out.mono HB11.out.size)))
    clear hq8 hp hkp
    refine hK.out _ _ (HSb.out) (fun hHeld => ?_)
    clear hK K
    try simp only [Act.put, List.setIfInBounds_toArray, List.set_cons_zero, List.set_cons_succ]
    refine wpAnyH_ready (rs := [8]) (by kernel_rfl) (by simp) ?_
    refine AllReadyH.cons (o := _) rfl (fun K hK => ?_) AllReadyH.nil
    have hr9 := HR9.out
    have x0 := cell_of_row W9 w.heap.size 0 _ _ _ hr9
    have x1 := cell_of_row W9 w.heap.size 1 _ _ _ hr9
    have x2 := cell_of_row W9 w.heap.size 2 _ _ _ hr9
    have x3 := cell_of_row W9 w.heap.size 3 _ _ _ hr9
    simp at x0 x1 x2 x3
    have xf : ∀ i, W9.frozen? ⟨w.heap.size, i, none⟩ = false := fun i => frozen_of_row W9 _ i _ _ hr9
    go_simp
    have HPF2 := Lib.hid (HPF.out.put4 hr9 HCX.out.1 (Nat.le_refl _) x ⟨D1, nm, e1⟩ ⟨D2, n2 + 1, e2⟩ y3)
    have HTF := Lib.hid (HTL9.out.put hr9 x ⟨D1, nm, e1⟩ ⟨D2, n2 + 1, e2⟩ y3)
    have HCL := Lib.hid (cell4 (put4_row x ⟨D1, nm, e1⟩ ⟨D2, n2 + 1, e2⟩ y3 hr9))
    obtain ⟨Wz, hWz⟩ : ∃ Wz, Wz = put4 W9 w.heap.size x ⟨D1, nm, e1⟩ ⟨D2, n2 + 1, e2⟩ y3 := ⟨_, rfl⟩
    rw [← hWz] at HPF2 HTF HCL
    have HSz : Hid ((fun W : World => W.cell? ⟨B, 0, none⟩ = some (bp R) ∧ (W.cell? ⟨G, 0, none⟩ = some (.slice y1.a y1.n y1.c) ∧ W.cell? ⟨G, 1, none⟩ = some (.slice A8 (n2 + 1) c8) ∧ W.cell? ⟨G, 2, none⟩ = some (.int .i64 y3)) ∧ W.cell? ⟨Q, 0, none⟩ = some (.int .u32 (x : Int)) ∧ W.cell? ⟨Q, 1, none⟩ = some (.slice D1 nm e1) ∧ W.cell? ⟨Q, 2, none⟩ = some (.slice D2 (n2 + 1) e2) ∧ W.cell? ⟨Q, 3, none⟩ = some (.int .i64 y3)) Wz) := by
      have ho : ∀ k, k ≠ w.heap.size → Wz.heap[k]? = W9.heap[k]? := fun k hk => by rw [hWz]; exact put4_other _ _ _ _ hk
      obtain ⟨vi', h1, _⟩ := HPF2.out
      have b0 := cell_of_row Wz B 0 _ _ _ h1.blk
      simp at b0
      have hg := (ho G (by have := HGN.out; exact this)).trans HG9.out
      have hq := (ho Q (by have := HQN.out; exact this)).trans HQ9.out
      exact ⟨b0, ⟨cell_of_row Wz G 0 _ _ _ hg, cell_of_row Wz G 1 _ _ _ hg, cell_of_row Wz G 2 _ _ _ hg⟩, cell_of_row Wz Q 0 _ _ _ hq, cell_of_row Wz Q 1 _ _ _ hq, cell_of_row Wz Q 2 _ _ _ hq, cell_of_row Wz Q 3 _ _ _ hq⟩
    unfold put4 at hWz
    rw [← hWz]
    clear hWz x0 x1 x2 x3 xf hr9
    refine hK.out _ _ (HSz.out) (fun hHeld => ?_)
    clear hK K
    try simp only [Act.put, List.setIfInBounds_toArray, List.set_cons_zero, List.set_cons_succ]
    refine wpAnyH_take (i := 9) (oi := ?oi9a) (v := ?v9a) ?hi9a ?hs9a ?hf9a ?hr9a ?hQ9a ?hy9a ?hS9a ?h9a
    case hi9a => exact (by simp only [List.getElem?_toArray, List.getElem?_cons_succ, List.getElem?_cons_zero]; rfl)
    case hs9a => kernel_rfl
    case hf9a => kernel_rfl
    case hr9a => kernel_rfl
    case hQ9a => exact fun _ _ _ h => h
    case hy9a =>
      refine Or.inl ⟨rfl, ?_⟩
      intro W hSw
      obtain ⟨s0, ⟨s1, s2, s3⟩, s4, s5, s6, s7⟩ := hSw
      go_simp
      try with_reducible rfl
    case hS9a => assumption
    try simp only [Act.put, List.setIfInBounds_toArray, List.set_cons_zero, List.set_cons_succ]
    refine wpAnyH_take (i := 10) (oi := ?oi10a) (v := ?v10a) ?hi10a ?hs10a ?hf10a ?hr10a ?hQ10a ?hy10a ?hS10a ?h10a
    case hi10a => exact (by simp only [List.getElem?_toArray, List.getElem?_cons_succ, List.getElem?_cons_zero]; rfl)
    case hs10a => kernel_rfl
    case hf10a => kernel_rfl
    case hr10a => kernel_rfl
    case hQ10a => exact fun _ _ _ h => h
    case hy10a =>
      refine Or.inl ⟨rfl, ?_⟩
      intro W hSw
      obtain ⟨s0, ⟨s1, s2, s3⟩, s4, s5, s6, s7⟩ := hSw
      go_simp
      try with_reducible rfl
    case hS10a => assumption
    try simp only [Act.put, List.setIfInBounds_toArray, List.set_cons_zero, List.set_cons_succ]
    refine wpAnyH_done (by kernel_rfl) ?_ _
    go_wp2_with fail
    obtain ⟨e0, e1', e2', e3⟩ := HCL.out
    exact bodyPost_ret (v := .tuple #[cV x ⟨D1, nm, e1⟩ ⟨D2, n2 + 1, e2⟩ y3, .bool false, .int .i64 0]) (by simp [results, Try.results20, go_sem, e0, e1', e2', e3]) rfl ⟨_, by rw [HOt.out], HTF.out, by rw [HLt.out]; exact HPF2.out⟩
end Go.Proofs.Ytemjmnpclknfaaa.P
