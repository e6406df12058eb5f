/- Party: what the document's acts do. -/
import Derived.Test.YtjlpmdokmfmdiaaDB
import Derived.Test.YtjlpmdokmfmdiaaQD
namespace Go.Proofs.Ytjlpmdokmfmdiaa.P
open Go.RowKit
set_option maxRecDepth 20000
set_option linter.unusedVariables false
set_option linter.unusedSimpArgs false

/-- Where the document's rows are. -/
structure Dd (w : World) (R : Nat) (vi : Value) (A : Option Addr) (n : Nat) (L : List Pt) : Prop where
  n : n = L.length
  dr : Dr w R vi A L
  ctx : Ctx w R vi
theorem Dd.after {w w' : World} {R : Nat} {vi : Value} {A : Option Addr} {n : Nat} {L : List Pt} (h : Dd w R vi A n L) (hb : Below w.heap.size w w') : Dd w' R vi A n L := ⟨h.n, h.dr.after hb, h.ctx.size hb.size⟩
def ResD (R : Nat) (vi : Value) (L : List Pt) (f : Value → Value) (w : World) (r : Ending) (w' : World) : Prop := ∃ A n c, r = .returned (f (.slice A n c)) ∧ Dd w' R vi A n L ∧ Below w.heap.size w w'
def DLedP (R : Nat) (vi : Value) (g : Pt) (c : Nat) (w : World) (r : Ending) (w' : World) : Prop := ∃ m v : Sl, r = .returned (.tuple #[.agg (dC g.id g.ld m v), .int .i64 (c : Int)]) ∧ Fl w' R vi m g.mem ∧ Fl w' R vi v g.inv ∧ Below w.heap.size w w'
theorem drow {w : World} {G : Nat} {a b c d : Value} (h : w.heap[G]? = some (.cells #[a, b, c, d] 124 (0, 0))) : ∀ cur, w.heap[G]? ≠ some (.cells cur 26 (0, 0)) := fun cur e => by
  rw [h] at e
  injection e with e
  injection e with _ e
  exact absurd e (by decide)
set_option maxHeartbeats 4000000 in
theorem dled_12 (R : Nat) (vi : Value) (A : Option Addr) (n c : Nat) (L : List Pt) (a p : Nat) (w : World) (h : Dd w R vi A n L) (hI : Inv L) (hl : n ≤ 100) (hg : getP L (ofP L a) = none) :
    Calls Try.prog 121 #[.slice A n c, .int .u32 (a : Int), .int .u32 (p : Int)] w fun r w' => r = .returned (.tuple #[.agg dZ, .int .i64 12]) ∧ Below w.heap.size w w' := by
  obtain ⟨w0, hw0⟩ : ∃ w0, w0 = w.alloc (.cells dZ 124) := ⟨_, rfl⟩
  have hb0 : Below w.heap.size w w0 := by rw [hw0]; exact (Below.refl _ _).alloc (Nat.le_refl _) _
  have hq0 : w0.heap[w.heap.size]? = some (.cells dZ 124 (0, 0)) := by rw [hw0]; exact heap_alloc_new w _
  have H0 := Lib.hid hw0
  have HB0 := Lib.hid hb0
  have HQ0 := Lib.hid hq0
  have HD := Lib.hid (h.after hb0)
  have HI := Lib.hid hI
  obtain ⟨z, hz⟩ : ∃ z, z = ofP L a := ⟨_, rfl⟩
  have HOF := Lib.hid (dof_any R vi A n c L a w0 HD.out.n HD.out.dr hl (fun e he => by have := (hI.each e he).four; omega))
  rw [← hz] at HOF hg
  have HG := Lib.hid (dget_none R vi A n c L z w0 HD.out.n HD.out.dr hl hg)
  clear hw0 hb0 hq0 h hI hz hg
  go_enter Try.func121, Try.ntmps121
  go_upto_region 1 with (fail)
  rw [← H0.out]
  go_wp2_with fail
  refine HOF.out.mono ?_
  rintro r wq ⟨rfl, hw⟩
  have hw := hw.symm
  subst hw
  go_wp2_with fail
  refine HG.out.mono ?_
  rintro r w1 ⟨rfl, hb⟩
  obtain ⟨G, hG⟩ : ∃ G, G = w1.heap.size := ⟨_, rfl⟩
  obtain ⟨w3, hw3⟩ : ∃ W, W = w1.alloc (.cells #[.int .u32 0, .int .u32 0, .slice none 0 0, .slice none 0 0] 124) := ⟨_, rfl⟩
  have hq : w3.heap[G]? = some (.cells #[.int .u32 0, .int .u32 0, .slice none 0 0, .slice none 0 0] 124 (0, 0)) := by rw [hw3, hG]; exact heap_alloc_new w1 _
  have hb3 : Below w1.heap.size w1 w3 := by rw [hw3]; exact (Below.refl _ _).alloc (Nat.le_refl _) _
  have hB3 : Below w.heap.size w w3 := HB0.out.trans ((hb.trans (hb3.mono hb.size)).mono HB0.out.size)
  have hq1 := (hb3.block _ (Nat.lt_of_lt_of_le (lt_of_block HQ0.out) hb.size)).trans ((hb.block _ (lt_of_block HQ0.out)).trans HQ0.out)
  have z0 := cell_of_row _ G 0 _ _ _ hq
  have z1 := cell_of_row _ G 1 _ _ _ hq
  have z2 := cell_of_row _ G 2 _ _ _ hq
  have z3 := cell_of_row _ G 3 _ _ _ hq
  simp at z0 z1 z2 z3
  have y0 := cell_of_row _ w.heap.size 0 _ _ _ hq1
  have y1 := cell_of_row _ w.heap.size 1 _ _ _ hq1
  have y2 := cell_of_row _ w.heap.size 2 _ _ _ hq1
  have y3 := cell_of_row _ w.heap.size 3 _ _ _ hq1
  simp at y0 y1 y2 y3
  have yf : ∀ i, w3.frozen? ⟨w.heap.size, i, none⟩ = false := fun i => frozen_of_row _ _ i _ _ hq1
  have HC4 := Lib.hid (four_cells (.int .u32 0) (.int .u32 0) (.slice none 0 0) (.slice none 0 0) hq1)
  have HB4 := Lib.hid (four_below (.int .u32 0) (.int .u32 0) (.slice none 0 0) (.slice none 0 0) hB3 (Nat.le_refl w.heap.size))
  have H3 := Lib.hid hw3
  have HGG := Lib.hid hG
  clear hw3 hG hq hb3 hB3 hb hq1 
  go_upto_region 2 with (fail)
  rw [← H3.out, ← HGG.out]
  go_wp2
  obtain ⟨e0, e1, e2, e3⟩ := HC4.out
  exact bodyPost_ret (v := .tuple #[.agg dZ, .int .i64 12]) (by simp [results, Try.results121, go_sem, e0, e1, e2, e3]) rfl ⟨rfl, HB4.out⟩
set_option maxHeartbeats 4000000 in
theorem dled_18 (R : Nat) (vi : Value) (A : Option Addr) (n c : Nat) (L : List Pt) (a p : Nat) (w : World) (h : Dd w R vi A n L) (hI : Inv L) (hl : n ≤ 100) (g : Pt) (hg : getP L (ofP L a) = some g) (hne : g.ld ≠ a) :
    Calls Try.prog 121 #[.slice A n c, .int .u32 (a : Int), .int .u32 (p : Int)] w fun r w' => DLedP R vi g 18 w r w' := by
  obtain ⟨w0, hw0⟩ : ∃ w0, w0 = w.alloc (.cells dZ 124) := ⟨_, rfl⟩
  have hb0 : Below w.heap.size w w0 := by rw [hw0]; exact (Below.refl _ _).alloc (Nat.le_refl _) _
  have hq0 : w0.heap[w.heap.size]? = some (.cells dZ 124 (0, 0)) := by rw [hw0]; exact heap_alloc_new w _
  have H0 := Lib.hid hw0
  have HB0 := Lib.hid hb0
  have HQ0 := Lib.hid hq0
  have HD := Lib.hid (h.after hb0)
  have HI := Lib.hid hI
  obtain ⟨z, hz⟩ : ∃ z, z = ofP L a := ⟨_, rfl⟩
  have HOF := Lib.hid (dof_any R vi A n c L a w0 HD.out.n HD.out.dr hl (fun e he => by have := (hI.each e he).four; omega))
  rw [← hz] at HOF hg
  have HG := Lib.hid (dget_some R vi A n c L z g w0 HD.out.n HD.out.dr hl hg)
  obtain ⟨gi, hgi⟩ : ∃ z, z = g.id := ⟨_, rfl⟩
  obtain ⟨gl, hgl⟩ : ∃ z, z = g.ld := ⟨_, rfl⟩
  have HGI : Hid (gi = g.id ∧ gl = g.ld) := ⟨hgi, hgl⟩
  have hgn : ¬ ((gl : Int) = (a : Int)) := by rw [hgl]; omega
  clear hw0 hb0 hq0 h hI hz hg hgi hgl hne 
  go_enter Try.func121, Try.ntmps121
  go_upto_region 1 with (fail)
  rw [← H0.out]
  go_wp2_with fail
  refine HOF.out.mono ?_
  rintro r wq ⟨rfl, hw⟩
  have hw := hw.symm
  subst hw
  go_wp2_with fail
  refine HG.out.mono ?_
  rintro r w1 ⟨m, v, rfl, f1, f2, hb⟩
  rw [← HGI.out.1, ← HGI.out.2]
  obtain ⟨G, hG⟩ : ∃ G, G = w1.heap.size := ⟨_, rfl⟩
  obtain ⟨w3, hw3⟩ : ∃ W, W = w1.alloc (.cells #[.int .u32 (gi : Int), .int .u32 (gl : Int), .slice m.a m.n m.c, .slice v.a v.n v.c] 124) := ⟨_, rfl⟩
  have hq : w3.heap[G]? = some (.cells #[.int .u32 (gi : Int), .int .u32 (gl : Int), .slice m.a m.n m.c, .slice v.a v.n v.c] 124 (0, 0)) := by rw [hw3, hG]; exact heap_alloc_new w1 _
  have hb3 : Below w1.heap.size w1 w3 := by rw [hw3]; exact (Below.refl _ _).alloc (Nat.le_refl _) _
  have hB3 : Below w.heap.size w w3 := HB0.out.trans ((hb.trans (hb3.mono hb.size)).mono HB0.out.size)
  have hq1 := (hb3.block _ (Nat.lt_of_lt_of_le (lt_of_block HQ0.out) hb.size)).trans ((hb.block _ (lt_of_block HQ0.out)).trans HQ0.out)
  have z0 := cell_of_row _ G 0 _ _ _ hq
  have z1 := cell_of_row _ G 1 _ _ _ hq
  have z2 := cell_of_row _ G 2 _ _ _ hq
  have z3 := cell_of_row _ G 3 _ _ _ hq
  simp at z0 z1 z2 z3
  have y0 := cell_of_row _ w.heap.size 0 _ _ _ hq1
  have y1 := cell_of_row _ w.heap.size 1 _ _ _ hq1
  have y2 := cell_of_row _ w.heap.size 2 _ _ _ hq1
  have y3 := cell_of_row _ w.heap.size 3 _ _ _ hq1
  simp at y0 y1 y2 y3
  have yf : ∀ i, w3.frozen? ⟨w.heap.size, i, none⟩ = false := fun i => frozen_of_row _ _ i _ _ hq1
  have HC4 := Lib.hid (four_cells (.int .u32 (gi : Int)) (.int .u32 (gl : Int)) (.slice m.a m.n m.c) (.slice v.a v.n v.c) hq1)
  have HB4 := Lib.hid (four_below (.int .u32 (gi : Int)) (.int .u32 (gl : Int)) (.slice m.a m.n m.c) (.slice v.a v.n v.c) hB3 (Nat.le_refl w.heap.size))
  have HF : Hid (Fl (four w3 w.heap.size (.int .u32 (gi : Int)) (.int .u32 (gl : Int)) (.slice m.a m.n m.c) (.slice v.a v.n v.c)) R vi m g.mem ∧ Fl (four w3 w.heap.size (.int .u32 (gi : Int)) (.int .u32 (gl : Int)) (.slice m.a m.n m.c) (.slice v.a v.n v.c)) R vi v g.inv) := ⟨fl_oth (f1.after hb3) (fun g hg => four_other _ _ _ _ hg) (drow hq1), fl_oth (f2.after hb3) (fun g hg => four_other _ _ _ _ hg) (drow hq1)⟩
  have H3 := Lib.hid hw3
  have HGG := Lib.hid hG
  clear hw3 hG hq hb3 hB3 hb hq1 f1 f2
  go_upto_region 2 with (fail)
  rw [← H3.out, ← HGG.out]
  go_wp2
  obtain ⟨e0, e1, e2, e3⟩ := HC4.out
  refine bodyPost_ret (v := .tuple #[.agg #[.int .u32 (gi : Int), .int .u32 (gl : Int), .slice m.a m.n m.c, .slice v.a v.n v.c], .int .i64 18]) (by simp [results, Try.results121, go_sem, e0, e1, e2, e3]) rfl ⟨m, v, ?_, HF.out.1, HF.out.2, HB4.out⟩
  rw [HGI.out.1, HGI.out.2]
  rfl
set_option maxHeartbeats 4000000 in
theorem dled_16 (R : Nat) (vi : Value) (A : Option Addr) (n c : Nat) (L : List Pt) (a p : Nat) (w : World) (h : Dd w R vi A n L) (hI : Inv L) (hl : n ≤ 100) (g : Pt) (hg : getP L (ofP L a) = some g) (hne : g.ld = a) (hap : a = p) :
    Calls Try.prog 121 #[.slice A n c, .int .u32 (a : Int), .int .u32 (p : Int)] w fun r w' => DLedP R vi g 16 w r w' := by
  obtain ⟨w0, hw0⟩ : ∃ w0, w0 = w.alloc (.cells dZ 124) := ⟨_, rfl⟩
  have hb0 : Below w.heap.size w w0 := by rw [hw0]; exact (Below.refl _ _).alloc (Nat.le_refl _) _
  have hq0 : w0.heap[w.heap.size]? = some (.cells dZ 124 (0, 0)) := by rw [hw0]; exact heap_alloc_new w _
  have H0 := Lib.hid hw0
  have HB0 := Lib.hid hb0
  have HQ0 := Lib.hid hq0
  have HD := Lib.hid (h.after hb0)
  have HI := Lib.hid hI
  obtain ⟨z, hz⟩ : ∃ z, z = ofP L a := ⟨_, rfl⟩
  have HOF := Lib.hid (dof_any R vi A n c L a w0 HD.out.n HD.out.dr hl (fun e he => by have := (hI.each e he).four; omega))
  rw [← hz] at HOF hg
  have HG := Lib.hid (dget_some R vi A n c L z g w0 HD.out.n HD.out.dr hl hg)
  obtain ⟨gi, hgi⟩ : ∃ z, z = g.id := ⟨_, rfl⟩
  obtain ⟨gl, hgl⟩ : ∃ z, z = g.ld := ⟨_, rfl⟩
  have HGI : Hid (gi = g.id ∧ gl = g.ld) := ⟨hgi, hgl⟩
  obtain rfl : gl = a := by rw [hgl]; exact hne
  subst hap
  clear hw0 hb0 hq0 h hI hz hg hgi hgl hne 
  go_enter Try.func121, Try.ntmps121
  go_upto_region 1 with (fail)
  rw [← H0.out]
  go_wp2_with fail
  refine HOF.out.mono ?_
  rintro r wq ⟨rfl, hw⟩
  have hw := hw.symm
  subst hw
  go_wp2_with fail
  refine HG.out.mono ?_
  rintro r w1 ⟨m, v, rfl, f1, f2, hb⟩
  rw [← HGI.out.1, ← HGI.out.2]
  obtain ⟨G, hG⟩ : ∃ G, G = w1.heap.size := ⟨_, rfl⟩
  obtain ⟨w3, hw3⟩ : ∃ W, W = w1.alloc (.cells #[.int .u32 (gi : Int), .int .u32 (gl : Int), .slice m.a m.n m.c, .slice v.a v.n v.c] 124) := ⟨_, rfl⟩
  have hq : w3.heap[G]? = some (.cells #[.int .u32 (gi : Int), .int .u32 (gl : Int), .slice m.a m.n m.c, .slice v.a v.n v.c] 124 (0, 0)) := by rw [hw3, hG]; exact heap_alloc_new w1 _
  have hb3 : Below w1.heap.size w1 w3 := by rw [hw3]; exact (Below.refl _ _).alloc (Nat.le_refl _) _
  have hB3 : Below w.heap.size w w3 := HB0.out.trans ((hb.trans (hb3.mono hb.size)).mono HB0.out.size)
  have hq1 := (hb3.block _ (Nat.lt_of_lt_of_le (lt_of_block HQ0.out) hb.size)).trans ((hb.block _ (lt_of_block HQ0.out)).trans HQ0.out)
  have z0 := cell_of_row _ G 0 _ _ _ hq
  have z1 := cell_of_row _ G 1 _ _ _ hq
  have z2 := cell_of_row _ G 2 _ _ _ hq
  have z3 := cell_of_row _ G 3 _ _ _ hq
  simp at z0 z1 z2 z3
  have y0 := cell_of_row _ w.heap.size 0 _ _ _ hq1
  have y1 := cell_of_row _ w.heap.size 1 _ _ _ hq1
  have y2 := cell_of_row _ w.heap.size 2 _ _ _ hq1
  have y3 := cell_of_row _ w.heap.size 3 _ _ _ hq1
  simp at y0 y1 y2 y3
  have yf : ∀ i, w3.frozen? ⟨w.heap.size, i, none⟩ = false := fun i => frozen_of_row _ _ i _ _ hq1
  have HC4 := Lib.hid (four_cells (.int .u32 (gi : Int)) (.int .u32 (gl : Int)) (.slice m.a m.n m.c) (.slice v.a v.n v.c) hq1)
  have HB4 := Lib.hid (four_below (.int .u32 (gi : Int)) (.int .u32 (gl : Int)) (.slice m.a m.n m.c) (.slice v.a v.n v.c) hB3 (Nat.le_refl w.heap.size))
  have HF : Hid (Fl (four w3 w.heap.size (.int .u32 (gi : Int)) (.int .u32 (gl : Int)) (.slice m.a m.n m.c) (.slice v.a v.n v.c)) R vi m g.mem ∧ Fl (four w3 w.heap.size (.int .u32 (gi : Int)) (.int .u32 (gl : Int)) (.slice m.a m.n m.c) (.slice v.a v.n v.c)) R vi v g.inv) := ⟨fl_oth (f1.after hb3) (fun g hg => four_other _ _ _ _ hg) (drow hq1), fl_oth (f2.after hb3) (fun g hg => four_other _ _ _ _ hg) (drow hq1)⟩
  have H3 := Lib.hid hw3
  have HGG := Lib.hid hG
  clear hw3 hG hq hb3 hB3 hb hq1 f1 f2
  go_upto_region 2 with (fail)
  rw [← H3.out, ← HGG.out]
  go_wp2
  obtain ⟨e0, e1, e2, e3⟩ := HC4.out
  refine bodyPost_ret (v := .tuple #[.agg #[.int .u32 (gi : Int), .int .u32 (gl : Int), .slice m.a m.n m.c, .slice v.a v.n v.c], .int .i64 16]) (by simp [results, Try.results121, go_sem, e0, e1, e2, e3]) rfl ⟨m, v, ?_, HF.out.1, HF.out.2, HB4.out⟩
  rw [HGI.out.1]; have hh := HGI.out.2; rw [← hh]
  rfl
set_option maxHeartbeats 4000000 in
theorem dled_0 (R : Nat) (vi : Value) (A : Option Addr) (n c : Nat) (L : List Pt) (a p : Nat) (w : World) (h : Dd w R vi A n L) (hI : Inv L) (hl : n ≤ 100) (g : Pt) (hg : getP L (ofP L a) = some g) (hne : g.ld = a) (hap : a ≠ p) :
    Calls Try.prog 121 #[.slice A n c, .int .u32 (a : Int), .int .u32 (p : Int)] w fun r w' => DLedP R vi g 0 w r w' := by
  obtain ⟨w0, hw0⟩ : ∃ w0, w0 = w.alloc (.cells dZ 124) := ⟨_, rfl⟩
  have hb0 : Below w.heap.size w w0 := by rw [hw0]; exact (Below.refl _ _).alloc (Nat.le_refl _) _
  have hq0 : w0.heap[w.heap.size]? = some (.cells dZ 124 (0, 0)) := by rw [hw0]; exact heap_alloc_new w _
  have H0 := Lib.hid hw0
  have HB0 := Lib.hid hb0
  have HQ0 := Lib.hid hq0
  have HD := Lib.hid (h.after hb0)
  have HI := Lib.hid hI
  obtain ⟨z, hz⟩ : ∃ z, z = ofP L a := ⟨_, rfl⟩
  have HOF := Lib.hid (dof_any R vi A n c L a w0 HD.out.n HD.out.dr hl (fun e he => by have := (hI.each e he).four; omega))
  rw [← hz] at HOF hg
  have HG := Lib.hid (dget_some R vi A n c L z g w0 HD.out.n HD.out.dr hl hg)
  obtain ⟨gi, hgi⟩ : ∃ z, z = g.id := ⟨_, rfl⟩
  obtain ⟨gl, hgl⟩ : ∃ z, z = g.ld := ⟨_, rfl⟩
  have HGI : Hid (gi = g.id ∧ gl = g.ld) := ⟨hgi, hgl⟩
  obtain rfl : gl = a := by rw [hgl]; exact hne
  have hap' : ¬ ((gl : Int) = (p : Int)) := by omega
  clear hw0 hb0 hq0 h hI hz hg hgi hgl hne hap
  go_enter Try.func121, Try.ntmps121
  go_upto_region 1 with (fail)
  rw [← H0.out]
  go_wp2_with fail
  refine HOF.out.mono ?_
  rintro r wq ⟨rfl, hw⟩
  have hw := hw.symm
  subst hw
  go_wp2_with fail
  refine HG.out.mono ?_
  rintro r w1 ⟨m, v, rfl, f1, f2, hb⟩
  rw [← HGI.out.1, ← HGI.out.2]
  obtain ⟨G, hG⟩ : ∃ G, G = w1.heap.size := ⟨_, rfl⟩
  obtain ⟨w3, hw3⟩ : ∃ W, W = w1.alloc (.cells #[.int .u32 (gi : Int), .int .u32 (gl : Int), .slice m.a m.n m.c, .slice v.a v.n v.c] 124) := ⟨_, rfl⟩
  have hq : w3.heap[G]? = some (.cells #[.int .u32 (gi : Int), .int .u32 (gl : Int), .slice m.a m.n m.c, .slice v.a v.n v.c] 124 (0, 0)) := by rw [hw3, hG]; exact heap_alloc_new w1 _
  have hb3 : Below w1.heap.size w1 w3 := by rw [hw3]; exact (Below.refl _ _).alloc (Nat.le_refl _) _
  have hB3 : Below w.heap.size w w3 := HB0.out.trans ((hb.trans (hb3.mono hb.size)).mono HB0.out.size)
  have hq1 := (hb3.block _ (Nat.lt_of_lt_of_le (lt_of_block HQ0.out) hb.size)).trans ((hb.block _ (lt_of_block HQ0.out)).trans HQ0.out)
  have z0 := cell_of_row _ G 0 _ _ _ hq
  have z1 := cell_of_row _ G 1 _ _ _ hq
  have z2 := cell_of_row _ G 2 _ _ _ hq
  have z3 := cell_of_row _ G 3 _ _ _ hq
  simp at z0 z1 z2 z3
  have y0 := cell_of_row _ w.heap.size 0 _ _ _ hq1
  have y1 := cell_of_row _ w.heap.size 1 _ _ _ hq1
  have y2 := cell_of_row _ w.heap.size 2 _ _ _ hq1
  have y3 := cell_of_row _ w.heap.size 3 _ _ _ hq1
  simp at y0 y1 y2 y3
  have yf : ∀ i, w3.frozen? ⟨w.heap.size, i, none⟩ = false := fun i => frozen_of_row _ _ i _ _ hq1
  have HC4 := Lib.hid (four_cells (.int .u32 (gi : Int)) (.int .u32 (gl : Int)) (.slice m.a m.n m.c) (.slice v.a v.n v.c) hq1)
  have HB4 := Lib.hid (four_below (.int .u32 (gi : Int)) (.int .u32 (gl : Int)) (.slice m.a m.n m.c) (.slice v.a v.n v.c) hB3 (Nat.le_refl w.heap.size))
  have HF : Hid (Fl (four w3 w.heap.size (.int .u32 (gi : Int)) (.int .u32 (gl : Int)) (.slice m.a m.n m.c) (.slice v.a v.n v.c)) R vi m g.mem ∧ Fl (four w3 w.heap.size (.int .u32 (gi : Int)) (.int .u32 (gl : Int)) (.slice m.a m.n m.c) (.slice v.a v.n v.c)) R vi v g.inv) := ⟨fl_oth (f1.after hb3) (fun g hg => four_other _ _ _ _ hg) (drow hq1), fl_oth (f2.after hb3) (fun g hg => four_other _ _ _ _ hg) (drow hq1)⟩
  have H3 := Lib.hid hw3
  have HGG := Lib.hid hG
  clear hw3 hG hq hb3 hB3 hb hq1 f1 f2
  go_upto_region 2 with (fail)
  rw [← H3.out, ← HGG.out]
  go_wp2
  obtain ⟨e0, e1, e2, e3⟩ := HC4.out
  refine bodyPost_ret (v := .tuple #[.agg #[.int .u32 (gi : Int), .int .u32 (gl : Int), .slice m.a m.n m.c, .slice v.a v.n v.c], .int .i64 0]) (by simp [results, Try.results121, go_sem, e0, e1, e2, e3]) rfl ⟨m, v, ?_, HF.out.1, HF.out.2, HB4.out⟩
  rw [HGI.out.1]; have hh := HGI.out.2; rw [← hh]
  rfl
end Go.Proofs.Ytjlpmdokmfmdiaa.P
