/- Ready: the document's Accept. -/
import Derived.Test.YtemjmnpclknfaaaRF
import Derived.Test.YtemjmnpclknfaaaRD
namespace Go.Proofs.Ytemjmnpclknfaaa.P
open Go.RowKit
set_option maxRecDepth 20000
set_option linter.unusedVariables false
set_option linter.unusedSimpArgs false

theorem drow {w : World} {G : Nat} {c : Array Value} (h : w.heap[G]? = some (.cells c 36 (0, 0))) : ∀ cur, w.heap[G]? ≠ some (.cells cur 26 (0, 0)) := fun cur e => by
  rw [h] at e
  injection e with e
  injection e with _ e
  exact absurd e (by decide)
theorem Dr.oth {w w' : World} {R G : Nat} {vi : Value} {A : Option Addr} {L : List Pt} (h : Dr w R vi A L) (hg : ∀ g, g ≠ G → w'.heap[g]? = w.heap[g]?) (hn : ∀ cur, w.heap[G]? ≠ some (.cells cur 26 (0, 0))) (ha : ∀ a, A = some a → a.block ≠ G) : Dr w' R vi A L := fun hl => by
  obtain ⟨b, o, e1, ⟨cur, e2⟩, e3⟩ := h hl
  have k := hg b (ha _ e1)
  refine ⟨b, o, e1, ⟨cur, k.trans e2⟩, fun i p hp => ?_⟩
  obtain ⟨m, v, ⟨c0, c1, c2, c3⟩, f1, f2⟩ := e3 i p hp
  exact ⟨m, v, ⟨(World.cell?_of_block k).trans c0, (World.cell?_of_block k).trans c1, (World.cell?_of_block k).trans c2, (World.cell?_of_block k).trans c3⟩, fl_oth f1 hg hn, fl_oth f2 hg hn⟩
def DAcP (R : Nat) (vi : Value) (L' : List Pt) (x : Nat) (l : Int) (ms ys : List Nat) (over : Bool) (w : World) (r : Ending) (w' : World) : Prop := ∃ A n c, ∃ m v : Sl, r = .returned (.tuple #[.slice A n c, .agg (dC x l m v), .bool over, .int .i64 0]) ∧ Fl w' R vi m ms ∧ Fl w' R vi v ys ∧ Dd w' R vi A n L' ∧ Below w.heap.size w w'
def DAeP (A : Option Addr) (n c : Nat) (e : Int) (w : World) (r : Ending) (w' : World) : Prop := r = .returned (.tuple #[.slice A n c, .agg dZ, .bool false, .int .i64 e]) ∧ Below w.heap.size w w'
set_option maxHeartbeats 4000000 in
theorem daccept_none (R : Nat) (vi : Value) (A : Option Addr) (n c : Nat) (L : List Pt) (p : Nat) (w : World) (h : Dd w R vi A n L) (hl : n ≤ 100) (hms : ∀ e ∈ L, e.mem.length ≤ 100) (hg : getP L (ofP L p) = none) :
    Calls Try.prog 35 #[.slice A n c, .int .u32 (p : Int)] w fun r w' => DAeP A n c 12 w r w' := by
  obtain ⟨w0, hw0⟩ : ∃ w0, w0 = w.alloc (.cells dZ 36) := ⟨_, rfl⟩
  obtain ⟨X, hX⟩ : ∃ X, X = w.heap.size := ⟨_, rfl⟩
  have hb0 : Below w.heap.size w w0 := by rw [hw0]; exact (Below.refl _ _).alloc (Nat.le_refl _) _
  have hq0 : w0.heap[X]? = some (.cells dZ 36 (0, 0)) := by rw [hw0, hX]; exact heap_alloc_new w _
  have HD := Lib.hid (h.after hb0)
  have HOF := Lib.hid (dof_any R vi A n c L p w0 h.n (h.dr.after hb0) hl hms)
  obtain ⟨x, hx⟩ : ∃ x, x = ofP L p := ⟨_, rfl⟩
  rw [← hx] at HOF hg
  have HG := Lib.hid (dget_none R vi A n c L x w0 h.n (h.dr.after hb0) hl hg)
  have H0 := Lib.hid hw0
  have HQ0 := Lib.hid hq0
  have HB0 := Lib.hid hb0
  have HXX := Lib.hid hX
  clear hw0 hq0 hb0 hX h hl hms hg hx
  go_enter Try.func35, Try.ntmps35
  go_upto_region 1 with (fail)
  rw [← H0.out, ← HXX.out]
  go_wp2_with fail
  refine HOF.out.mono ?_
  rintro r wq ⟨rfl, hw⟩
  have hw := hw.symm
  subst hw
  go_wp2_with fail
  refine HG.out.mono ?_
  rintro r w1 ⟨rfl, hb1⟩
  obtain ⟨w3, hw3⟩ : ∃ w3, w3 = w1.alloc (.cells dZ 36) := ⟨_, rfl⟩
  have hb3 : Below w0.heap.size w0 w3 := by rw [hw3]; exact hb1.alloc hb1.size _
  have hq3 := (hb3.block _ (lt_of_block HQ0.out)).trans HQ0.out
  have x0 := cell_of_row _ X 0 _ _ _ hq3
  have x1 := cell_of_row _ X 1 _ _ _ hq3
  have x2 := cell_of_row _ X 2 _ _ _ hq3
  have x3 := cell_of_row _ X 3 _ _ _ hq3
  simp at x0 x1 x2 x3
  have xf : ∀ i, w3.frozen? ⟨X, i, none⟩ = false := fun i => frozen_of_row _ _ i _ _ hq3
  have HCL := Lib.hid (four_cells (.int .u32 0) (.slice none 0 0) (.slice none 0 0) (.int .i64 0) hq3)
  have HBF : Hid (Below w.heap.size w (four w3 X (.int .u32 0) (.slice none 0 0) (.slice none 0 0) (.int .i64 0))) := four_below _ _ _ _ (HB0.out.trans (hb3.mono HB0.out.size)) (by rw [HXX.out]; exact Nat.le_refl _)
  have H3 := Lib.hid hw3
  clear hw3 hb3 hb1 hq3
  go_upto_region 3 with (fail)
  rw [← H3.out]
  go_wp2_with fail
  obtain ⟨e0, e1, e2, e3⟩ := HCL.out
  exact bodyPost_ret (v := .tuple #[.slice A n c, .agg dZ, .bool false, .int .i64 12]) (by simp [results, Try.results35, go_sem, e0, e1, e2, e3]) rfl ⟨rfl, HBF.out⟩
set_option maxHeartbeats 4000000 in
theorem daccept_again (R : Nat) (vi : Value) (A : Option Addr) (n c : Nat) (L : List Pt) (p : Nat) (g : Pt) (w : World) (h : Dd w R vi A n L) (hl : n ≤ 100) (hms : ∀ e ∈ L, e.mem.length ≤ 100) (hg : getP L (ofP L p) = some g) (hy : g.inv.length ≤ 100) (hp : p ∈ g.inv) :
    Calls Try.prog 35 #[.slice A n c, .int .u32 (p : Int)] w fun r w' => DAeP A n c 11 w r w' := by
  obtain ⟨w0, hw0⟩ : ∃ w0, w0 = w.alloc (.cells dZ 36) := ⟨_, rfl⟩
  obtain ⟨X, hX⟩ : ∃ X, X = w.heap.size := ⟨_, rfl⟩
  have hb0 : Below w.heap.size w w0 := by rw [hw0]; exact (Below.refl _ _).alloc (Nat.le_refl _) _
  have hq0 : w0.heap[X]? = some (.cells dZ 36 (0, 0)) := by rw [hw0, hX]; exact heap_alloc_new w _
  have HD := Lib.hid (h.after hb0)
  have HOF := Lib.hid (dof_any R vi A n c L p w0 h.n (h.dr.after hb0) hl hms)
  obtain ⟨x, hx⟩ : ∃ x, x = ofP L p := ⟨_, rfl⟩
  have hgs := get_some hg
  rw [← hx] at HOF hg
  have HG := Lib.hid (dget_some R vi A n c L x g w0 h.n (h.dr.after hb0) hl hg)
  obtain ⟨gl, hgl⟩ : ∃ z, z = g.ld := ⟨_, rfl⟩
  have HGI : Hid (x = g.id ∧ gl = g.ld) := ⟨by rw [hx]; exact hgs.2.symm, hgl⟩
  have HHA : Hid (∀ (v : Sl) W, Fl W R vi v g.inv → Calls Try.prog 42 #[.slice v.a v.n v.c, .int .u32 (p : Int)] W fun r w' => r = .returned (.bool true) ∧ w' = W) := fun v W f => by
    have := has_any v.a v.n v.c g.inv p W f.1 f.rn (by have := f.1; omega)
    rw [decide_eq_true hp] at this
    exact this
  have H0 := Lib.hid hw0
  have HQ0 := Lib.hid hq0
  have HB0 := Lib.hid hb0
  have HXX := Lib.hid hX
  clear hw0 hq0 hb0 hX h hl hms hg hx hgs hgl hy hp
  go_enter Try.func35, Try.ntmps35
  go_upto_region 1 with (fail)
  rw [← H0.out, ← HXX.out]
  go_wp2_with fail
  refine HOF.out.mono ?_
  rintro r wq ⟨rfl, hw⟩
  have hw := hw.symm
  subst hw
  go_wp2_with fail
  refine HG.out.mono ?_
  rintro r w1 ⟨m, v, rfl, f1, f2, hb1⟩
  rw [← HGI.out.1, ← HGI.out.2]
  obtain ⟨G, hG⟩ : ∃ G, G = w1.heap.size := ⟨_, rfl⟩
  obtain ⟨w3, hw3⟩ : ∃ W, W = w1.alloc (.cells #[.int .u32 (x : Int), .slice m.a m.n m.c, .slice v.a v.n v.c, .int .i64 gl] 36) := ⟨_, rfl⟩
  have hq : w3.heap[G]? = some (.cells #[.int .u32 (x : Int), .slice m.a m.n m.c, .slice v.a v.n v.c, .int .i64 gl] 36 (0, 0)) := by rw [hw3, hG]; exact heap_alloc_new w1 _
  have hb3 : Below w1.heap.size w1 w3 := by rw [hw3]; exact (Below.refl _ _).alloc (Nat.le_refl _) _
  have hb13 := hb1.trans (hb3.mono hb1.size)
  have hq3 := (hb13.block _ (lt_of_block HQ0.out)).trans HQ0.out
  have z0 := cell_of_row _ G 0 _ _ _ hq
  have z1 := cell_of_row _ G 1 _ _ _ hq
  have z2 := cell_of_row _ G 2 _ _ _ hq
  have z3 := cell_of_row _ G 3 _ _ _ hq
  simp at z0 z1 z2 z3
  have HW3 : Hid (Below w.heap.size w w3 ∧ Fl w3 R vi m g.mem ∧ Fl w3 R vi v g.inv ∧ w3.heap[G]? = some (.cells #[.int .u32 (x : Int), .slice m.a m.n m.c, .slice v.a v.n v.c, .int .i64 gl] 36 (0, 0))) := ⟨HB0.out.trans (hb13.mono HB0.out.size), f1.after hb3, f2.after hb3, hq⟩
  have HGX : Hid (X < G) := by have h1 := lt_of_block HQ0.out; have h2 := hb1.size; simp only [Hid]; omega
  have HGW : Hid (w.heap.size ≤ G) := by have h1 := HGX.out; have h2 := HXX.out; simp only [Hid]; omega
  have HH := Lib.hid (HHA.out v w3 HW3.out.2.2.1)
  have x0 := cell_of_row _ X 0 _ _ _ hq3
  have x1 := cell_of_row _ X 1 _ _ _ hq3
  have x2 := cell_of_row _ X 2 _ _ _ hq3
  have x3 := cell_of_row _ X 3 _ _ _ hq3
  simp at x0 x1 x2 x3
  have xf : ∀ i, w3.frozen? ⟨X, i, none⟩ = false := fun i => frozen_of_row _ _ i _ _ hq3
  have HCL := Lib.hid (four_cells (.int .u32 0) (.slice none 0 0) (.slice none 0 0) (.int .i64 0) hq3)
  have HBF : Hid (Below w.heap.size w (four w3 X (.int .u32 0) (.slice none 0 0) (.slice none 0 0) (.int .i64 0))) := four_below _ _ _ _ (HW3.out.1) (by rw [HXX.out]; exact Nat.le_refl _)
  have H3 := Lib.hid hw3
  have HGG := Lib.hid hG
  clear hw3 hb3 hb1 hb13 hq3 hq f1 f2 hG
  go_upto_region 2 with (fail)
  rw [← H3.out, ← HGG.out]
  go_wp2_with fail
  refine HH.out.mono ?_
  rintro r wq ⟨rfl, hw⟩
  have hw := hw.symm
  subst hw
  go_wp2_with fail
  obtain ⟨e0, e1, e2, e3⟩ := HCL.out
  exact bodyPost_ret (v := .tuple #[.slice A n c, .agg dZ, .bool false, .int .i64 11]) (by simp [results, Try.results35, go_sem, e0, e1, e2, e3]) rfl ⟨rfl, HBF.out⟩
set_option maxHeartbeats 16000000 in
theorem daccept_some (R : Nat) (vi : Value) (A : Option Addr) (n c : Nat) (L : List Pt) (p : Nat) (g : Pt) (w : World) (h : Dd w R vi A n L) (hl : n ≤ 100) (hms : ∀ e ∈ L, e.mem.length ≤ 100) (hr : Ris L) (hg : getP L (ofP L p) = some g) (hm : g.mem.length ≤ 99) (hy : g.inv.length ≤ 98) (hp : p ∉ g.inv) :
    Calls Try.prog 35 #[.slice A n c, .int .u32 (p : Int)] w fun r w' => DAcP R vi (if miss g.mem (g.inv ++ [p]) = [] then delL L (ofP L p) else insL L (yesP g p)) (ofP L p) g.ld g.mem (g.inv ++ [p]) (decide (miss g.mem (g.inv ++ [p]) = [])) w r w' := by
  obtain ⟨w0, hw0⟩ : ∃ w0, w0 = w.alloc (.cells dZ 36) := ⟨_, rfl⟩
  obtain ⟨X, hX⟩ : ∃ X, X = w.heap.size := ⟨_, rfl⟩
  have hb0 : Below w.heap.size w w0 := by rw [hw0]; exact (Below.refl _ _).alloc (Nat.le_refl _) _
  have hq0 : w0.heap[X]? = some (.cells dZ 36 (0, 0)) := by rw [hw0, hX]; exact heap_alloc_new w _
  have HD := Lib.hid (h.after hb0)
  have HOF := Lib.hid (dof_any R vi A n c L p w0 h.n (h.dr.after hb0) hl hms)
  obtain ⟨x, hx⟩ : ∃ x, x = ofP L p := ⟨_, rfl⟩
  have hgs := get_some hg
  rw [← hx] at HOF hg
  have HG := Lib.hid (dget_some R vi A n c L x g w0 h.n (h.dr.after hb0) hl hg)
  obtain ⟨gl, hgl⟩ : ∃ z, z = g.ld := ⟨_, rfl⟩
  have HGI : Hid (x = g.id ∧ gl = g.ld) := ⟨by rw [hx]; exact hgs.2.symm, hgl⟩
  have HHA : Hid (∀ (v : Sl) W, Fl W R vi v g.inv → Calls Try.prog 42 #[.slice v.a v.n v.c, .int .u32 (p : Int)] W fun r w' => r = .returned (.bool false) ∧ w' = W) := fun v W f => by
    have := has_any v.a v.n v.c g.inv p W f.1 f.rn (by have := f.1; omega)
    rw [decide_eq_false hp] at this
    exact this
  rw [← hx, ← hgl]
  have H0 := Lib.hid hw0
  have HQ0 := Lib.hid hq0
  have HB0 := Lib.hid hb0
  have HXX := Lib.hid hX
  obtain ⟨M, hM⟩ : ∃ M, M = miss g.mem (g.inv ++ [p]) := ⟨_, rfl⟩
  have HMM := Lib.hid hM
  rw [← hM]
  obtain ⟨ov, hov⟩ : ∃ ov, ov = decide (M = []) := ⟨_, rfl⟩
  obtain ⟨LL, hLL⟩ : ∃ LL, LL = if M = [] then delL L x else insL L (yesP g p) := ⟨_, rfl⟩
  rw [← hov, ← hLL]
  have HOV := Lib.hid hov
  have HLL := Lib.hid hLL
  have HDN : Hid (n = L.length ∧ n ≤ 100) := ⟨h.n, hl⟩
  have HLN : Hid (g.mem.length ≤ 99 ∧ g.inv.length ≤ 98) := ⟨hm, hy⟩
  have HR := Lib.hid hr
  clear hw0 hq0 hb0 hX h hl hms hg hx hgs hgl hy hm hp hM hov hLL hr
  go_enter Try.func35, Try.ntmps35
  go_upto_region 1 with (fail)
  rw [← H0.out, ← HXX.out]
  go_wp2_with fail
  refine HOF.out.mono ?_
  rintro r wq ⟨rfl, hw⟩
  have hw := hw.symm
  subst hw
  go_wp2_with fail
  refine HG.out.mono ?_
  rintro r w1 ⟨m, v, rfl, f1, f2, hb1⟩
  rw [← HGI.out.1, ← HGI.out.2]
  obtain ⟨G, hG⟩ : ∃ G, G = w1.heap.size := ⟨_, rfl⟩
  obtain ⟨w3, hw3⟩ : ∃ W, W = w1.alloc (.cells #[.int .u32 (x : Int), .slice m.a m.n m.c, .slice v.a v.n v.c, .int .i64 gl] 36) := ⟨_, rfl⟩
  have hq : w3.heap[G]? = some (.cells #[.int .u32 (x : Int), .slice m.a m.n m.c, .slice v.a v.n v.c, .int .i64 gl] 36 (0, 0)) := by rw [hw3, hG]; exact heap_alloc_new w1 _
  have hb3 : Below w1.heap.size w1 w3 := by rw [hw3]; exact (Below.refl _ _).alloc (Nat.le_refl _) _
  have hb13 := hb1.trans (hb3.mono hb1.size)
  have hq3 := (hb13.block _ (lt_of_block HQ0.out)).trans HQ0.out
  have z0 := cell_of_row _ G 0 _ _ _ hq
  have z1 := cell_of_row _ G 1 _ _ _ hq
  have z2 := cell_of_row _ G 2 _ _ _ hq
  have z3 := cell_of_row _ G 3 _ _ _ hq
  simp at z0 z1 z2 z3
  have HW3 : Hid (Below w.heap.size w w3 ∧ Fl w3 R vi m g.mem ∧ Fl w3 R vi v g.inv ∧ w3.heap[G]? = some (.cells #[.int .u32 (x : Int), .slice m.a m.n m.c, .slice v.a v.n v.c, .int .i64 gl] 36 (0, 0))) := ⟨HB0.out.trans (hb13.mono HB0.out.size), f1.after hb3, f2.after hb3, hq⟩
  have HGX : Hid (X < G) := by have h1 := lt_of_block HQ0.out; have h2 := hb1.size; simp only [Hid]; omega
  have HGW : Hid (w.heap.size ≤ G) := by have h1 := HGX.out; have h2 := HXX.out; simp only [Hid]; omega
  have HH := Lib.hid (HHA.out v w3 HW3.out.2.2.1)
  have H3 := Lib.hid hw3
  have HGG := Lib.hid hG
  have HX3 := Lib.hid hq3
  have HGQ : Hid (w0.heap.size ≤ G) := by have h2 := hb1.size; simp only [Hid]; omega
  have HD3 := Lib.hid (HD.out.after hb13)
  clear hw3 hb3 hb1 hb13 hq3 hq f1 f2 hG
  go_upto_region 2 with (fail)
  rw [← H3.out, ← HGG.out]
  go_wp2_with fail
  refine HH.out.mono ?_
  rintro r wq ⟨rfl, hw⟩
  have hw := hw.symm
  subst hw
  clear z0 z1 z2 z3
  obtain ⟨we, hwe⟩ : ∃ we, we = w3.alloc (.cells #[] 26) := ⟨_, rfl⟩
  have hbe : Below w3.heap.size w3 we := by rw [hwe]; exact (Below.refl _ _).alloc (Nat.le_refl _) _
  have hoe : we.ownsRow w3.heap.size 26 1 (.slice (some ⟨w3.heap.size, 0, none⟩) 0 0) 0 [] := ⟨rfl, .inr ⟨w3.heap.size, 0, #[], rfl, Nat.le_refl _, by rw [hwe]; exact heap_alloc_new w3 _, Nat.le_refl _, Nat.zero_le _, rfl, rfl⟩⟩
  obtain ⟨v1, w1e, hr1, ho1, hg1⟩ := app_rn we w3.heap.size 27 0 _ [] hoe v.a v.n v.c g.inv (HW3.out.2.2.1).1 (((HW3.out.2.2.1).after hbe).rn) (by have h1 := HLN.out; have h2 := (HW3.out.2.2.1).1; omega) hbe.size
  rw [Nat.zero_add, List.nil_append] at ho1
  obtain ⟨A1e, c1e, rfl⟩ := own_form1 ho1
  have HO1 := Lib.hid ho1
  have HB1e : Hid (Below w3.heap.size w3 w1e) := hbe.grown hg1 hbe.size (fun k hk => by have e : w3.heap.size = k := Option.some.inj hk; omega)
  have HSN : Hid (v.n ≤ 98) := by have h1 := HLN.out; have h2 := (HW3.out.2.2.1).1; simp only [Hid]; omega
  have ze := cell_of_row _ G 2 _ _ _ ((hbe.block _ (lt_of_block HW3.out.2.2.2)).trans HW3.out.2.2.2)
  simp at ze
  rw [hwe] at ze hr1
  clear ho1 hg1 hbe hoe hwe
  go_upto_region 7 with (first
    | (at_builtin; refine Lib.wpList_append_run _ rfl _ _ _ _ rfl _ _ rfl rfl _ _ hr1 ?_; clear hr1 ze)
    | (at_builtin; refine wpList_append_u32 rfl _ _ rfl w3.heap.size w1e.heap.size (.slice A1e v.n c1e) v.n _ p rfl rfl (HO1.out.alloc _) (heap_alloc_new _ _) (by have := HSN.out; omega) (by have := HB1e.out.size; simp; omega) ?_; intro v7 w7 hown7 hg7; obtain ⟨A8, c8, rfl⟩ := own_form1 hown7; have HO7 := Lib.hid hown7; have HB7 : Hid (Below w3.heap.size w3 w7) := (HB1e.out.alloc HB1e.out.size _).grown hg7 (by have := HB1e.out.size; simp; omega) (fun g h => (ownlt HO1.out g h).1); clear hown7 hg7; have y2 := cell_of_row _ G 2 _ _ _ ((HB7.out.block _ (lt_of_block HW3.out.2.2.2)).trans HW3.out.2.2.2); simp at y2; have yf : ∀ i, w7.frozen? ⟨G, i, none⟩ = false := fun i => frozen_of_row _ _ i _ _ ((HB7.out.block _ (lt_of_block HW3.out.2.2.2)).trans HW3.out.2.2.2)))
  obtain ⟨w8, hw8⟩ : ∃ w8, w8 = w7.setCell ⟨G, 2, none⟩ (.slice A8 (v.n + 1) c8) := ⟨_, rfl⟩
  have hq7 := (HB7.out.block _ (lt_of_block HW3.out.2.2.2)).trans HW3.out.2.2.2
  obtain ⟨n8, hn8⟩ : ∃ k, k = v.n + 1 := ⟨_, rfl⟩
  have hq8 : w8.heap[G]? = some (.cells #[.int .u32 (x : Int), .slice m.a m.n m.c, .slice A8 n8 c8, .int .i64 gl] 36 (0, 0)) := by rw [hw8, hn8]; exact heap_setCell_same _ G 2 _ 36 _ hq7
  have ho8 : ∀ k, k ≠ G → w8.heap[k]? = w7.heap[k]? := fun k hk => by rw [hw8]; exact Below.heap_setCell _ _ _ _ hk
  have hc7 : Ctx w3 R vi := HD3.out.ctx
  have f8 : Fl w8 R vi ⟨A8, n8, c8⟩ (g.inv ++ [p]) := fl_oth (Fl.fresh hc7 (Nat.le_refl _) (by rw [un_snoc, hn8]; exact HO7.out)) ho8 (drow hq7)
  have g8 := fl_oth (HW3.out.2.1.after HB7.out) ho8 (drow hq7)
  have hb8 : Below w.heap.size w w8 := by rw [hw8]; exact (HW3.out.1.trans (HB7.out.mono HW3.out.1.size)).setCell HGW.out _
  have hx8 := (ho8 X (by have := HGX.out; omega)).trans ((HB7.out.block _ (lt_of_block HX3.out)).trans HX3.out)
  have hs38 : w3.heap.size ≤ w8.heap.size := by rw [hw8]; have := HB7.out.size; simp; omega
  have hd8 : Dr w8 R vi A L := by
    by_cases h0 : 0 < L.length
    · refine (HD3.out.dr.after HB7.out).oth ho8 (drow hq7) (fun a ha e => ?_)
      obtain ⟨b, o, e1, ⟨cur, e2⟩, _⟩ := HD.out.dr h0
      rw [ha] at e1
      injection e1 with e1
      have h1 := lt_of_block e2
      rw [e1] at e
      simp only at e
      have h2 := HGQ.out
      omega
    · exact fun hl => absurd hl h0
  have u0 := cell_of_row _ G 0 _ _ _ hq8
  have u1 := cell_of_row _ G 1 _ _ _ hq8
  have u2 := cell_of_row _ G 2 _ _ _ hq8
  have u3 := cell_of_row _ G 3 _ _ _ hq8
  simp at u0 u1 u2 u3
  have HMI := Lib.hid (dmissing_any x gl m ⟨A8, n8, c8⟩ g.mem (g.inv ++ [p]) w8 g8.1 f8.1 g8.rn f8.rn (by have := HLN.out; omega) (by rw [List.length_append]; have := HLN.out; simp; omega))
  rw [← HMM.out] at HMI
  have HD88 := Lib.hid hd8
  have HFM8 := Lib.hid g8
  have HFY8 := Lib.hid f8
  have HBN8 := Lib.hid hb8
  have HG8 := Lib.hid hq8
  have HX8 := Lib.hid hx8
  have HC8 : Hid (Ctx w8 R vi) := hc7.size hs38
  have H8 := Lib.hid hw8
  rw [← hn8] at H8 ⊢
  clear y2 yf hw8 hq7 hn8 hq8 ho8 hc7 f8 g8 hb8 hx8 hs38 hd8
  rw [← H8.out]
  go_wp2_with fail
  refine HMI.out.mono ?_
  rintro r wm ⟨A11, c11, rfl, o11, hb11⟩
  have HD8 := Lib.hid (HD88.out.after hb11)
  have HFM := Lib.hid (HFM8.out.after hb11)
  have HFY := Lib.hid (HFY8.out.after hb11)
  have HBN := Lib.hid (HBN8.out.trans (hb11.mono HBN8.out.size))
  have HG9 := Lib.hid ((hb11.block _ (lt_of_block HG8.out)).trans HG8.out)
  have HX9 := Lib.hid ((hb11.block _ (lt_of_block HX8.out)).trans HX8.out)
  have HC9 := Lib.hid (HC8.out.size hb11.size)
  have HPT : Hid (∀ W, Below wm.heap.size wm W → Calls Try.prog 77 #[.slice A n c, .agg (dC x gl m ⟨A8, n8, c8⟩)] W fun r w' => DPutP R vi (insL L (yesP g p)) W r w') := fun W hW => by
    have := dput_any R vi A n c L (yesP g p) m ⟨A8, n8, c8⟩ W HDN.out.1 (HD8.out.after hW) HDN.out.2 HR.out (HFM.out.after hW) (HFY.out.after hW)
    rw [HGI.out.1, HGI.out.2]
    exact this
  have HCE : Hid (∀ W, Below wm.heap.size wm W → (fun W : World => W.cell? ⟨G, 0, none⟩ = some (.int .u32 (x : Int)) ∧ W.cell? ⟨G, 1, none⟩ = some (.slice m.a m.n m.c) ∧ W.cell? ⟨G, 2, none⟩ = some (.slice A8 n8 c8) ∧ W.cell? ⟨G, 3, none⟩ = some (.int .i64 gl)) W) := fun W hW => by
    have hgw := (hW.block _ (lt_of_block HG9.out)).trans HG9.out
    exact ⟨cell_of_row W G 0 _ _ _ hgw, cell_of_row W G 1 _ _ _ hgw, cell_of_row W G 2 _ _ _ hgw, cell_of_row W G 3 _ _ _ hgw⟩
  have HRF : Hid (Below wm.heap.size wm wm) := Below.refl _ _
  clear o11 hb11 u0 u1 u2 u3
  by_cases hM0 : M = []
  · have HOt : Hid (ov = true) := HOV.out.trans (decide_eq_true hM0)
    have HLt : Hid (LL = delL L x) := HLL.out.trans (if_pos hM0)
    clear HOV HLL HMM HMI
    subst hM0
    go_upto_region 8 with (fail)
    have HDa : Hid (Below wm.heap.size wm wm.drew) := HRF.out.drew
    refine wp_region_held_drew (S := fun W : World => W.cell? ⟨G, 0, none⟩ = some (.int .u32 (x : Int)) ∧ W.cell? ⟨G, 1, none⟩ = some (.slice m.a m.n m.c) ∧ W.cell? ⟨G, 2, none⟩ = some (.slice A8 n8 c8) ∧ W.cell? ⟨G, 3, none⟩ = some (.int .i64 gl)) (by kernel_rfl) (HCE.out _ (HDa.out)) (fun hHeld => ?_)
    obtain ⟨Wa0, hW0⟩ : ∃ W0, W0 = wm.drew := ⟨_, rfl⟩
    rw [← hW0] at hHeld HDa ⊢
    clear hW0
    refine wpAnyH_take (i := 0) (oi := ?oi0a) (v := ?v0a) ?hi0a ?hs0a ?hf0a ?hr0a ?hQ0a ?hy0a ?hS0a ?h0a
    case hi0a => exact (by simp only [List.getElem?_toArray, List.getElem?_cons_zero]; rfl)
    case hs0a => kernel_rfl
    case hf0a => kernel_rfl
    case hr0a => kernel_rfl
    case hQ0a => exact fun _ _ _ h => h
    case hy0a =>
      refine Or.inl ⟨rfl, ?_⟩
      intro W hSw
      obtain ⟨q0, q1, q2, q3⟩ := hSw
      go_simp
      try with_reducible rfl
    case hS0a => assumption
    try simp only [Act.put, List.setIfInBounds_toArray, List.set_cons_zero, List.set_cons_succ]
    refine wpAnyH_take (i := 1) (oi := ?oi1a) (v := ?v1a) ?hi1a ?hs1a ?hf1a ?hr1a ?hQ1a ?hy1a ?hS1a ?h1a
    case hi1a => exact (by simp only [List.getElem?_toArray, List.getElem?_cons_succ, List.getElem?_cons_zero]; rfl)
    case hs1a => kernel_rfl
    case hf1a => kernel_rfl
    case hr1a => kernel_rfl
    case hQ1a => exact fun _ _ _ h => h
    case hy1a =>
      refine Or.inl ⟨rfl, ?_⟩
      intro W hSw
      obtain ⟨q0, q1, q2, q3⟩ := hSw
      go_simp
      try with_reducible rfl
    case hS1a => assumption
    try simp only [Act.put, List.setIfInBounds_toArray, List.set_cons_zero, List.set_cons_succ]
    refine wpAnyH_take (i := 2) (oi := ?oi2a) (v := ?v2a) ?hi2a ?hs2a ?hf2a ?hr2a ?hQ2a ?hy2a ?hS2a ?h2a
    case hi2a => exact (by simp only [List.getElem?_toArray, List.getElem?_cons_succ, List.getElem?_cons_zero]; rfl)
    case hs2a => kernel_rfl
    case hf2a => kernel_rfl
    case hr2a => kernel_rfl
    case hQ2a => exact fun _ _ _ h => h
    case hy2a =>
      refine Or.inl ⟨rfl, ?_⟩
      intro W hSw
      obtain ⟨q0, q1, q2, q3⟩ := hSw
      go_simp
      try with_reducible rfl
    case hS2a => assumption
    try simp only [Act.put, List.setIfInBounds_toArray, List.set_cons_zero, List.set_cons_succ]
    refine wpAnyH_take (i := 4) (oi := ?oi4a) (v := ?v4a) ?hi4a ?hs4a ?hf4a ?hr4a ?hQ4a ?hy4a ?hS4a ?h4a
    case hi4a => exact (by simp only [List.getElem?_toArray, List.getElem?_cons_succ, List.getElem?_cons_zero]; rfl)
    case hs4a => kernel_rfl
    case hf4a => kernel_rfl
    case hr4a => kernel_rfl
    case hQ4a => exact fun _ _ _ h => h
    case hy4a =>
      refine Or.inl ⟨rfl, ?_⟩
      intro W hSw
      obtain ⟨q0, q1, q2, q3⟩ := hSw
      go_simp
      try with_reducible rfl
    case hS4a => assumption
    try simp only [Act.put, List.setIfInBounds_toArray, List.set_cons_zero, List.set_cons_succ]
    refine wpAnyH_ready (rs := [3]) (by kernel_rfl) (by simp) ?_
    refine AllReadyH.cons (o := _) rfl (fun K hK => ?_) AllReadyH.nil
    go_simp
    refine ((dclose_any R vi A n c L x Wa0 HDN.out.1 (HD8.out.after HDa.out) HDN.out.2)).mono ?_
    rintro r Wa1 ⟨A9, n9, c9, rfl, hn9, hd9, hbq, hf9⟩
    have HBa1 := Lib.hid (HDa.out.trans (hbq.mono HDa.out.size))
    have HN9 := Lib.hid hn9
    have HD9 := Lib.hid hd9
    have HA9 : Hid (∀ a, A9 = some a → wm.heap.size ≤ a.block) := fun a ha => Nat.le_trans HDa.out.size (hf9 a ha)
    clear hn9 hd9 hf9
    clear hbq
    refine hK.out _ _ (HCE.out _ (HBa1.out)) (fun hHeld => ?_)
    clear hK K
    try simp only [Act.put, List.setIfInBounds_toArray, List.set_cons_zero, List.set_cons_succ]
    refine wpAnyH_take (i := 5) (oi := ?oi5a) (v := ?v5a) ?hi5a ?hs5a ?hf5a ?hr5a ?hQ5a ?hy5a ?hS5a ?h5a
    case hi5a => exact (by simp only [List.getElem?_toArray, List.getElem?_cons_succ, List.getElem?_cons_zero]; rfl)
    case hs5a => kernel_rfl
    case hf5a => kernel_rfl
    case hr5a => kernel_rfl
    case hQ5a => exact fun _ _ _ h => h
    case hy5a =>
      refine Or.inl ⟨rfl, ?_⟩
      intro W hSw
      obtain ⟨q0, q1, q2, q3⟩ := hSw
      go_simp
      try with_reducible rfl
    case hS5a => assumption
    try simp only [Act.put, List.setIfInBounds_toArray, List.set_cons_zero, List.set_cons_succ]
    refine wpAnyH_ready (rs := [6]) (by kernel_rfl) (by simp) ?_
    refine AllReadyH.cons (o := _) rfl (fun K hK => ?_) AllReadyH.nil
    have hrX := (HBa1.out.block _ (lt_of_block HX9.out)).trans HX9.out
    have x0 := cell_of_row _ X 0 _ _ _ hrX
    have x1 := cell_of_row _ X 1 _ _ _ hrX
    have x2 := cell_of_row _ X 2 _ _ _ hrX
    have x3 := cell_of_row _ X 3 _ _ _ hrX
    simp at x0 x1 x2 x3
    have xf : ∀ i, Wa1.frozen? ⟨X, i, none⟩ = false := fun i => frozen_of_row _ _ i _ _ hrX
    go_simp
    have HCL := Lib.hid (four_cells (.int .u32 (x : Int)) (.slice m.a m.n m.c) (.slice A8 n8 c8) (.int .i64 gl) hrX)
    obtain ⟨Wz, hWz⟩ : ∃ Wz, Wz = four Wa1 X (.int .u32 (x : Int)) (.slice m.a m.n m.c) (.slice A8 n8 c8) (.int .i64 gl) := ⟨_, rfl⟩
    have ho : ∀ k, k ≠ X → Wz.heap[k]? = Wa1.heap[k]? := fun k hk => by rw [hWz]; exact four_other _ _ _ _ hk
    have hbz : Below w.heap.size w Wz := by rw [hWz]; exact four_below _ _ _ _ (HBN.out.trans (HBa1.out.mono HBN.out.size)) (by rw [HXX.out]; exact Nat.le_refl _)
    have hsz : Wa1.heap.size ≤ Wz.heap.size := by rw [hWz]; simp
    rw [← hWz] at HCL
    have HFIN : Hid (DAcP R vi (delL L x) x gl g.mem (g.inv ++ [p]) true w (.returned (.tuple #[.slice A9 n9 c9, .agg (dC x gl m ⟨A8, n8, c8⟩), .bool true, .int .i64 0])) Wz) := ⟨_, _, _, m, ⟨A8, n8, c8⟩, rfl, fl_oth (HFM.out.after HBa1.out) ho (drow hrX), fl_oth (HFY.out.after HBa1.out) ho (drow hrX), ⟨HN9.out, HD9.out.oth ho (drow hrX) (fun a ha e => by have h1 := HA9.out a ha; have h2 := lt_of_block HX9.out; omega), HC9.out.size (Nat.le_trans HBa1.out.size hsz)⟩, hbz⟩
    have HSz : Hid ((fun W : World => W.cell? ⟨G, 0, none⟩ = some (.int .u32 (x : Int)) ∧ W.cell? ⟨G, 1, none⟩ = some (.slice m.a m.n m.c) ∧ W.cell? ⟨G, 2, none⟩ = some (.slice A8 n8 c8) ∧ W.cell? ⟨G, 3, none⟩ = some (.int .i64 gl)) Wz) := by
      have hgz := (ho G (by have := HGX.out; omega)).trans ((HBa1.out.block _ (lt_of_block HG9.out)).trans HG9.out)
      exact ⟨cell_of_row Wz G 0 _ _ _ hgz, cell_of_row Wz G 1 _ _ _ hgz, cell_of_row Wz G 2 _ _ _ hgz, cell_of_row Wz G 3 _ _ _ hgz⟩
    unfold four at hWz
    rw [← hWz]
    clear hWz x0 x1 x2 x3 xf hrX ho hbz hsz
    refine hK.out _ _ (HSz.out) (fun hHeld => ?_)
    clear hK K
    try simp only [Act.put, List.setIfInBounds_toArray, List.set_cons_zero, List.set_cons_succ]
    refine wpAnyH_take (i := 7) (oi := ?oi7a) (v := ?v7a) ?hi7a ?hs7a ?hf7a ?hr7a ?hQ7a ?hy7a ?hS7a ?h7a
    case hi7a => exact (by simp only [List.getElem?_toArray, List.getElem?_cons_succ, List.getElem?_cons_zero]; rfl)
    case hs7a => kernel_rfl
    case hf7a => kernel_rfl
    case hr7a => kernel_rfl
    case hQ7a => exact fun _ _ _ h => h
    case hy7a =>
      refine Or.inl ⟨rfl, ?_⟩
      intro W hSw
      obtain ⟨q0, q1, q2, q3⟩ := hSw
      go_simp
      try with_reducible rfl
    case hS7a => assumption
    try simp only [Act.put, List.setIfInBounds_toArray, List.set_cons_zero, List.set_cons_succ]
    refine wpAnyH_take (i := 8) (oi := ?oi8a) (v := ?v8a) ?hi8a ?hs8a ?hf8a ?hr8a ?hQ8a ?hy8a ?hS8a ?h8a
    case hi8a => exact (by simp only [List.getElem?_toArray, List.getElem?_cons_succ, List.getElem?_cons_zero]; rfl)
    case hs8a => kernel_rfl
    case hf8a => kernel_rfl
    case hr8a => kernel_rfl
    case hQ8a => exact fun _ _ _ h => h
    case hy8a =>
      refine Or.inl ⟨rfl, ?_⟩
      intro W hSw
      obtain ⟨q0, q1, q2, q3⟩ := hSw
      go_simp
      try with_reducible rfl
    case hS8a => assumption
    try simp only [Act.put, List.setIfInBounds_toArray, List.set_cons_zero, List.set_cons_succ]
    refine wpAnyH_done (by kernel_rfl) ?_ _
    go_wp2_with fail
    obtain ⟨e0, e1, e2, e3⟩ := HCL.out
    exact bodyPost_ret (v := .tuple #[.slice A9 n9 c9, .agg (dC x gl m ⟨A8, n8, c8⟩), .bool true, .int .i64 0]) (by simp [results, Try.results35, go_sem, e0, e1, e2, e3]) rfl (by rw [HLt.out, HOt.out]; exact HFIN.out)
  · have HOt : Hid (ov = false) := HOV.out.trans (decide_eq_false hM0)
    have HLt : Hid (LL = insL L (yesP g p)) := HLL.out.trans (if_neg hM0)
    have hm1 : 1 ≤ M.length := List.length_pos_iff.2 hM0
    clear HOV HLL HMI hM0
    go_upto_region 9 with (fail)
    have HDb : Hid (Below wm.heap.size wm wm.drew) := HRF.out.drew
    refine wp_region_held_drew (S := fun W : World => W.cell? ⟨G, 0, none⟩ = some (.int .u32 (x : Int)) ∧ W.cell? ⟨G, 1, none⟩ = some (.slice m.a m.n m.c) ∧ W.cell? ⟨G, 2, none⟩ = some (.slice A8 n8 c8) ∧ W.cell? ⟨G, 3, none⟩ = some (.int .i64 gl)) (by kernel_rfl) (HCE.out _ (HDb.out)) (fun hHeld => ?_)
    obtain ⟨Wb0, hW0⟩ : ∃ W0, W0 = wm.drew := ⟨_, rfl⟩
    rw [← hW0] at hHeld HDb ⊢
    clear hW0
    refine wpAnyH_take (i := 0) (oi := ?oi0b) (v := ?v0b) ?hi0b ?hs0b ?hf0b ?hr0b ?hQ0b ?hy0b ?hS0b ?h0b
    case hi0b => exact (by simp only [List.getElem?_toArray, List.getElem?_cons_zero]; rfl)
    case hs0b => kernel_rfl
    case hf0b => kernel_rfl
    case hr0b => kernel_rfl
    case hQ0b => exact fun _ _ _ h => h
    case hy0b =>
      refine Or.inl ⟨rfl, ?_⟩
      intro W hSw
      obtain ⟨q0, q1, q2, q3⟩ := hSw
      go_simp
      try with_reducible rfl
    case hS0b => assumption
    try simp only [Act.put, List.setIfInBounds_toArray, List.set_cons_zero, List.set_cons_succ]
    refine wpAnyH_take (i := 1) (oi := ?oi1b) (v := ?v1b) ?hi1b ?hs1b ?hf1b ?hr1b ?hQ1b ?hy1b ?hS1b ?h1b
    case hi1b => exact (by simp only [List.getElem?_toArray, List.getElem?_cons_succ, List.getElem?_cons_zero]; rfl)
    case hs1b => kernel_rfl
    case hf1b => kernel_rfl
    case hr1b => kernel_rfl
    case hQ1b => exact fun _ _ _ h => h
    case hy1b =>
      refine Or.inl ⟨rfl, ?_⟩
      intro W hSw
      obtain ⟨q0, q1, q2, q3⟩ := hSw
      go_simp
      try with_reducible rfl
    case hS1b => assumption
    try simp only [Act.put, List.setIfInBounds_toArray, List.set_cons_zero, List.set_cons_succ]
    refine wpAnyH_take (i := 3) (oi := ?oi3b) (v := ?v3b) ?hi3b ?hs3b ?hf3b ?hr3b ?hQ3b ?hy3b ?hS3b ?h3b
    case hi3b => exact (by simp only [List.getElem?_toArray, List.getElem?_cons_succ, List.getElem?_cons_zero]; rfl)
    case hs3b => kernel_rfl
    case hf3b => kernel_rfl
    case hr3b => kernel_rfl
    case hQ3b => exact fun _ _ _ h => h
    case hy3b =>
      refine Or.inl ⟨rfl, ?_⟩
      intro W hSw
      obtain ⟨q0, q1, q2, q3⟩ := hSw
      go_simp
      try with_reducible rfl
    case hS3b => assumption
    try simp only [Act.put, List.setIfInBounds_toArray, List.set_cons_zero, List.set_cons_succ]
    refine wpAnyH_ready (rs := [2]) (by kernel_rfl) (by simp) ?_
    refine AllReadyH.cons (o := _) rfl (fun K hK => ?_) AllReadyH.nil
    go_simp
    refine ((HPT.out Wb0 HDb.out)).mono ?_
    rintro r Wb1 ⟨A9, n9, c9, rfl, hn9, hd9, hbq, hf9⟩
    have HBb1 := Lib.hid (HDb.out.trans (hbq.mono HDb.out.size))
    have HN9 := Lib.hid hn9
    have HD9 := Lib.hid hd9
    have HA9 : Hid (∀ a, A9 = some a → wm.heap.size ≤ a.block) := fun a ha => Nat.le_trans HDb.out.size (hf9 a ha)
    clear hn9 hd9 hf9
    clear hbq
    refine hK.out _ _ (HCE.out _ (HBb1.out)) (fun hHeld => ?_)
    clear hK K
    try simp only [Act.put, List.setIfInBounds_toArray, List.set_cons_zero, List.set_cons_succ]
    refine wpAnyH_take (i := 4) (oi := ?oi4b) (v := ?v4b) ?hi4b ?hs4b ?hf4b ?hr4b ?hQ4b ?hy4b ?hS4b ?h4b
    case hi4b => exact (by simp only [List.getElem?_toArray, List.getElem?_cons_succ, List.getElem?_cons_zero]; rfl)
    case hs4b => kernel_rfl
    case hf4b => kernel_rfl
    case hr4b => kernel_rfl
    case hQ4b => exact fun _ _ _ h => h
    case hy4b =>
      refine Or.inl ⟨rfl, ?_⟩
      intro W hSw
      obtain ⟨q0, q1, q2, q3⟩ := hSw
      go_simp
      try with_reducible rfl
    case hS4b => assumption
    try simp only [Act.put, List.setIfInBounds_toArray, List.set_cons_zero, List.set_cons_succ]
    refine wpAnyH_ready (rs := [5]) (by kernel_rfl) (by simp) ?_
    refine AllReadyH.cons (o := _) rfl (fun K hK => ?_) AllReadyH.nil
    have hrX := (HBb1.out.block _ (lt_of_block HX9.out)).trans HX9.out
    have x0 := cell_of_row _ X 0 _ _ _ hrX
    have x1 := cell_of_row _ X 1 _ _ _ hrX
    have x2 := cell_of_row _ X 2 _ _ _ hrX
    have x3 := cell_of_row _ X 3 _ _ _ hrX
    simp at x0 x1 x2 x3
    have xf : ∀ i, Wb1.frozen? ⟨X, i, none⟩ = false := fun i => frozen_of_row _ _ i _ _ hrX
    go_simp
    have HCL := Lib.hid (four_cells (.int .u32 (x : Int)) (.slice m.a m.n m.c) (.slice A8 n8 c8) (.int .i64 gl) hrX)
    obtain ⟨Wz, hWz⟩ : ∃ Wz, Wz = four Wb1 X (.int .u32 (x : Int)) (.slice m.a m.n m.c) (.slice A8 n8 c8) (.int .i64 gl) := ⟨_, rfl⟩
    have ho : ∀ k, k ≠ X → Wz.heap[k]? = Wb1.heap[k]? := fun k hk => by rw [hWz]; exact four_other _ _ _ _ hk
    have hbz : Below w.heap.size w Wz := by rw [hWz]; exact four_below _ _ _ _ (HBN.out.trans (HBb1.out.mono HBN.out.size)) (by rw [HXX.out]; exact Nat.le_refl _)
    have hsz : Wb1.heap.size ≤ Wz.heap.size := by rw [hWz]; simp
    rw [← hWz] at HCL
    have HFIN : Hid (DAcP R vi (insL L (yesP g p)) x gl g.mem (g.inv ++ [p]) false w (.returned (.tuple #[.slice A9 n9 c9, .agg (dC x gl m ⟨A8, n8, c8⟩), .bool false, .int .i64 0])) Wz) := ⟨_, _, _, m, ⟨A8, n8, c8⟩, rfl, fl_oth (HFM.out.after HBb1.out) ho (drow hrX), fl_oth (HFY.out.after HBb1.out) ho (drow hrX), ⟨HN9.out, HD9.out.oth ho (drow hrX) (fun a ha e => by have h1 := HA9.out a ha; have h2 := lt_of_block HX9.out; omega), HC9.out.size (Nat.le_trans HBb1.out.size hsz)⟩, hbz⟩
    have HSz : Hid ((fun W : World => W.cell? ⟨G, 0, none⟩ = some (.int .u32 (x : Int)) ∧ W.cell? ⟨G, 1, none⟩ = some (.slice m.a m.n m.c) ∧ W.cell? ⟨G, 2, none⟩ = some (.slice A8 n8 c8) ∧ W.cell? ⟨G, 3, none⟩ = some (.int .i64 gl)) Wz) := by
      have hgz := (ho G (by have := HGX.out; omega)).trans ((HBb1.out.block _ (lt_of_block HG9.out)).trans HG9.out)
      exact ⟨cell_of_row Wz G 0 _ _ _ hgz, cell_of_row Wz G 1 _ _ _ hgz, cell_of_row Wz G 2 _ _ _ hgz, cell_of_row Wz G 3 _ _ _ hgz⟩
    unfold four at hWz
    rw [← hWz]
    clear hWz x0 x1 x2 x3 xf hrX ho hbz hsz
    refine hK.out _ _ (HSz.out) (fun hHeld => ?_)
    clear hK K
    try simp only [Act.put, List.setIfInBounds_toArray, List.set_cons_zero, List.set_cons_succ]
    refine wpAnyH_take (i := 6) (oi := ?oi6b) (v := ?v6b) ?hi6b ?hs6b ?hf6b ?hr6b ?hQ6b ?hy6b ?hS6b ?h6b
    case hi6b => exact (by simp only [List.getElem?_toArray, List.getElem?_cons_succ, List.getElem?_cons_zero]; rfl)
    case hs6b => kernel_rfl
    case hf6b => kernel_rfl
    case hr6b => kernel_rfl
    case hQ6b => exact fun _ _ _ h => h
    case hy6b =>
      refine Or.inl ⟨rfl, ?_⟩
      intro W hSw
      obtain ⟨q0, q1, q2, q3⟩ := hSw
      go_simp
      try with_reducible rfl
    case hS6b => assumption
    try simp only [Act.put, List.setIfInBounds_toArray, List.set_cons_zero, List.set_cons_succ]
    refine wpAnyH_take (i := 7) (oi := ?oi7b) (v := ?v7b) ?hi7b ?hs7b ?hf7b ?hr7b ?hQ7b ?hy7b ?hS7b ?h7b
    case hi7b => exact (by simp only [List.getElem?_toArray, List.getElem?_cons_succ, List.getElem?_cons_zero]; rfl)
    case hs7b => kernel_rfl
    case hf7b => kernel_rfl
    case hr7b => kernel_rfl
    case hQ7b => exact fun _ _ _ h => h
    case hy7b =>
      refine Or.inl ⟨rfl, ?_⟩
      intro W hSw
      obtain ⟨q0, q1, q2, q3⟩ := hSw
      go_simp
      try with_reducible rfl
    case hS7b => assumption
    try simp only [Act.put, List.setIfInBounds_toArray, List.set_cons_zero, List.set_cons_succ]
    refine wpAnyH_done (by kernel_rfl) ?_ _
    go_wp2_with fail
    obtain ⟨e0, e1, e2, e3⟩ := HCL.out
    exact bodyPost_ret (v := .tuple #[.slice A9 n9 c9, .agg (dC x gl m ⟨A8, n8, c8⟩), .bool false, .int .i64 0]) (by simp [results, Try.results35, go_sem, e0, e1, e2, e3]) rfl (by rw [HLt.out, HOt.out]; exact HFIN.out)
end Go.Proofs.Ytemjmnpclknfaaa.P
