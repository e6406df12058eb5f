/- Ready: do, by what its calls answer. -/
import Derived.Test.YtemjmnpclknfaaaRE
import Derived.Test.YtemjmnpclknfaaaRF
import Derived.Test.YtemjmnpclknfaaaQD
namespace Go.Proofs.Ytemjmnpclknfaaa.P
open Go.RowKit
set_option maxRecDepth 20000
set_option linter.unusedVariables false
set_option linter.unusedSimpArgs false

theorem Dd.stp {w w' : World} {R : Nat} {vi vi' : Value} {A : Option Addr} {n : Nat} {L : List Pt} (h : Dd w R vi A n L) (hs : Stp R vi vi' w w') (hc : Ctx w' R vi') : Dd w' R vi' A n L := ⟨h.n, h.dr.stp hs, hc⟩
def DoP (B R : Nat) (mo : Int) (vi : Value) (L' : List Pt) (w : World) (r : Ending) (w' : World) : Prop := ∃ A n c vi', r = .returned (.tuple #[.slice A n c, .bool true]) ∧ Bk w' B R mo vi' L' ∧ Dd w' R vi' A n L' ∧ Stp R vi vi' w w'
def GP (B R : Nat) (mo : Int) (vi : Value) (L' : List Pt) (x : Nat) (l : Int) (M1 M2 : List Nat) (f : Value → Value) (w : World) (r : Ending) (w' : World) : Prop := ∃ a1 a2 : Sl, r = .returned (f (cV x a1 a2 l)) ∧ S32 w' (.slice a1.a a1.n a1.c) M1 ∧ S32 w' (.slice a2.a a2.n a2.c) M2 ∧ PutP B R mo vi L' w w'
def GD (R : Nat) (vi : Value) (x : Nat) (l : Int) (M1 M2 : List Nat) (is : Bool) (w : World) (r : Ending) (w' : World) : Prop := ∃ m v : Sl, r = .returned (.tuple #[.agg (dC x l m v), .bool is]) ∧ Fl w' R vi m M1 ∧ Fl w' R vi v M2 ∧ Below w.heap.size w w'
def GA (R : Nat) (vi : Value) (L' : List Pt) (x : Nat) (l : Int) (M1 M2 : List Nat) (over : Bool) (e : Int) (w : World) (r : Ending) (w' : World) : Prop := ∃ A n c, ∃ m v : Sl, r = .returned (.tuple #[.slice A n c, .agg (dC x l m v), .bool over, .int .i64 e]) ∧ Fl w' R vi m M1 ∧ Fl w' R vi v M2 ∧ Dd w' R vi A n L' ∧ Below w.heap.size w w'
set_option maxHeartbeats 8000000 in
theorem do_0 (B R : Nat) (mo : Int) (vi : Value) (L L2 : List Pt) (A : Option Addr) (n c id p : Nat) (PA : Option Addr) (pn pc : Nat) (t : Int) (w : World) (h : Bk w B R mo vi L) (hD : Dd w R vi A n L) (E : Int)
    (HP : Hid (∀ W, Below w.heap.size w W → Calls Try.prog 19 #[bp B, .int .u32 (id : Int), .int .i64 t, .slice PA pn pc] W fun r w' => r = .returned (.int .i64 E) ∧ PutP B R mo vi L2 W w'))
    (HO : Hid (∀ W vi1, Below R w W → Dd W R vi1 A n L → Calls Try.prog 34 #[.slice A n c, .int .i64 mo, .int .u32 (id : Int), .int .i64 t, .slice PA pn pc] W fun r w' => DOpP R vi1 L2 E W r w')) :
    Calls Try.prog 9 #[bp B, .slice A n c, .int .i64 mo, .agg #[.int .u8 0, .int .u32 (id : Int), .int .u32 (p : Int), .slice PA pn pc, .int .i64 t]] w fun r w' => DoP B R mo vi L2 w r w' := by
  obtain ⟨X, hX⟩ : ∃ X, X = w.heap.size := ⟨_, rfl⟩
  obtain ⟨w0, hw0⟩ : ∃ w0, w0 = w.alloc (.cells #[.int .u8 0, .int .u32 (id : Int), .int .u32 (p : Int), .slice PA pn pc, .int .i64 t] 29) := ⟨_, rfl⟩
  have hb0 : Below w.heap.size w w0 := by rw [hw0]; exact (Below.refl _ _).alloc (Nat.le_refl _) _
  have hq0 : w0.heap[X]? = some (.cells #[.int .u8 0, .int .u32 (id : Int), .int .u32 (p : Int), .slice PA pn pc, .int .i64 t] 29 (0, 0)) := by rw [hw0, hX]; exact heap_alloc_new w _
  have t0 := cell_of_row w0 X 0 _ _ _ hq0
  have t1 := cell_of_row w0 X 1 _ _ _ hq0
  have t2 := cell_of_row w0 X 2 _ _ _ hq0
  have t3 := cell_of_row w0 X 3 _ _ _ hq0
  have t4 := cell_of_row w0 X 4 _ _ _ hq0
  simp at t0 t1 t2 t3 t4
  have HBK := Lib.hid h
  have HD0 : Hid (Dd w0 R vi A n L) := hD.after hb0
  have H0 := Lib.hid hw0
  have HB0 : Hid (Below w.heap.size w w0) := hb0
  have HX := Lib.hid hX
  have HQ0 := Lib.hid hq0
  have HRW : Hid (R ≤ w.heap.size) := Nat.le_of_lt h.ctx.1
  clear hw0 hb0 hq0 hX h hD
  go_enter Try.func9, Try.ntmps9
  go_upto_region 1 with (fail)
  rw [← H0.out, ← HX.out]
  go_wp2_with fail
  refine (HP.out w0 HB0.out).mono ?_
  rintro r w1 ⟨rfl, vi1, hbk, hst⟩
  have HQ1 := Lib.hid ((hst.keep _ _ 29 HQ0.out (by decide) (by decide) (fun h => absurd h (by decide))).trans HQ0.out)
  clear t0 t1 t2 t3 t4
  have t0 := cell_of_row w1 X 0 _ _ _ HQ1.out
  have t1 := cell_of_row w1 X 1 _ _ _ HQ1.out
  have t2 := cell_of_row w1 X 2 _ _ _ HQ1.out
  have t3 := cell_of_row w1 X 3 _ _ _ HQ1.out
  have t4 := cell_of_row w1 X 4 _ _ _ HQ1.out
  simp at t0 t1 t2 t3 t4
  have HBK1 := Lib.hid hbk
  have HST1 : Hid (Stp R vi vi1 w w1) := hst.from HRW.out HB0.out
  have HDC1 := Lib.hid (HO.out w1 vi1 HST1.out.below (HD0.out.stp hst hbk.ctx))
  clear hbk hst
  go_wp2_with fail
  refine HDC1.out.mono ?_
  rintro r w2 ⟨A2, n2, c2, rfl, hd2, hb2⟩
  have HFIN : Hid (DoP B R mo vi L2 w (.returned (.tuple #[.slice A2 n2 c2, .bool true])) w2) := ⟨A2, n2, c2, vi1, rfl, HBK1.out.after hb2, hd2, HST1.out.trans (Stp.of_below (Nat.le_of_lt HBK1.out.ctx.1) hb2)⟩
  clear t0 t1 t2 t3 t4 hd2 hb2
  go_wp2
  exact bodyPost_ret (v := .tuple #[.slice A2 n2 c2, .bool true]) (by simp [results, Try.results9, go_sem]) rfl HFIN.out
theorem S32.fl {w : World} {R : Nat} {vi : Value} {s : Sl} {l : List Nat} (h : Fl w R vi s l) : S32 w (.slice s.a s.n s.c) l := S32.of_fl h
set_option maxHeartbeats 8000000 in
theorem do_1 (B R : Nat) (mo : Int) (vi : Value) (L L2 : List Pt) (A : Option Addr) (n c id p : Nat) (PA : Option Addr) (pn pc : Nat) (t : Int) (w : World) (h : Bk w B R mo vi L) (hD : Dd w R vi A n L) (x : Nat) (l : Int) (M1 M2 : List Nat) (over : Bool) (E : Int) (h1 : M1.length ≤ 100) (h2 : M2.length ≤ 100) (hnd : M2.Nodup)
    (HP : Hid (∀ W, Below w.heap.size w W → Calls Try.prog 20 #[bp B, .int .u32 (p : Int)] W fun r w' => GP B R mo vi L2 x l M1 M2 (fun v => .tuple #[v, .bool over, .int .i64 E]) W r w'))
    (HO : Hid (∀ W vi1, Dd W R vi1 A n L → Calls Try.prog 35 #[.slice A n c, .int .u32 (p : Int)] W fun r w' => GA R vi1 L2 x l M1 M2 over E W r w')) :
    Calls Try.prog 9 #[bp B, .slice A n c, .int .i64 mo, .agg #[.int .u8 1, .int .u32 (id : Int), .int .u32 (p : Int), .slice PA pn pc, .int .i64 t]] w fun r w' => DoP B R mo vi L2 w r w' := by
  obtain ⟨X, hX⟩ : ∃ X, X = w.heap.size := ⟨_, rfl⟩
  obtain ⟨w0, hw0⟩ : ∃ w0, w0 = w.alloc (.cells #[.int .u8 1, .int .u32 (id : Int), .int .u32 (p : Int), .slice PA pn pc, .int .i64 t] 29) := ⟨_, rfl⟩
  have hb0 : Below w.heap.size w w0 := by rw [hw0]; exact (Below.refl _ _).alloc (Nat.le_refl _) _
  have hq0 : w0.heap[X]? = some (.cells #[.int .u8 1, .int .u32 (id : Int), .int .u32 (p : Int), .slice PA pn pc, .int .i64 t] 29 (0, 0)) := by rw [hw0, hX]; exact heap_alloc_new w _
  have t0 := cell_of_row w0 X 0 _ _ _ hq0
  have t1 := cell_of_row w0 X 1 _ _ _ hq0
  have t2 := cell_of_row w0 X 2 _ _ _ hq0
  have t3 := cell_of_row w0 X 3 _ _ _ hq0
  have t4 := cell_of_row w0 X 4 _ _ _ hq0
  simp at t0 t1 t2 t3 t4
  have HBK := Lib.hid h
  have HD0 : Hid (Dd w0 R vi A n L) := hD.after hb0
  have H0 := Lib.hid hw0
  have HB0 : Hid (Below w.heap.size w w0) := hb0
  have HX := Lib.hid hX
  have HQ0 := Lib.hid hq0
  have HRW : Hid (R ≤ w.heap.size) := Nat.le_of_lt h.ctx.1
  have HL : Hid (M1.length ≤ 100 ∧ M2.length ≤ 100 ∧ M2.Nodup) := ⟨h1, h2, hnd⟩
  clear hw0 hb0 hq0 hX h hD h1 h2 hnd
  go_enter Try.func9, Try.ntmps9
  go_upto_region 1 with (fail)
  rw [← H0.out, ← HX.out]
  go_wp2_with fail
  refine (HP.out w0 HB0.out).mono ?_
  rintro r w1 ⟨a1, a2, rfl, s1, s2, vi1, hbk, hst⟩
  have HQ1 := Lib.hid ((hst.keep _ _ 29 HQ0.out (by decide) (by decide) (fun h => absurd h (by decide))).trans HQ0.out)
  clear t0 t1 t2 t3 t4
  obtain ⟨Y, hY⟩ : ∃ Y, Y = w1.heap.size := ⟨_, rfl⟩
  obtain ⟨w2, hw2⟩ : ∃ W, W = w1.alloc (.cells #[.int .u32 (x : Int), .slice a1.a a1.n a1.c, .slice a2.a a2.n a2.c, .int .i64 l] 33) := ⟨_, rfl⟩
  have hqY : w2.heap[Y]? = some (.cells #[.int .u32 (x : Int), .slice a1.a a1.n a1.c, .slice a2.a a2.n a2.c, .int .i64 l] 33 (0, 0)) := by rw [hw2, hY]; exact heap_alloc_new w1 _
  have hbw2 : Below w1.heap.size w1 w2 := by rw [hw2]; exact (Below.refl _ _).alloc (Nat.le_refl _) _
  have Hw2 := Lib.hid hw2
  have HY := Lib.hid hY
  have HQY := Lib.hid hqY
  have HQ2 := Lib.hid ((hbw2.block _ (lt_of_block HQ1.out)).trans HQ1.out)
  have t0 := cell_of_row w2 X 0 _ _ _ HQ2.out
  have t1 := cell_of_row w2 X 1 _ _ _ HQ2.out
  have t2 := cell_of_row w2 X 2 _ _ _ HQ2.out
  have t3 := cell_of_row w2 X 3 _ _ _ HQ2.out
  have t4 := cell_of_row w2 X 4 _ _ _ HQ2.out
  simp at t0 t1 t2 t3 t4
  have HBK1 := Lib.hid (hbk.after hbw2)
  have HST1 : Hid (Stp R vi vi1 w w2) := (hst.from HRW.out HB0.out).trans (Stp.of_below (Nat.le_of_lt hbk.ctx.1) hbw2)
  have HS1 := Lib.hid (s1.after hbw2)
  have HS2 := Lib.hid (s2.after hbw2)
  have HDC1 := Lib.hid (HO.out w2 vi1 ((HD0.out.stp hst hbk.ctx).after hbw2))
  clear hbk hst hY hw2 hqY hbw2 s1 s2
  go_upto_region 8 with (fail)
  rw [← Hw2.out, ← HY.out]
  go_wp2_with fail
  refine HDC1.out.mono ?_
  rintro r w3 ⟨A3, n3, c3, m, v, rfl, f1, f2, hd3, hb3⟩
  obtain ⟨Z, hZ⟩ : ∃ Y, Y = w3.heap.size := ⟨_, rfl⟩
  obtain ⟨w4, hw4⟩ : ∃ W, W = w3.alloc (.cells #[.int .u32 (x : Int), .slice m.a m.n m.c, .slice v.a v.n v.c, .int .i64 l] 36) := ⟨_, rfl⟩
  have hqZ : w4.heap[Z]? = some (.cells #[.int .u32 (x : Int), .slice m.a m.n m.c, .slice v.a v.n v.c, .int .i64 l] 36 (0, 0)) := by rw [hw4, hZ]; exact heap_alloc_new w3 _
  have hbw4 : Below w3.heap.size w3 w4 := by rw [hw4]; exact (Below.refl _ _).alloc (Nat.le_refl _) _
  have Hw4 := Lib.hid hw4
  have HZ := Lib.hid hZ
  have HQZ := Lib.hid hqZ
  have hb34 := hb3.trans (hbw4.mono hb3.size)
  have HQY4 := Lib.hid ((hb34.block _ (lt_of_block HQY.out)).trans HQY.out)
  clear t0 t1 t2 t3 t4
  have y0 := cell_of_row w4 Y 0 _ _ _ HQY4.out
  have y1 := cell_of_row w4 Y 1 _ _ _ HQY4.out
  have y2 := cell_of_row w4 Y 2 _ _ _ HQY4.out
  have y3 := cell_of_row w4 Y 3 _ _ _ HQY4.out
  simp at y0 y1 y2 y3
  have z0 := cell_of_row w4 Z 0 _ _ _ HQZ.out
  have z1 := cell_of_row w4 Z 1 _ _ _ HQZ.out
  have z2 := cell_of_row w4 Z 2 _ _ _ HQZ.out
  have z3 := cell_of_row w4 Z 3 _ _ _ HQZ.out
  simp at z0 z1 z2 z3
  have HSM := Lib.hid (lsame_any x l a1 a2 m v M1 M2 w4 (HS1.out.after hb34) (HS2.out.after hb34) (S32.of_fl (f1.after hbw4)) (S32.of_fl (f2.after hbw4)) HL.out.1 HL.out.2.1 HL.out.2.2)
  have HD4 := Lib.hid (hd3.after hbw4)
  have HB4 := Lib.hid hb34
  clear hZ hw4 hqZ hbw4 hb3 hb34 f1 f2 hd3
  go_upto_region 9 with (fail)
  rw [← Hw4.out, ← HZ.out]
  go_wp2_with fail
  refine HSM.out.mono ?_
  rintro r w5 ⟨rfl, hb5⟩
  have HFIN : Hid (DoP B R mo vi L2 w (.returned (.tuple #[.slice A3 n3 c3, .bool true])) w5) := ⟨A3, n3, c3, vi1, rfl, (HBK1.out.after HB4.out).after hb5, HD4.out.after hb5, HST1.out.trans (Stp.of_below (Nat.le_of_lt HBK1.out.ctx.1) (HB4.out.trans (hb5.mono HB4.out.size)))⟩
  clear y0 y1 y2 y3 z0 z1 z2 z3 hb5
  go_wp2
  exact bodyPost_ret (v := .tuple #[.slice A3 n3 c3, .bool true]) (by simp [results, Try.results9, go_sem]) rfl HFIN.out
set_option maxHeartbeats 8000000 in
theorem do_2 (B R : Nat) (mo : Int) (vi : Value) (L L2 : List Pt) (A : Option Addr) (n c id p : Nat) (PA : Option Addr) (pn pc : Nat) (t : Int) (w : World) (h : Bk w B R mo vi L) (hD : Dd w R vi A n L) (q : Nat) (x : Nat) (l : Int) (M1 M2 : List Nat) (is : Bool) (E : Int) (hE : (is = true ∧ E = 0) ∨ (is = false ∧ E = 12)) (h1 : M1.length ≤ 100) (h2 : M2.length ≤ 100) (hnd : M2.Nodup)
    (HOF : Hid (∀ W, Below w.heap.size w W → Calls Try.prog 14 #[.slice A n c, .int .u32 (p : Int)] W fun r w' => r = .returned (.int .u32 (q : Int)) ∧ w' = W))
    (HG : Hid (∀ W, Below w.heap.size w W → Calls Try.prog 11 #[.slice A n c, .int .u32 (q : Int)] W fun r w' => GD R vi x l M1 M2 is W r w'))
    (HP : Hid (∀ W, Below w.heap.size w W → Calls Try.prog 21 #[bp B, .int .u32 (p : Int)] W fun r w' => GP B R mo vi L2 x l M1 M2 (fun v => .tuple #[v, .int .i64 E]) W r w'))
    (HC : Hid (∀ W vi1, Dd W R vi1 A n L → Calls Try.prog 36 #[.slice A n c, .int .u32 (q : Int)] W fun r w' => DPutP R vi1 L2 W r w')) :
    Calls Try.prog 9 #[bp B, .slice A n c, .int .i64 mo, .agg #[.int .u8 2, .int .u32 (id : Int), .int .u32 (p : Int), .slice PA pn pc, .int .i64 t]] w fun r w' => DoP B R mo vi L2 w r w' := by
  obtain ⟨X, hX⟩ : ∃ X, X = w.heap.size := ⟨_, rfl⟩
  obtain ⟨w0, hw0⟩ : ∃ w0, w0 = w.alloc (.cells #[.int .u8 2, .int .u32 (id : Int), .int .u32 (p : Int), .slice PA pn pc, .int .i64 t] 29) := ⟨_, rfl⟩
  have hb0 : Below w.heap.size w w0 := by rw [hw0]; exact (Below.refl _ _).alloc (Nat.le_refl _) _
  have hq0 : w0.heap[X]? = some (.cells #[.int .u8 2, .int .u32 (id : Int), .int .u32 (p : Int), .slice PA pn pc, .int .i64 t] 29 (0, 0)) := by rw [hw0, hX]; exact heap_alloc_new w _
  have t0 := cell_of_row w0 X 0 _ _ _ hq0
  have t1 := cell_of_row w0 X 1 _ _ _ hq0
  have t2 := cell_of_row w0 X 2 _ _ _ hq0
  have t3 := cell_of_row w0 X 3 _ _ _ hq0
  have t4 := cell_of_row w0 X 4 _ _ _ hq0
  simp at t0 t1 t2 t3 t4
  have HBK := Lib.hid h
  have HD0 : Hid (Dd w0 R vi A n L) := hD.after hb0
  have H0 := Lib.hid hw0
  have HB0 : Hid (Below w.heap.size w w0) := hb0
  have HX := Lib.hid hX
  have HQ0 := Lib.hid hq0
  have HRW : Hid (R ≤ w.heap.size) := Nat.le_of_lt h.ctx.1
  have HL : Hid (M1.length ≤ 100 ∧ M2.length ≤ 100 ∧ M2.Nodup) := ⟨h1, h2, hnd⟩
  clear hw0 hb0 hq0 hX h hD h1 h2 hnd
  go_enter Try.func9, Try.ntmps9
  go_upto_region 1 with (fail)
  rw [← H0.out, ← HX.out]
  go_wp2_with fail
  refine (HOF.out w0 HB0.out).mono ?_
  rintro r wq ⟨rfl, hw⟩
  have hw := hw.symm
  subst hw
  go_wp2_with fail
  refine (HG.out w0 HB0.out).mono ?_
  rintro r w1 ⟨m, v, rfl, f1, f2, hb1⟩
  obtain ⟨Z, hZ⟩ : ∃ Y, Y = w1.heap.size := ⟨_, rfl⟩
  obtain ⟨w2, hw2⟩ : ∃ W, W = w1.alloc (.cells #[.int .u32 (x : Int), .slice m.a m.n m.c, .slice v.a v.n v.c, .int .i64 l] 36) := ⟨_, rfl⟩
  have hqZ : w2.heap[Z]? = some (.cells #[.int .u32 (x : Int), .slice m.a m.n m.c, .slice v.a v.n v.c, .int .i64 l] 36 (0, 0)) := by rw [hw2, hZ]; exact heap_alloc_new w1 _
  have hbw2 : Below w1.heap.size w1 w2 := by rw [hw2]; exact (Below.refl _ _).alloc (Nat.le_refl _) _
  have Hw2 := Lib.hid hw2
  have HZ := Lib.hid hZ
  have HQZ := Lib.hid hqZ
  have hb12 := hb1.trans (hbw2.mono hb1.size)
  have HQ2 := Lib.hid ((hb12.block _ (lt_of_block HQ0.out)).trans HQ0.out)
  clear t0 t1 t2 t3 t4
  have t0 := cell_of_row w2 X 0 _ _ _ HQ2.out
  have t1 := cell_of_row w2 X 1 _ _ _ HQ2.out
  have t2 := cell_of_row w2 X 2 _ _ _ HQ2.out
  have t3 := cell_of_row w2 X 3 _ _ _ HQ2.out
  have t4 := cell_of_row w2 X 4 _ _ _ HQ2.out
  simp at t0 t1 t2 t3 t4
  have HB2 : Hid (Below w.heap.size w w2) := HB0.out.trans (hb12.mono HB0.out.size)
  have HF1 := Lib.hid (f1.after hbw2)
  have HF2 := Lib.hid (f2.after hbw2)
  have HD2 := Lib.hid (HD0.out.after hb12)
  clear hZ hw2 hqZ hbw2 hb1 hb12 f1 f2
  go_upto_region 13 with (fail)
  rw [← Hw2.out, ← HZ.out]
  go_wp2_with fail
  refine (HP.out w2 HB2.out).mono ?_
  rintro r w3 ⟨a1, a2, rfl, s1, s2, vi1, hbk, hst⟩
  have HQ3 := Lib.hid ((hst.keep _ _ 29 HQ2.out (by decide) (by decide) (fun h => absurd h (by decide))).trans HQ2.out)
  have HQZ3 := Lib.hid ((hst.keep _ _ 36 HQZ.out (by decide) (by decide) (fun h => absurd h (by decide))).trans HQZ.out)
  obtain ⟨Y, hY⟩ : ∃ Y, Y = w3.heap.size := ⟨_, rfl⟩
  obtain ⟨w4, hw4⟩ : ∃ W, W = w3.alloc (.cells #[.int .u32 (x : Int), .slice a1.a a1.n a1.c, .slice a2.a a2.n a2.c, .int .i64 l] 33) := ⟨_, rfl⟩
  have hqY : w4.heap[Y]? = some (.cells #[.int .u32 (x : Int), .slice a1.a a1.n a1.c, .slice a2.a a2.n a2.c, .int .i64 l] 33 (0, 0)) := by rw [hw4, hY]; exact heap_alloc_new w3 _
  have hbw4 : Below w3.heap.size w3 w4 := by rw [hw4]; exact (Below.refl _ _).alloc (Nat.le_refl _) _
  have Hw4 := Lib.hid hw4
  have HY := Lib.hid hY
  have HQY := Lib.hid hqY
  have HQ4 := Lib.hid ((hbw4.block _ (lt_of_block HQ3.out)).trans HQ3.out)
  have HQZ4 := Lib.hid ((hbw4.block _ (lt_of_block HQZ3.out)).trans HQZ3.out)
  clear t0 t1 t2 t3 t4
  have t0 := cell_of_row w4 X 0 _ _ _ HQ4.out
  have t1 := cell_of_row w4 X 1 _ _ _ HQ4.out
  have t2 := cell_of_row w4 X 2 _ _ _ HQ4.out
  have t3 := cell_of_row w4 X 3 _ _ _ HQ4.out
  have t4 := cell_of_row w4 X 4 _ _ _ HQ4.out
  simp at t0 t1 t2 t3 t4
  have HBK1 := Lib.hid (hbk.after hbw4)
  have HST1 : Hid (Stp R vi vi1 w w4) := (hst.from HRW.out HB2.out).trans (Stp.of_below (Nat.le_of_lt hbk.ctx.1) hbw4)
  have HS1 := Lib.hid (s1.after hbw4)
  have HS2 := Lib.hid (s2.after hbw4)
  have HG1 := Lib.hid ((HF1.out.stp hst).after hbw4)
  have HG2 := Lib.hid ((HF2.out.stp hst).after hbw4)
  have HDC1 := Lib.hid (HC.out w4 vi1 ((HD2.out.stp hst hbk.ctx).after hbw4))
  clear hbk hst hY hw4 hqY hbw4 s1 s2
  go_upto_region 14 with (fail)
  rw [← Hw4.out, ← HY.out]
  go_wp2_with fail
  refine HDC1.out.mono ?_
  rintro r w5 ⟨A5, n5, c5, rfl, hn5, hd5, hb5, _⟩
  have HQY5 := Lib.hid ((hb5.block _ (lt_of_block HQY.out)).trans HQY.out)
  have HQZ5 := Lib.hid ((hb5.block _ (lt_of_block HQZ4.out)).trans HQZ4.out)
  clear t0 t1 t2 t3 t4
  have y0 := cell_of_row w5 Y 0 _ _ _ HQY5.out
  have y1 := cell_of_row w5 Y 1 _ _ _ HQY5.out
  have y2 := cell_of_row w5 Y 2 _ _ _ HQY5.out
  have y3 := cell_of_row w5 Y 3 _ _ _ HQY5.out
  simp at y0 y1 y2 y3
  have z0 := cell_of_row w5 Z 0 _ _ _ HQZ5.out
  have z1 := cell_of_row w5 Z 1 _ _ _ HQZ5.out
  have z2 := cell_of_row w5 Z 2 _ _ _ HQZ5.out
  have z3 := cell_of_row w5 Z 3 _ _ _ HQZ5.out
  simp at z0 z1 z2 z3
  have HSM := Lib.hid (lsame_any x l a1 a2 m v M1 M2 w5 (HS1.out.after hb5) (HS2.out.after hb5) (S32.of_fl (HG1.out.after hb5)) (S32.of_fl (HG2.out.after hb5)) HL.out.1 HL.out.2.1 HL.out.2.2)
  have HD5 : Hid (Dd w5 R vi1 A5 n5 L2) := ⟨hn5, hd5, (HBK1.out.after hb5).ctx⟩
  have HB5 := Lib.hid hb5
  clear hn5 hd5 hb5
  rcases hE with ⟨rfl, rfl⟩ | ⟨rfl, rfl⟩
  · go_wp2_with fail
    refine HSM.out.mono ?_
    rintro r w6 ⟨rfl, hb6⟩
    have HFIN : Hid (DoP B R mo vi L2 w (.returned (.tuple #[.slice A5 n5 c5, .bool true])) w6) := ⟨A5, n5, c5, vi1, rfl, (HBK1.out.after HB5.out).after hb6, HD5.out.after hb6, HST1.out.trans (Stp.of_below (Nat.le_of_lt HBK1.out.ctx.1) (HB5.out.trans (hb6.mono HB5.out.size)))⟩
    clear y0 y1 y2 y3 z0 z1 z2 z3 hb6
    go_wp2
    exact bodyPost_ret (v := .tuple #[.slice A5 n5 c5, .bool true]) (by simp [results, Try.results9, go_sem]) rfl HFIN.out
  · go_wp2_with fail
    refine HSM.out.mono ?_
    rintro r w6 ⟨rfl, hb6⟩
    have HFIN : Hid (DoP B R mo vi L2 w (.returned (.tuple #[.slice A5 n5 c5, .bool true])) w6) := ⟨A5, n5, c5, vi1, rfl, (HBK1.out.after HB5.out).after hb6, HD5.out.after hb6, HST1.out.trans (Stp.of_below (Nat.le_of_lt HBK1.out.ctx.1) (HB5.out.trans (hb6.mono HB5.out.size)))⟩
    clear y0 y1 y2 y3 z0 z1 z2 z3 hb6
    go_wp2
    exact bodyPost_ret (v := .tuple #[.slice A5 n5 c5, .bool true]) (by simp [results, Try.results9, go_sem]) rfl HFIN.out
set_option maxHeartbeats 8000000 in
theorem do_3 (B R : Nat) (mo : Int) (vi : Value) (L L2 : List Pt) (A : Option Addr) (n c id p : Nat) (PA : Option Addr) (pn pc : Nat) (t : Int) (w : World) (h : Bk w B R mo vi L) (hD : Dd w R vi A n L) (x : Nat) (l : Int) (M1 M2 : List Nat) (is : Bool) (h1 : M1.length ≤ 100) (h2 : M2.length ≤ 100) (hnd : M2.Nodup)
    (HG : Hid (∀ W, Below w.heap.size w W → Calls Try.prog 11 #[.slice A n c, .int .u32 (id : Int)] W fun r w' => GD R vi x l M1 M2 is W r w'))
    (HP : Hid (∀ W, Below w.heap.size w W → Calls Try.prog 23 #[bp B, .int .u32 (id : Int)] W fun r w' => GP B R mo vi L2 x l M1 M2 (fun v => .tuple #[v, .bool is]) W r w'))
    (HC : Hid (∀ W vi1, Dd W R vi1 A n L → Calls Try.prog 36 #[.slice A n c, .int .u32 (id : Int)] W fun r w' => DPutP R vi1 L2 W r w')) :
    Calls Try.prog 9 #[bp B, .slice A n c, .int .i64 mo, .agg #[.int .u8 3, .int .u32 (id : Int), .int .u32 (p : Int), .slice PA pn pc, .int .i64 t]] w fun r w' => DoP B R mo vi L2 w r w' := by
  obtain ⟨X, hX⟩ : ∃ X, X = w.heap.size := ⟨_, rfl⟩
  obtain ⟨w0, hw0⟩ : ∃ w0, w0 = w.alloc (.cells #[.int .u8 3, .int .u32 (id : Int), .int .u32 (p : Int), .slice PA pn pc, .int .i64 t] 29) := ⟨_, rfl⟩
  have hb0 : Below w.heap.size w w0 := by rw [hw0]; exact (Below.refl _ _).alloc (Nat.le_refl _) _
  have hq0 : w0.heap[X]? = some (.cells #[.int .u8 3, .int .u32 (id : Int), .int .u32 (p : Int), .slice PA pn pc, .int .i64 t] 29 (0, 0)) := by rw [hw0, hX]; exact heap_alloc_new w _
  have t0 := cell_of_row w0 X 0 _ _ _ hq0
  have t1 := cell_of_row w0 X 1 _ _ _ hq0
  have t2 := cell_of_row w0 X 2 _ _ _ hq0
  have t3 := cell_of_row w0 X 3 _ _ _ hq0
  have t4 := cell_of_row w0 X 4 _ _ _ hq0
  simp at t0 t1 t2 t3 t4
  have HBK := Lib.hid h
  have HD0 : Hid (Dd w0 R vi A n L) := hD.after hb0
  have H0 := Lib.hid hw0
  have HB0 : Hid (Below w.heap.size w w0) := hb0
  have HX := Lib.hid hX
  have HQ0 := Lib.hid hq0
  have HRW : Hid (R ≤ w.heap.size) := Nat.le_of_lt h.ctx.1
  have HL : Hid (M1.length ≤ 100 ∧ M2.length ≤ 100 ∧ M2.Nodup) := ⟨h1, h2, hnd⟩
  clear hw0 hb0 hq0 hX h hD h1 h2 hnd
  go_enter Try.func9, Try.ntmps9
  go_upto_region 1 with (fail)
  rw [← H0.out, ← HX.out]
  go_wp2_with fail
  refine (HG.out w0 HB0.out).mono ?_
  rintro r w1 ⟨m, v, rfl, f1, f2, hb1⟩
  obtain ⟨Z, hZ⟩ : ∃ Y, Y = w1.heap.size := ⟨_, rfl⟩
  obtain ⟨w2, hw2⟩ : ∃ W, W = w1.alloc (.cells #[.int .u32 (x : Int), .slice m.a m.n m.c, .slice v.a v.n v.c, .int .i64 l] 36) := ⟨_, rfl⟩
  have hqZ : w2.heap[Z]? = some (.cells #[.int .u32 (x : Int), .slice m.a m.n m.c, .slice v.a v.n v.c, .int .i64 l] 36 (0, 0)) := by rw [hw2, hZ]; exact heap_alloc_new w1 _
  have hbw2 : Below w1.heap.size w1 w2 := by rw [hw2]; exact (Below.refl _ _).alloc (Nat.le_refl _) _
  have Hw2 := Lib.hid hw2
  have HZ := Lib.hid hZ
  have HQZ := Lib.hid hqZ
  have hb12 := hb1.trans (hbw2.mono hb1.size)
  have HQ2 := Lib.hid ((hb12.block _ (lt_of_block HQ0.out)).trans HQ0.out)
  clear t0 t1 t2 t3 t4
  have t0 := cell_of_row w2 X 0 _ _ _ HQ2.out
  have t1 := cell_of_row w2 X 1 _ _ _ HQ2.out
  have t2 := cell_of_row w2 X 2 _ _ _ HQ2.out
  have t3 := cell_of_row w2 X 3 _ _ _ HQ2.out
  have t4 := cell_of_row w2 X 4 _ _ _ HQ2.out
  simp at t0 t1 t2 t3 t4
  have HB2 : Hid (Below w.heap.size w w2) := HB0.out.trans (hb12.mono HB0.out.size)
  have HF1 := Lib.hid (f1.after hbw2)
  have HF2 := Lib.hid (f2.after hbw2)
  have HD2 := Lib.hid (HD0.out.after hb12)
  clear hZ hw2 hqZ hbw2 hb1 hb12 f1 f2
  go_upto_region 17 with (fail)
  rw [← Hw2.out, ← HZ.out]
  go_wp2_with fail
  refine (HP.out w2 HB2.out).mono ?_
  rintro r w3 ⟨a1, a2, rfl, s1, s2, vi1, hbk, hst⟩
  have HQ3 := Lib.hid ((hst.keep _ _ 29 HQ2.out (by decide) (by decide) (fun h => absurd h (by decide))).trans HQ2.out)
  have HQZ3 := Lib.hid ((hst.keep _ _ 36 HQZ.out (by decide) (by decide) (fun h => absurd h (by decide))).trans HQZ.out)
  obtain ⟨Y, hY⟩ : ∃ Y, Y = w3.heap.size := ⟨_, rfl⟩
  obtain ⟨w4, hw4⟩ : ∃ W, W = w3.alloc (.cells #[.int .u32 (x : Int), .slice a1.a a1.n a1.c, .slice a2.a a2.n a2.c, .int .i64 l] 33) := ⟨_, rfl⟩
  have hqY : w4.heap[Y]? = some (.cells #[.int .u32 (x : Int), .slice a1.a a1.n a1.c, .slice a2.a a2.n a2.c, .int .i64 l] 33 (0, 0)) := by rw [hw4, hY]; exact heap_alloc_new w3 _
  have hbw4 : Below w3.heap.size w3 w4 := by rw [hw4]; exact (Below.refl _ _).alloc (Nat.le_refl _) _
  have Hw4 := Lib.hid hw4
  have HY := Lib.hid hY
  have HQY := Lib.hid hqY
  have HQ4 := Lib.hid ((hbw4.block _ (lt_of_block HQ3.out)).trans HQ3.out)
  have HQZ4 := Lib.hid ((hbw4.block _ (lt_of_block HQZ3.out)).trans HQZ3.out)
  clear t0 t1 t2 t3 t4
  have t0 := cell_of_row w4 X 0 _ _ _ HQ4.out
  have t1 := cell_of_row w4 X 1 _ _ _ HQ4.out
  have t2 := cell_of_row w4 X 2 _ _ _ HQ4.out
  have t3 := cell_of_row w4 X 3 _ _ _ HQ4.out
  have t4 := cell_of_row w4 X 4 _ _ _ HQ4.out
  simp at t0 t1 t2 t3 t4
  have HBK1 := Lib.hid (hbk.after hbw4)
  have HST1 : Hid (Stp R vi vi1 w w4) := (hst.from HRW.out HB2.out).trans (Stp.of_below (Nat.le_of_lt hbk.ctx.1) hbw4)
  have HS1 := Lib.hid (s1.after hbw4)
  have HS2 := Lib.hid (s2.after hbw4)
  have HG1 := Lib.hid ((HF1.out.stp hst).after hbw4)
  have HG2 := Lib.hid ((HF2.out.stp hst).after hbw4)
  have HDC1 := Lib.hid (HC.out w4 vi1 ((HD2.out.stp hst hbk.ctx).after hbw4))
  clear hbk hst hY hw4 hqY hbw4 s1 s2
  go_upto_region 18 with (fail)
  rw [← Hw4.out, ← HY.out]
  go_wp2_with fail
  refine HDC1.out.mono ?_
  rintro r w5 ⟨A5, n5, c5, rfl, hn5, hd5, hb5, _⟩
  have HQY5 := Lib.hid ((hb5.block _ (lt_of_block HQY.out)).trans HQY.out)
  have HQZ5 := Lib.hid ((hb5.block _ (lt_of_block HQZ4.out)).trans HQZ4.out)
  clear t0 t1 t2 t3 t4
  have y0 := cell_of_row w5 Y 0 _ _ _ HQY5.out
  have y1 := cell_of_row w5 Y 1 _ _ _ HQY5.out
  have y2 := cell_of_row w5 Y 2 _ _ _ HQY5.out
  have y3 := cell_of_row w5 Y 3 _ _ _ HQY5.out
  simp at y0 y1 y2 y3
  have z0 := cell_of_row w5 Z 0 _ _ _ HQZ5.out
  have z1 := cell_of_row w5 Z 1 _ _ _ HQZ5.out
  have z2 := cell_of_row w5 Z 2 _ _ _ HQZ5.out
  have z3 := cell_of_row w5 Z 3 _ _ _ HQZ5.out
  simp at z0 z1 z2 z3
  have HSM := Lib.hid (lsame_any x l a1 a2 m v M1 M2 w5 (HS1.out.after hb5) (HS2.out.after hb5) (S32.of_fl (HG1.out.after hb5)) (S32.of_fl (HG2.out.after hb5)) HL.out.1 HL.out.2.1 HL.out.2.2)
  have HD5 : Hid (Dd w5 R vi1 A5 n5 L2) := ⟨hn5, hd5, (HBK1.out.after hb5).ctx⟩
  have HB5 := Lib.hid hb5
  clear hn5 hd5 hb5
  go_wp2_with fail
  refine HSM.out.mono ?_
  rintro r w6 ⟨rfl, hb6⟩
  have HFIN : Hid (DoP B R mo vi L2 w (.returned (.tuple #[.slice A5 n5 c5, .bool true])) w6) := ⟨A5, n5, c5, vi1, rfl, (HBK1.out.after HB5.out).after hb6, HD5.out.after hb6, HST1.out.trans (Stp.of_below (Nat.le_of_lt HBK1.out.ctx.1) (HB5.out.trans (hb6.mono HB5.out.size)))⟩
  clear y0 y1 y2 y3 z0 z1 z2 z3 hb6
  go_wp2
  exact bodyPost_ret (v := .tuple #[.slice A5 n5 c5, .bool true]) (by simp [results, Try.results9, go_sem]) rfl HFIN.out
set_option maxHeartbeats 4000000 in
theorem do_4 (B R : Nat) (mo : Int) (vi : Value) (L : List Pt) (A : Option Addr) (n c id p : Nat) (PA : Option Addr) (pn pc : Nat) (t : Int) (w : World) (h : Bk w B R mo vi L) (hD : Dd w R vi A n L) (d : Int) (h0 : d ≠ 0) (h1 : d ≠ 1) (h2 : d ≠ 2) (h3 : d ≠ 3) :
    Calls Try.prog 9 #[bp B, .slice A n c, .int .i64 mo, .agg #[.int .u8 d, .int .u32 (id : Int), .int .u32 (p : Int), .slice PA pn pc, .int .i64 t]] w fun r w' => DoP B R mo vi L w r w' := by
  obtain ⟨X, hX⟩ : ∃ X, X = w.heap.size := ⟨_, rfl⟩
  obtain ⟨w0, hw0⟩ : ∃ w0, w0 = w.alloc (.cells #[.int .u8 d, .int .u32 (id : Int), .int .u32 (p : Int), .slice PA pn pc, .int .i64 t] 29) := ⟨_, rfl⟩
  have hb0 : Below w.heap.size w w0 := by rw [hw0]; exact (Below.refl _ _).alloc (Nat.le_refl _) _
  have hq0 : w0.heap[X]? = some (.cells #[.int .u8 d, .int .u32 (id : Int), .int .u32 (p : Int), .slice PA pn pc, .int .i64 t] 29 (0, 0)) := by rw [hw0, hX]; exact heap_alloc_new w _
  have t0 := cell_of_row w0 X 0 _ _ _ hq0
  have t1 := cell_of_row w0 X 1 _ _ _ hq0
  have t2 := cell_of_row w0 X 2 _ _ _ hq0
  have t3 := cell_of_row w0 X 3 _ _ _ hq0
  have t4 := cell_of_row w0 X 4 _ _ _ hq0
  simp at t0 t1 t2 t3 t4
  have HBK := Lib.hid h
  have HD0 : Hid (Dd w0 R vi A n L) := hD.after hb0
  have H0 := Lib.hid hw0
  have HB0 : Hid (Below w.heap.size w w0) := hb0
  have HX := Lib.hid hX
  have HQ0 := Lib.hid hq0
  have HRW : Hid (R ≤ w.heap.size) := Nat.le_of_lt h.ctx.1
  have HFIN : Hid (DoP B R mo vi L w (.returned (.tuple #[.slice A n c, .bool true])) w0) := ⟨A, n, c, vi, rfl, h.after hb0, hD.after hb0, Stp.of_below HRW.out hb0⟩
  clear hw0 hb0 hq0 hX h hD
  go_enter Try.func9, Try.ntmps9
  go_upto_region 1 with (fail)
  rw [← H0.out, ← HX.out]
  go_wp2
  exact bodyPost_ret (v := .tuple #[.slice A n c, .bool true]) (by simp [results, Try.results9, go_sem]) rfl HFIN.out
end Go.Proofs.Ytemjmnpclknfaaa.P
