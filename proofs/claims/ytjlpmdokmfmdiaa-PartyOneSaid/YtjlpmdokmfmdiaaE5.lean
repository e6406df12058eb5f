/- Party: do. -/
import Derived.Test.YtjlpmdokmfmdiaaE4
import Derived.Test.YtjlpmdokmfmdiaaDG
namespace Go.Proofs.Ytjlpmdokmfmdiaa.P
open Go.RowKit
set_option maxRecDepth 20000
set_option linter.unusedVariables false
set_option linter.unusedSimpArgs false

theorem Dd.stp {w w' : World} {R : Nat} {vi vi' : Value} {A : Option Addr} {n : Nat} {L : List Pt} (h : Dd w R vi A n L) (hs : Stp R vi vi' w w') (hc : Ctx w' R vi') : Dd w' R vi' A n L := ⟨h.n, h.dr.stp hs, hc⟩
def DoP (B R : Nat) (mo : Int) (vi : Value) (L' : List Pt) (w : World) (r : Ending) (w' : World) : Prop := ∃ A n c vi', r = .returned (.tuple #[.slice A n c, .bool true]) ∧ Bk w' B R mo vi' L' ∧ Dd w' R vi' A n L' ∧ Stp R vi vi' w w'
set_option maxHeartbeats 4000000 in
theorem do_0 (B R : Nat) (mo : Int) (vi : Value) (L : List Pt) (A : Option Addr) (n c a b : Nat) (w : World) (h : Bk w B R mo vi L) (hD : Dd w R vi A n L) (hI : Inv L) (hl : n ≤ 100) (hmo : mo ≤ 2147483647) :
    Calls Try.prog 13 #[bp B, .slice A n c, .int .i64 mo, .agg #[.int .u8 0, .int .u32 (a : Int), .int .u32 (b : Int)]] w fun r w' => DoP B R mo vi (actL mo 0 L a b) w r w' := by
  obtain ⟨⟨L2, x, e⟩, hS⟩ : ∃ S, S = inviteS mo L a b := ⟨_, rfl⟩
  have hact : actL mo 0 L a b = L2 := by unfold actL; rw [if_pos rfl, ← hS]
  rw [hact]
  clear hact
  obtain ⟨X, hX⟩ : ∃ X, X = w.heap.size := ⟨_, rfl⟩
  obtain ⟨w0, hw0⟩ : ∃ w0, w0 = w.alloc (.cells #[.int .u8 0, .int .u32 (a : Int), .int .u32 (b : Int)] 28) := ⟨_, rfl⟩
  have hb0 : Below w.heap.size w w0 := by rw [hw0]; exact (Below.refl _ _).alloc (Nat.le_refl _) _
  have hq0 : w0.heap[X]? = some (.cells #[.int .u8 0, .int .u32 (a : Int), .int .u32 (b : Int)] 28 (0, 0)) := by rw [hw0, hX]; exact heap_alloc_new w _
  have t0 := cell_of_row w0 X 0 _ _ _ hq0
  have t1 := cell_of_row w0 X 1 _ _ _ hq0
  have t2 := cell_of_row w0 X 2 _ _ _ hq0
  simp at t0 t1 t2
  have hbk := h.after hb0
  have hl2 : L.length ≤ 100 := by have := hD.n; omega
  have H0 := Lib.hid hw0
  have HB0 : Hid (Below w.heap.size w w0) := hb0
  have HX := Lib.hid hX
  have HRW : Hid (R ≤ w.heap.size) := Nat.le_of_lt h.ctx.1
  have HP1 := invite_any B R mo vi L a b w0 hbk hI hl2 hmo
  rw [← hS] at HP1
  dsimp only [InvtP, LdP, RefP, LeaP] at HP1
  have HP1 := Lib.hid HP1
  have HDC : ∀ W vi1, Dd W R vi1 A n L → Calls Try.prog 53 #[.slice A n c, .int .i64 mo, .int .u32 (a : Int), .int .u32 (b : Int)] W fun r w' => DP4 R vi1 (inviteS mo L a b) W r w' := fun W vi1 h1 => dinvite_any R vi1 A n c L mo a b W h1 hI hl
  rw [← hS] at HDC
  dsimp only [DP1, DP2, DP3, DP4] at HDC
  have HDC := Lib.hid HDC
  have HD0 : Hid (Dd w0 R vi A n L) := hD.after hb0
  have HQ0 := Lib.hid hq0
  clear hw0 hb0 hq0 hX h hbk hD hI hl hl2 hS
  go_enter Try.func13, Try.ntmps13
  go_upto_region 4 with (fail)
  rw [← H0.out, ← HX.out]
  go_wp2_with fail
  refine HP1.out.mono ?_
  rintro r w1 ⟨rfl, vi1, hbk, hst⟩
  have hq1 := (hst.keep X _ 28 HQ0.out (by decide) (by decide) (fun h => absurd h (by decide))).trans HQ0.out
  clear t0 t1 t2
  have t0 := cell_of_row w1 X 0 _ _ _ hq1
  have t1 := cell_of_row w1 X 1 _ _ _ hq1
  have t2 := cell_of_row w1 X 2 _ _ _ hq1
  simp at t0 t1 t2
  have HDC1 := Lib.hid (HDC.out w1 vi1 (HD0.out.stp hst hbk.ctx))
  have HBK1 := Lib.hid hbk
  have HST1 : Hid (Stp R vi vi1 w w1) := hst.from HRW.out HB0.out
  clear hq1 hbk hst
  go_wp2_with fail
  refine HDC1.out.mono ?_
  rintro r w2 ⟨A2, n2, c2, rfl, hd2, hb2⟩
  have HFIN : Hid (DoP B R mo vi L2 w (.returned (.tuple #[.slice A2 n2 c2, .bool true])) w2) := ⟨A2, n2, c2, vi1, rfl, HBK1.out.after hb2, hd2, HST1.out.trans (Stp.of_below (Nat.le_of_lt HBK1.out.ctx.1) hb2)⟩
  clear t0 t1 t2 hd2 hb2
  go_wp2
  exact bodyPost_ret (v := .tuple #[.slice A2 n2 c2, .bool true]) (by simp [results, Try.results13, go_sem]) rfl HFIN.out
set_option maxHeartbeats 4000000 in
theorem do_1 (B R : Nat) (mo : Int) (vi : Value) (L : List Pt) (A : Option Addr) (n c a b : Nat) (w : World) (h : Bk w B R mo vi L) (hD : Dd w R vi A n L) (hI : Inv L) (hl : n ≤ 100) (hmo : mo ≤ 2147483647) :
    Calls Try.prog 13 #[bp B, .slice A n c, .int .i64 mo, .agg #[.int .u8 1, .int .u32 (a : Int), .int .u32 (b : Int)]] w fun r w' => DoP B R mo vi (actL mo 1 L a b) w r w' := by
  obtain ⟨⟨L2, e⟩, hS⟩ : ∃ S, S = joinS L b a := ⟨_, rfl⟩
  have hact : actL mo 1 L a b = L2 := by unfold actL; rw [if_neg (by decide), if_pos rfl, ← hS]
  rw [hact]
  clear hact
  obtain ⟨X, hX⟩ : ∃ X, X = w.heap.size := ⟨_, rfl⟩
  obtain ⟨w0, hw0⟩ : ∃ w0, w0 = w.alloc (.cells #[.int .u8 1, .int .u32 (a : Int), .int .u32 (b : Int)] 28) := ⟨_, rfl⟩
  have hb0 : Below w.heap.size w w0 := by rw [hw0]; exact (Below.refl _ _).alloc (Nat.le_refl _) _
  have hq0 : w0.heap[X]? = some (.cells #[.int .u8 1, .int .u32 (a : Int), .int .u32 (b : Int)] 28 (0, 0)) := by rw [hw0, hX]; exact heap_alloc_new w _
  have t0 := cell_of_row w0 X 0 _ _ _ hq0
  have t1 := cell_of_row w0 X 1 _ _ _ hq0
  have t2 := cell_of_row w0 X 2 _ _ _ hq0
  simp at t0 t1 t2
  have hbk := h.after hb0
  have hl2 : L.length ≤ 100 := by have := hD.n; omega
  have H0 := Lib.hid hw0
  have HB0 : Hid (Below w.heap.size w w0) := hb0
  have HX := Lib.hid hX
  have HRW : Hid (R ≤ w.heap.size) := Nat.le_of_lt h.ctx.1
  have HP1 := join_any B R mo vi L b a w0 hbk hI hl2
  rw [← hS] at HP1
  dsimp only [InvtP, LdP, RefP, LeaP] at HP1
  have HP1 := Lib.hid HP1
  have HDC : ∀ W vi1, Dd W R vi1 A n L → Calls Try.prog 54 #[.slice A n c, .int .u32 (b : Int), .int .u32 (a : Int)] W fun r w' => DP1 R vi1 (joinS L b a) W r w' := fun W vi1 h1 => djoin_any R vi1 A n c L b a W h1 hI hl
  rw [← hS] at HDC
  dsimp only [DP1, DP2, DP3, DP4] at HDC
  have HDC := Lib.hid HDC
  have HD0 : Hid (Dd w0 R vi A n L) := hD.after hb0
  have HQ0 := Lib.hid hq0
  clear hw0 hb0 hq0 hX h hbk hD hI hl hl2 hS
  go_enter Try.func13, Try.ntmps13
  go_upto_region 4 with (fail)
  rw [← H0.out, ← HX.out]
  go_wp2_with fail
  refine HP1.out.mono ?_
  rintro r w1 ⟨rfl, vi1, hbk, hst⟩
  have hq1 := (hst.keep X _ 28 HQ0.out (by decide) (by decide) (fun h => absurd h (by decide))).trans HQ0.out
  clear t0 t1 t2
  have t0 := cell_of_row w1 X 0 _ _ _ hq1
  have t1 := cell_of_row w1 X 1 _ _ _ hq1
  have t2 := cell_of_row w1 X 2 _ _ _ hq1
  simp at t0 t1 t2
  have HDC1 := Lib.hid (HDC.out w1 vi1 (HD0.out.stp hst hbk.ctx))
  have HBK1 := Lib.hid hbk
  have HST1 : Hid (Stp R vi vi1 w w1) := hst.from HRW.out HB0.out
  clear hq1 hbk hst
  go_wp2_with fail
  refine HDC1.out.mono ?_
  rintro r w2 ⟨A2, n2, c2, rfl, hd2, hb2⟩
  have HFIN : Hid (DoP B R mo vi L2 w (.returned (.tuple #[.slice A2 n2 c2, .bool true])) w2) := ⟨A2, n2, c2, vi1, rfl, HBK1.out.after hb2, hd2, HST1.out.trans (Stp.of_below (Nat.le_of_lt HBK1.out.ctx.1) hb2)⟩
  clear t0 t1 t2 hd2 hb2
  go_wp2
  exact bodyPost_ret (v := .tuple #[.slice A2 n2 c2, .bool true]) (by simp [results, Try.results13, go_sem]) rfl HFIN.out
set_option maxHeartbeats 4000000 in
theorem do_2 (B R : Nat) (mo : Int) (vi : Value) (L : List Pt) (A : Option Addr) (n c a b : Nat) (w : World) (h : Bk w B R mo vi L) (hD : Dd w R vi A n L) (hI : Inv L) (hl : n ≤ 100) (hmo : mo ≤ 2147483647) :
    Calls Try.prog 13 #[bp B, .slice A n c, .int .i64 mo, .agg #[.int .u8 2, .int .u32 (a : Int), .int .u32 (b : Int)]] w fun r w' => DoP B R mo vi (actL mo 2 L a b) w r w' := by
  obtain ⟨⟨L2, t, e⟩, hS⟩ : ∃ S, S = refuseS L b a := ⟨_, rfl⟩
  have hact : actL mo 2 L a b = L2 := by unfold actL; rw [if_neg (by decide), if_neg (by decide), if_pos rfl, ← hS]
  rw [hact]
  clear hact
  obtain ⟨X, hX⟩ : ∃ X, X = w.heap.size := ⟨_, rfl⟩
  obtain ⟨w0, hw0⟩ : ∃ w0, w0 = w.alloc (.cells #[.int .u8 2, .int .u32 (a : Int), .int .u32 (b : Int)] 28) := ⟨_, rfl⟩
  have hb0 : Below w.heap.size w w0 := by rw [hw0]; exact (Below.refl _ _).alloc (Nat.le_refl _) _
  have hq0 : w0.heap[X]? = some (.cells #[.int .u8 2, .int .u32 (a : Int), .int .u32 (b : Int)] 28 (0, 0)) := by rw [hw0, hX]; exact heap_alloc_new w _
  have t0 := cell_of_row w0 X 0 _ _ _ hq0
  have t1 := cell_of_row w0 X 1 _ _ _ hq0
  have t2 := cell_of_row w0 X 2 _ _ _ hq0
  simp at t0 t1 t2
  have hbk := h.after hb0
  have hl2 : L.length ≤ 100 := by have := hD.n; omega
  have H0 := Lib.hid hw0
  have HB0 : Hid (Below w.heap.size w w0) := hb0
  have HX := Lib.hid hX
  have HRW : Hid (R ≤ w.heap.size) := Nat.le_of_lt h.ctx.1
  have HP1 := refuse_any B R mo vi L b a w0 hbk hI hl2
  rw [← hS] at HP1
  dsimp only [InvtP, LdP, RefP, LeaP] at HP1
  have HP1 := Lib.hid HP1
  have HDC : ∀ W vi1, Dd W R vi1 A n L → Calls Try.prog 55 #[.slice A n c, .int .u32 (b : Int), .int .u32 (a : Int)] W fun r w' => DP2 R vi1 (refuseS L b a) W r w' := fun W vi1 h1 => drefuse_any R vi1 A n c L b a W h1 hI hl
  rw [← hS] at HDC
  dsimp only [DP1, DP2, DP3, DP4] at HDC
  have HDC := Lib.hid HDC
  have HD0 : Hid (Dd w0 R vi A n L) := hD.after hb0
  have HQ0 := Lib.hid hq0
  clear hw0 hb0 hq0 hX h hbk hD hI hl hl2 hS
  go_enter Try.func13, Try.ntmps13
  go_upto_region 4 with (fail)
  rw [← H0.out, ← HX.out]
  go_wp2_with fail
  refine HP1.out.mono ?_
  rintro r w1 ⟨rfl, vi1, hbk, hst⟩
  have hq1 := (hst.keep X _ 28 HQ0.out (by decide) (by decide) (fun h => absurd h (by decide))).trans HQ0.out
  clear t0 t1 t2
  have t0 := cell_of_row w1 X 0 _ _ _ hq1
  have t1 := cell_of_row w1 X 1 _ _ _ hq1
  have t2 := cell_of_row w1 X 2 _ _ _ hq1
  simp at t0 t1 t2
  have HDC1 := Lib.hid (HDC.out w1 vi1 (HD0.out.stp hst hbk.ctx))
  have HBK1 := Lib.hid hbk
  have HST1 : Hid (Stp R vi vi1 w w1) := hst.from HRW.out HB0.out
  clear hq1 hbk hst
  go_wp2_with fail
  refine HDC1.out.mono ?_
  rintro r w2 ⟨A2, n2, c2, rfl, hd2, hb2⟩
  have HFIN : Hid (DoP B R mo vi L2 w (.returned (.tuple #[.slice A2 n2 c2, .bool true])) w2) := ⟨A2, n2, c2, vi1, rfl, HBK1.out.after hb2, hd2, HST1.out.trans (Stp.of_below (Nat.le_of_lt HBK1.out.ctx.1) hb2)⟩
  clear t0 t1 t2 hd2 hb2
  go_wp2
  exact bodyPost_ret (v := .tuple #[.slice A2 n2 c2, .bool true]) (by simp [results, Try.results13, go_sem]) rfl HFIN.out
set_option maxHeartbeats 4000000 in
theorem do_3 (B R : Nat) (mo : Int) (vi : Value) (L : List Pt) (A : Option Addr) (n c a b : Nat) (w : World) (h : Bk w B R mo vi L) (hD : Dd w R vi A n L) (hI : Inv L) (hl : n ≤ 100) (hmo : mo ≤ 2147483647) :
    Calls Try.prog 13 #[bp B, .slice A n c, .int .i64 mo, .agg #[.int .u8 3, .int .u32 (a : Int), .int .u32 (b : Int)]] w fun r w' => DoP B R mo vi (actL mo 3 L a b) w r w' := by
  obtain ⟨⟨L2, x, t, e⟩, hS⟩ : ∃ S, S = leaveS L a := ⟨_, rfl⟩
  have hact : actL mo 3 L a b = L2 := by unfold actL; rw [if_neg (by decide), if_neg (by decide), if_neg (by decide), if_pos rfl, ← hS]
  rw [hact]
  clear hact
  obtain ⟨X, hX⟩ : ∃ X, X = w.heap.size := ⟨_, rfl⟩
  obtain ⟨w0, hw0⟩ : ∃ w0, w0 = w.alloc (.cells #[.int .u8 3, .int .u32 (a : Int), .int .u32 (b : Int)] 28) := ⟨_, rfl⟩
  have hb0 : Below w.heap.size w w0 := by rw [hw0]; exact (Below.refl _ _).alloc (Nat.le_refl _) _
  have hq0 : w0.heap[X]? = some (.cells #[.int .u8 3, .int .u32 (a : Int), .int .u32 (b : Int)] 28 (0, 0)) := by rw [hw0, hX]; exact heap_alloc_new w _
  have t0 := cell_of_row w0 X 0 _ _ _ hq0
  have t1 := cell_of_row w0 X 1 _ _ _ hq0
  have t2 := cell_of_row w0 X 2 _ _ _ hq0
  simp at t0 t1 t2
  have hbk := h.after hb0
  have hl2 : L.length ≤ 100 := by have := hD.n; omega
  have H0 := Lib.hid hw0
  have HB0 : Hid (Below w.heap.size w w0) := hb0
  have HX := Lib.hid hX
  have HRW : Hid (R ≤ w.heap.size) := Nat.le_of_lt h.ctx.1
  have HP1 := leave_any B R mo vi L a w0 hbk hI hl2
  rw [← hS] at HP1
  dsimp only [InvtP, LdP, RefP, LeaP] at HP1
  have HP1 := Lib.hid HP1
  have HDC : ∀ W vi1, Dd W R vi1 A n L → Calls Try.prog 56 #[.slice A n c, .int .u32 (a : Int)] W fun r w' => DP3 R vi1 (leaveS L a) W r w' := fun W vi1 h1 => dleave_any R vi1 A n c L a W h1 hI hl
  rw [← hS] at HDC
  dsimp only [DP1, DP2, DP3, DP4] at HDC
  have HDC := Lib.hid HDC
  have HD0 : Hid (Dd w0 R vi A n L) := hD.after hb0
  have HQ0 := Lib.hid hq0
  clear hw0 hb0 hq0 hX h hbk hD hI hl hl2 hS
  go_enter Try.func13, Try.ntmps13
  go_upto_region 4 with (fail)
  rw [← H0.out, ← HX.out]
  go_wp2_with fail
  refine HP1.out.mono ?_
  rintro r w1 ⟨rfl, vi1, hbk, hst⟩
  have hq1 := (hst.keep X _ 28 HQ0.out (by decide) (by decide) (fun h => absurd h (by decide))).trans HQ0.out
  clear t0 t1 t2
  have t0 := cell_of_row w1 X 0 _ _ _ hq1
  have t1 := cell_of_row w1 X 1 _ _ _ hq1
  have t2 := cell_of_row w1 X 2 _ _ _ hq1
  simp at t0 t1 t2
  have HDC1 := Lib.hid (HDC.out w1 vi1 (HD0.out.stp hst hbk.ctx))
  have HBK1 := Lib.hid hbk
  have HST1 : Hid (Stp R vi vi1 w w1) := hst.from HRW.out HB0.out
  clear hq1 hbk hst
  go_wp2_with fail
  refine HDC1.out.mono ?_
  rintro r w2 ⟨A2, n2, c2, rfl, hd2, hb2⟩
  have HFIN : Hid (DoP B R mo vi L2 w (.returned (.tuple #[.slice A2 n2 c2, .bool true])) w2) := ⟨A2, n2, c2, vi1, rfl, HBK1.out.after hb2, hd2, HST1.out.trans (Stp.of_below (Nat.le_of_lt HBK1.out.ctx.1) hb2)⟩
  clear t0 t1 t2 hd2 hb2
  go_wp2
  exact bodyPost_ret (v := .tuple #[.slice A2 n2 c2, .bool true]) (by simp [results, Try.results13, go_sem]) rfl HFIN.out
set_option maxHeartbeats 4000000 in
theorem do_4 (B R : Nat) (mo : Int) (vi : Value) (L : List Pt) (A : Option Addr) (n c a b : Nat) (w : World) (h : Bk w B R mo vi L) (hD : Dd w R vi A n L) (hI : Inv L) (hl : n ≤ 100) (hmo : mo ≤ 2147483647) :
    Calls Try.prog 13 #[bp B, .slice A n c, .int .i64 mo, .agg #[.int .u8 4, .int .u32 (a : Int), .int .u32 (b : Int)]] w fun r w' => DoP B R mo vi (actL mo 4 L a b) w r w' := by
  obtain ⟨⟨L2, t, e⟩, hS⟩ : ∃ S, S = kickS L a b := ⟨_, rfl⟩
  have hact : actL mo 4 L a b = L2 := by unfold actL; rw [if_neg (by decide), if_neg (by decide), if_neg (by decide), if_neg (by decide), if_pos rfl, ← hS]
  rw [hact]
  clear hact
  obtain ⟨X, hX⟩ : ∃ X, X = w.heap.size := ⟨_, rfl⟩
  obtain ⟨w0, hw0⟩ : ∃ w0, w0 = w.alloc (.cells #[.int .u8 4, .int .u32 (a : Int), .int .u32 (b : Int)] 28) := ⟨_, rfl⟩
  have hb0 : Below w.heap.size w w0 := by rw [hw0]; exact (Below.refl _ _).alloc (Nat.le_refl _) _
  have hq0 : w0.heap[X]? = some (.cells #[.int .u8 4, .int .u32 (a : Int), .int .u32 (b : Int)] 28 (0, 0)) := by rw [hw0, hX]; exact heap_alloc_new w _
  have t0 := cell_of_row w0 X 0 _ _ _ hq0
  have t1 := cell_of_row w0 X 1 _ _ _ hq0
  have t2 := cell_of_row w0 X 2 _ _ _ hq0
  simp at t0 t1 t2
  have hbk := h.after hb0
  have hl2 : L.length ≤ 100 := by have := hD.n; omega
  have H0 := Lib.hid hw0
  have HB0 : Hid (Below w.heap.size w w0) := hb0
  have HX := Lib.hid hX
  have HRW : Hid (R ≤ w.heap.size) := Nat.le_of_lt h.ctx.1
  have HP1 := kick_any B R mo vi L a b w0 hbk hI hl2
  rw [← hS] at HP1
  dsimp only [InvtP, LdP, RefP, LeaP] at HP1
  have HP1 := Lib.hid HP1
  have HDC : ∀ W vi1, Dd W R vi1 A n L → Calls Try.prog 57 #[.slice A n c, .int .u32 (a : Int), .int .u32 (b : Int)] W fun r w' => DP2 R vi1 (kickS L a b) W r w' := fun W vi1 h1 => dkick_any R vi1 A n c L a b W h1 hI hl
  rw [← hS] at HDC
  dsimp only [DP1, DP2, DP3, DP4] at HDC
  have HDC := Lib.hid HDC
  have HD0 : Hid (Dd w0 R vi A n L) := hD.after hb0
  have HQ0 := Lib.hid hq0
  clear hw0 hb0 hq0 hX h hbk hD hI hl hl2 hS
  go_enter Try.func13, Try.ntmps13
  go_upto_region 4 with (fail)
  rw [← H0.out, ← HX.out]
  go_wp2_with fail
  refine HP1.out.mono ?_
  rintro r w1 ⟨rfl, vi1, hbk, hst⟩
  have hq1 := (hst.keep X _ 28 HQ0.out (by decide) (by decide) (fun h => absurd h (by decide))).trans HQ0.out
  clear t0 t1 t2
  have t0 := cell_of_row w1 X 0 _ _ _ hq1
  have t1 := cell_of_row w1 X 1 _ _ _ hq1
  have t2 := cell_of_row w1 X 2 _ _ _ hq1
  simp at t0 t1 t2
  have HDC1 := Lib.hid (HDC.out w1 vi1 (HD0.out.stp hst hbk.ctx))
  have HBK1 := Lib.hid hbk
  have HST1 : Hid (Stp R vi vi1 w w1) := hst.from HRW.out HB0.out
  clear hq1 hbk hst
  go_wp2_with fail
  refine HDC1.out.mono ?_
  rintro r w2 ⟨A2, n2, c2, rfl, hd2, hb2⟩
  have HFIN : Hid (DoP B R mo vi L2 w (.returned (.tuple #[.slice A2 n2 c2, .bool true])) w2) := ⟨A2, n2, c2, vi1, rfl, HBK1.out.after hb2, hd2, HST1.out.trans (Stp.of_below (Nat.le_of_lt HBK1.out.ctx.1) hb2)⟩
  clear t0 t1 t2 hd2 hb2
  go_wp2
  exact bodyPost_ret (v := .tuple #[.slice A2 n2 c2, .bool true]) (by simp [results, Try.results13, go_sem]) rfl HFIN.out
set_option maxHeartbeats 4000000 in
theorem do_5 (B R : Nat) (mo : Int) (vi : Value) (L : List Pt) (A : Option Addr) (n c a b : Nat) (w : World) (h : Bk w B R mo vi L) (hD : Dd w R vi A n L) (hI : Inv L) (hl : n ≤ 100) (hmo : mo ≤ 2147483647) :
    Calls Try.prog 13 #[bp B, .slice A n c, .int .i64 mo, .agg #[.int .u8 5, .int .u32 (a : Int), .int .u32 (b : Int)]] w fun r w' => DoP B R mo vi (actL mo 5 L a b) w r w' := by
  obtain ⟨⟨L2, e⟩, hS⟩ : ∃ S, S = leadS L a b := ⟨_, rfl⟩
  have hact : actL mo 5 L a b = L2 := by unfold actL; rw [if_neg (by decide), if_neg (by decide), if_neg (by decide), if_neg (by decide), if_neg (by decide), if_pos rfl, ← hS]
  rw [hact]
  clear hact
  obtain ⟨X, hX⟩ : ∃ X, X = w.heap.size := ⟨_, rfl⟩
  obtain ⟨w0, hw0⟩ : ∃ w0, w0 = w.alloc (.cells #[.int .u8 5, .int .u32 (a : Int), .int .u32 (b : Int)] 28) := ⟨_, rfl⟩
  have hb0 : Below w.heap.size w w0 := by rw [hw0]; exact (Below.refl _ _).alloc (Nat.le_refl _) _
  have hq0 : w0.heap[X]? = some (.cells #[.int .u8 5, .int .u32 (a : Int), .int .u32 (b : Int)] 28 (0, 0)) := by rw [hw0, hX]; exact heap_alloc_new w _
  have t0 := cell_of_row w0 X 0 _ _ _ hq0
  have t1 := cell_of_row w0 X 1 _ _ _ hq0
  have t2 := cell_of_row w0 X 2 _ _ _ hq0
  simp at t0 t1 t2
  have hbk := h.after hb0
  have hl2 : L.length ≤ 100 := by have := hD.n; omega
  have H0 := Lib.hid hw0
  have HB0 : Hid (Below w.heap.size w w0) := hb0
  have HX := Lib.hid hX
  have HRW : Hid (R ≤ w.heap.size) := Nat.le_of_lt h.ctx.1
  have HP1 := lead_any B R mo vi L a b w0 hbk hI hl2
  rw [← hS] at HP1
  dsimp only [InvtP, LdP, RefP, LeaP] at HP1
  have HP1 := Lib.hid HP1
  have HDC : ∀ W vi1, Dd W R vi1 A n L → Calls Try.prog 58 #[.slice A n c, .int .u32 (a : Int), .int .u32 (b : Int)] W fun r w' => DP1 R vi1 (leadS L a b) W r w' := fun W vi1 h1 => dlead_any R vi1 A n c L a b W h1 hI hl
  rw [← hS] at HDC
  dsimp only [DP1, DP2, DP3, DP4] at HDC
  have HDC := Lib.hid HDC
  have HD0 : Hid (Dd w0 R vi A n L) := hD.after hb0
  have HQ0 := Lib.hid hq0
  clear hw0 hb0 hq0 hX h hbk hD hI hl hl2 hS
  go_enter Try.func13, Try.ntmps13
  go_upto_region 4 with (fail)
  rw [← H0.out, ← HX.out]
  go_wp2_with fail
  refine HP1.out.mono ?_
  rintro r w1 ⟨rfl, vi1, hbk, hst⟩
  have hq1 := (hst.keep X _ 28 HQ0.out (by decide) (by decide) (fun h => absurd h (by decide))).trans HQ0.out
  clear t0 t1 t2
  have t0 := cell_of_row w1 X 0 _ _ _ hq1
  have t1 := cell_of_row w1 X 1 _ _ _ hq1
  have t2 := cell_of_row w1 X 2 _ _ _ hq1
  simp at t0 t1 t2
  have HDC1 := Lib.hid (HDC.out w1 vi1 (HD0.out.stp hst hbk.ctx))
  have HBK1 := Lib.hid hbk
  have HST1 : Hid (Stp R vi vi1 w w1) := hst.from HRW.out HB0.out
  clear hq1 hbk hst
  go_wp2_with fail
  refine HDC1.out.mono ?_
  rintro r w2 ⟨A2, n2, c2, rfl, hd2, hb2⟩
  have HFIN : Hid (DoP B R mo vi L2 w (.returned (.tuple #[.slice A2 n2 c2, .bool true])) w2) := ⟨A2, n2, c2, vi1, rfl, HBK1.out.after hb2, hd2, HST1.out.trans (Stp.of_below (Nat.le_of_lt HBK1.out.ctx.1) hb2)⟩
  clear t0 t1 t2 hd2 hb2
  go_wp2
  exact bodyPost_ret (v := .tuple #[.slice A2 n2 c2, .bool true]) (by simp [results, Try.results13, go_sem]) rfl HFIN.out
set_option maxHeartbeats 4000000 in
theorem do_any (B R : Nat) (mo : Int) (vi : Value) (L : List Pt) (A : Option Addr) (n c a b : Nat) (w : World) (h : Bk w B R mo vi L) (hD : Dd w R vi A n L) (hI : Inv L) (hl : n ≤ 100) (hmo : mo ≤ 2147483647) (d : Int) :
    Calls Try.prog 13 #[bp B, .slice A n c, .int .i64 mo, .agg #[.int .u8 d, .int .u32 (a : Int), .int .u32 (b : Int)]] w fun r w' => DoP B R mo vi (actL mo d L a b) w r w' := by
  by_cases h0 : d = 0
  · subst h0
    exact do_0 B R mo vi L A n c a b w h hD hI hl hmo
  by_cases h1 : d = 1
  · subst h1
    exact do_1 B R mo vi L A n c a b w h hD hI hl hmo
  by_cases h2 : d = 2
  · subst h2
    exact do_2 B R mo vi L A n c a b w h hD hI hl hmo
  by_cases h3 : d = 3
  · subst h3
    exact do_3 B R mo vi L A n c a b w h hD hI hl hmo
  by_cases h4 : d = 4
  · subst h4
    exact do_4 B R mo vi L A n c a b w h hD hI hl hmo
  by_cases h5 : d = 5
  · subst h5
    exact do_5 B R mo vi L A n c a b w h hD hI hl hmo
  have hact : actL mo d L a b = L := by unfold actL; rw [if_neg h0, if_neg h1, if_neg h2, if_neg h3, if_neg h4, if_neg h5]
  rw [hact]
  obtain ⟨X, hX⟩ : ∃ X, X = w.heap.size := ⟨_, rfl⟩
  obtain ⟨w0, hw0⟩ : ∃ w0, w0 = w.alloc (.cells #[.int .u8 d, .int .u32 (a : Int), .int .u32 (b : Int)] 28) := ⟨_, rfl⟩
  have hb0 : Below w.heap.size w w0 := by rw [hw0]; exact (Below.refl _ _).alloc (Nat.le_refl _) _
  have hq0 : w0.heap[X]? = some (.cells #[.int .u8 d, .int .u32 (a : Int), .int .u32 (b : Int)] 28 (0, 0)) := by rw [hw0, hX]; exact heap_alloc_new w _
  have t0 := cell_of_row w0 X 0 _ _ _ hq0
  have t1 := cell_of_row w0 X 1 _ _ _ hq0
  have t2 := cell_of_row w0 X 2 _ _ _ hq0
  simp at t0 t1 t2
  have hbk := h.after hb0
  have hl2 : L.length ≤ 100 := by have := hD.n; omega
  have H0 := Lib.hid hw0
  have HB0 : Hid (Below w.heap.size w w0) := hb0
  have HX := Lib.hid hX
  have HRW : Hid (R ≤ w.heap.size) := Nat.le_of_lt h.ctx.1
  have HFIN : Hid (DoP B R mo vi L w (.returned (.tuple #[.slice A n c, .bool true])) w0) := ⟨A, n, c, vi, rfl, hbk, hD.after hb0, Stp.of_below HRW.out hb0⟩
  clear hw0 hb0 hq0 hX h hbk hD hI hl hl2 hact
  go_enter Try.func13, Try.ntmps13
  go_upto_region 4 with (fail)
  rw [← H0.out, ← HX.out]
  go_wp2
  exact bodyPost_ret (v := .tuple #[.slice A n c, .bool true]) (by simp [results, Try.results13, go_sem]) rfl HFIN.out
end Go.Proofs.Ytjlpmdokmfmdiaa.P
