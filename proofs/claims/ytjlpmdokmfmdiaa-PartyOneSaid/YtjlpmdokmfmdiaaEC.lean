/- Party: do, of a book and other rows. -/
import Derived.Test.YtjlpmdokmfmdiaaEB
namespace Go.Proofs.Ytjlpmdokmfmdiaa.P
open Go.RowKit
set_option maxRecDepth 20000
set_option linter.unusedVariables false
set_option linter.unusedSimpArgs false

def DgP (B R : Nat) (mo : Int) (vi : Value) (L' : List Pt) (w : World) (r : Ending) (w' : World) : Prop := ∃ A n c vi' t, r = .returned (.tuple #[.slice A n c, .bool t]) ∧ Bk w' B R mo vi' L' ∧ Stp R vi vi' w w'
set_option maxHeartbeats 4000000 in
theorem dog_0 (B R : Nat) (mo : Int) (vi : Value) (L M : List Pt) (A : Option Addr) (n c a b : Nat) (w : World) (h : Bk w B R mo vi L) (hD : Dd w R vi A n M) (hI : Inv L) (hJ : Inv M) (hl2 : L.length ≤ 100) (hl : n ≤ 100) (hmo : mo ≤ 2147483647) :
    Calls Try.prog 13 #[bp B, .slice A n c, .int .i64 mo, .agg #[.int .u8 0, .int .u32 (a : Int), .int .u32 (b : Int)]] w fun r w' => DgP B R mo vi (actL mo 0 L a b) w r w' := by
  obtain ⟨⟨L2, x, e⟩, hS⟩ : ∃ S, S = inviteS mo L a b := ⟨_, rfl⟩
  obtain ⟨⟨M2, x2, e2⟩, hSM⟩ : ∃ S, S = inviteS mo M a b := ⟨_, rfl⟩
  have hact : actL mo 0 L a b = L2 := by unfold actL; rw [if_pos rfl, ← hS]
  rw [hact]
  clear hact
  obtain ⟨X, hX⟩ : ∃ X, X = w.heap.size := ⟨_, rfl⟩
  obtain ⟨w0, hw0⟩ : ∃ w0, w0 = w.alloc (.cells #[.int .u8 0, .int .u32 (a : Int), .int .u32 (b : Int)] 28) := ⟨_, rfl⟩
  have hb0 : Below w.heap.size w w0 := by rw [hw0]; exact (Below.refl _ _).alloc (Nat.le_refl _) _
  have hq0 : w0.heap[X]? = some (.cells #[.int .u8 0, .int .u32 (a : Int), .int .u32 (b : Int)] 28 (0, 0)) := by rw [hw0, hX]; exact heap_alloc_new w _
  have t0 := cell_of_row w0 X 0 _ _ _ hq0
  have t1 := cell_of_row w0 X 1 _ _ _ hq0
  have t2 := cell_of_row w0 X 2 _ _ _ hq0
  simp at t0 t1 t2
  have hbk := h.after hb0
  have H0 := Lib.hid hw0
  have HB0 : Hid (Below w.heap.size w w0) := hb0
  have HX := Lib.hid hX
  have HRW : Hid (R ≤ w.heap.size) := Nat.le_of_lt h.ctx.1
  have HP1 := invite_any B R mo vi L a b w0 hbk hI hl2 hmo
  rw [← hS] at HP1
  dsimp only [InvtP, LdP, RefP, LeaP] at HP1
  have HP1 := Lib.hid HP1
  have HDC : ∀ W vi1, Dd W R vi1 A n M → Calls Try.prog 53 #[.slice A n c, .int .i64 mo, .int .u32 (a : Int), .int .u32 (b : Int)] W fun r w' => DP4 R vi1 (inviteS mo M a b) W r w' := fun W vi1 h1 => dinvite_any R vi1 A n c M mo a b W h1 hJ hl
  rw [← hSM] at HDC
  dsimp only [DP1, DP2, DP3, DP4] at HDC
  have HDC := Lib.hid HDC
  have HD0 : Hid (Dd w0 R vi A n M) := hD.after hb0
  have HQ0 := Lib.hid hq0
  clear hw0 hb0 hq0 hX h hbk hD hI hJ hl hl2 hS hSM
  go_enter Try.func13, Try.ntmps13
  go_upto_region 4 with (fail)
  rw [← H0.out, ← HX.out]
  go_wp2_with fail
  refine HP1.out.mono ?_
  rintro r w1 ⟨rfl, vi1, hbk, hst⟩
  have hq1 := (hst.keep X _ 28 HQ0.out (by decide) (by decide) (fun h => absurd h (by decide))).trans HQ0.out
  clear t0 t1 t2
  have t0 := cell_of_row w1 X 0 _ _ _ hq1
  have t1 := cell_of_row w1 X 1 _ _ _ hq1
  have t2' := cell_of_row w1 X 2 _ _ _ hq1
  simp at t0 t1 t2'
  have HDC1 := Lib.hid (HDC.out w1 vi1 (HD0.out.stp hst hbk.ctx))
  have HBK1 := Lib.hid hbk
  have HST1 : Hid (Stp R vi vi1 w w1) := hst.from HRW.out HB0.out
  clear hq1 hbk hst
  go_wp2_with fail
  refine HDC1.out.mono ?_
  rintro r w2 ⟨A2, n2, c2, rfl, hd2, hb2⟩
  have HFIN : Hid (∀ t, DgP B R mo vi L2 w (.returned (.tuple #[.slice A2 n2 c2, .bool t])) w2) := fun t => ⟨A2, n2, c2, vi1, t, rfl, HBK1.out.after hb2, HST1.out.trans (Stp.of_below (Nat.le_of_lt HBK1.out.ctx.1) hb2)⟩
  clear t0 t1 t2' hd2 hb2
  by_cases q1 : e = e2
  · by_cases q2 : (x : Int) = (x2 : Int)
    · go_wp2
      exact bodyPost_ret (v := .tuple #[.slice A2 n2 c2, .bool true]) (by simp [results, Try.results13, go_sem]) rfl (HFIN.out true)
    · go_wp2
      exact bodyPost_ret (v := .tuple #[.slice A2 n2 c2, .bool false]) (by simp [results, Try.results13, go_sem]) rfl (HFIN.out false)
  · by_cases q2 : (x : Int) = (x2 : Int)
    · go_wp2
      exact bodyPost_ret (v := .tuple #[.slice A2 n2 c2, .bool false]) (by simp [results, Try.results13, go_sem]) rfl (HFIN.out false)
    · go_wp2
      exact bodyPost_ret (v := .tuple #[.slice A2 n2 c2, .bool false]) (by simp [results, Try.results13, go_sem]) rfl (HFIN.out false)
set_option maxHeartbeats 4000000 in
theorem dog_1 (B R : Nat) (mo : Int) (vi : Value) (L M : List Pt) (A : Option Addr) (n c a b : Nat) (w : World) (h : Bk w B R mo vi L) (hD : Dd w R vi A n M) (hI : Inv L) (hJ : Inv M) (hl2 : L.length ≤ 100) (hl : n ≤ 100) (hmo : mo ≤ 2147483647) :
    Calls Try.prog 13 #[bp B, .slice A n c, .int .i64 mo, .agg #[.int .u8 1, .int .u32 (a : Int), .int .u32 (b : Int)]] w fun r w' => DgP B R mo vi (actL mo 1 L a b) w r w' := by
  obtain ⟨⟨L2, e⟩, hS⟩ : ∃ S, S = joinS L b a := ⟨_, rfl⟩
  obtain ⟨⟨M2, e2⟩, hSM⟩ : ∃ S, S = joinS M b a := ⟨_, rfl⟩
  have hact : actL mo 1 L a b = L2 := by unfold actL; rw [if_neg (by decide), if_pos rfl, ← hS]
  rw [hact]
  clear hact
  obtain ⟨X, hX⟩ : ∃ X, X = w.heap.size := ⟨_, rfl⟩
  obtain ⟨w0, hw0⟩ : ∃ w0, w0 = w.alloc (.cells #[.int .u8 1, .int .u32 (a : Int), .int .u32 (b : Int)] 28) := ⟨_, rfl⟩
  have hb0 : Below w.heap.size w w0 := by rw [hw0]; exact (Below.refl _ _).alloc (Nat.le_refl _) _
  have hq0 : w0.heap[X]? = some (.cells #[.int .u8 1, .int .u32 (a : Int), .int .u32 (b : Int)] 28 (0, 0)) := by rw [hw0, hX]; exact heap_alloc_new w _
  have t0 := cell_of_row w0 X 0 _ _ _ hq0
  have t1 := cell_of_row w0 X 1 _ _ _ hq0
  have t2 := cell_of_row w0 X 2 _ _ _ hq0
  simp at t0 t1 t2
  have hbk := h.after hb0
  have H0 := Lib.hid hw0
  have HB0 : Hid (Below w.heap.size w w0) := hb0
  have HX := Lib.hid hX
  have HRW : Hid (R ≤ w.heap.size) := Nat.le_of_lt h.ctx.1
  have HP1 := join_any B R mo vi L b a w0 hbk hI hl2
  rw [← hS] at HP1
  dsimp only [InvtP, LdP, RefP, LeaP] at HP1
  have HP1 := Lib.hid HP1
  have HDC : ∀ W vi1, Dd W R vi1 A n M → Calls Try.prog 54 #[.slice A n c, .int .u32 (b : Int), .int .u32 (a : Int)] W fun r w' => DP1 R vi1 (joinS M b a) W r w' := fun W vi1 h1 => djoin_any R vi1 A n c M b a W h1 hJ hl
  rw [← hSM] at HDC
  dsimp only [DP1, DP2, DP3, DP4] at HDC
  have HDC := Lib.hid HDC
  have HD0 : Hid (Dd w0 R vi A n M) := hD.after hb0
  have HQ0 := Lib.hid hq0
  clear hw0 hb0 hq0 hX h hbk hD hI hJ hl hl2 hS hSM
  go_enter Try.func13, Try.ntmps13
  go_upto_region 4 with (fail)
  rw [← H0.out, ← HX.out]
  go_wp2_with fail
  refine HP1.out.mono ?_
  rintro r w1 ⟨rfl, vi1, hbk, hst⟩
  have hq1 := (hst.keep X _ 28 HQ0.out (by decide) (by decide) (fun h => absurd h (by decide))).trans HQ0.out
  clear t0 t1 t2
  have t0 := cell_of_row w1 X 0 _ _ _ hq1
  have t1 := cell_of_row w1 X 1 _ _ _ hq1
  have t2' := cell_of_row w1 X 2 _ _ _ hq1
  simp at t0 t1 t2'
  have HDC1 := Lib.hid (HDC.out w1 vi1 (HD0.out.stp hst hbk.ctx))
  have HBK1 := Lib.hid hbk
  have HST1 : Hid (Stp R vi vi1 w w1) := hst.from HRW.out HB0.out
  clear hq1 hbk hst
  go_wp2_with fail
  refine HDC1.out.mono ?_
  rintro r w2 ⟨A2, n2, c2, rfl, hd2, hb2⟩
  have HFIN : Hid (∀ t, DgP B R mo vi L2 w (.returned (.tuple #[.slice A2 n2 c2, .bool t])) w2) := fun t => ⟨A2, n2, c2, vi1, t, rfl, HBK1.out.after hb2, HST1.out.trans (Stp.of_below (Nat.le_of_lt HBK1.out.ctx.1) hb2)⟩
  clear t0 t1 t2' hd2 hb2
  by_cases q1 : e = e2
  · go_wp2
    exact bodyPost_ret (v := .tuple #[.slice A2 n2 c2, .bool true]) (by simp [results, Try.results13, go_sem]) rfl (HFIN.out true)
  · go_wp2
    exact bodyPost_ret (v := .tuple #[.slice A2 n2 c2, .bool false]) (by simp [results, Try.results13, go_sem]) rfl (HFIN.out false)
set_option maxHeartbeats 4000000 in
theorem dog_2 (B R : Nat) (mo : Int) (vi : Value) (L M : List Pt) (A : Option Addr) (n c a b : Nat) (w : World) (h : Bk w B R mo vi L) (hD : Dd w R vi A n M) (hI : Inv L) (hJ : Inv M) (hl2 : L.length ≤ 100) (hl : n ≤ 100) (hmo : mo ≤ 2147483647) :
    Calls Try.prog 13 #[bp B, .slice A n c, .int .i64 mo, .agg #[.int .u8 2, .int .u32 (a : Int), .int .u32 (b : Int)]] w fun r w' => DgP B R mo vi (actL mo 2 L a b) w r w' := by
  obtain ⟨⟨L2, t, e⟩, hS⟩ : ∃ S, S = refuseS L b a := ⟨_, rfl⟩
  obtain ⟨⟨M2, t2, e2⟩, hSM⟩ : ∃ S, S = refuseS M b a := ⟨_, rfl⟩
  have hact : actL mo 2 L a b = L2 := by unfold actL; rw [if_neg (by decide), if_neg (by decide), if_pos rfl, ← hS]
  rw [hact]
  clear hact
  obtain ⟨X, hX⟩ : ∃ X, X = w.heap.size := ⟨_, rfl⟩
  obtain ⟨w0, hw0⟩ : ∃ w0, w0 = w.alloc (.cells #[.int .u8 2, .int .u32 (a : Int), .int .u32 (b : Int)] 28) := ⟨_, rfl⟩
  have hb0 : Below w.heap.size w w0 := by rw [hw0]; exact (Below.refl _ _).alloc (Nat.le_refl _) _
  have hq0 : w0.heap[X]? = some (.cells #[.int .u8 2, .int .u32 (a : Int), .int .u32 (b : Int)] 28 (0, 0)) := by rw [hw0, hX]; exact heap_alloc_new w _
  have t0 := cell_of_row w0 X 0 _ _ _ hq0
  have t1 := cell_of_row w0 X 1 _ _ _ hq0
  have t2 := cell_of_row w0 X 2 _ _ _ hq0
  simp at t0 t1 t2
  have hbk := h.after hb0
  have H0 := Lib.hid hw0
  have HB0 : Hid (Below w.heap.size w w0) := hb0
  have HX := Lib.hid hX
  have HRW : Hid (R ≤ w.heap.size) := Nat.le_of_lt h.ctx.1
  have HP1 := refuse_any B R mo vi L b a w0 hbk hI hl2
  rw [← hS] at HP1
  dsimp only [InvtP, LdP, RefP, LeaP] at HP1
  have HP1 := Lib.hid HP1
  have HDC : ∀ W vi1, Dd W R vi1 A n M → Calls Try.prog 55 #[.slice A n c, .int .u32 (b : Int), .int .u32 (a : Int)] W fun r w' => DP2 R vi1 (refuseS M b a) W r w' := fun W vi1 h1 => drefuse_any R vi1 A n c M b a W h1 hJ hl
  rw [← hSM] at HDC
  dsimp only [DP1, DP2, DP3, DP4] at HDC
  have HDC := Lib.hid HDC
  have HD0 : Hid (Dd w0 R vi A n M) := hD.after hb0
  have HQ0 := Lib.hid hq0
  clear hw0 hb0 hq0 hX h hbk hD hI hJ hl hl2 hS hSM
  go_enter Try.func13, Try.ntmps13
  go_upto_region 4 with (fail)
  rw [← H0.out, ← HX.out]
  go_wp2_with fail
  refine HP1.out.mono ?_
  rintro r w1 ⟨rfl, vi1, hbk, hst⟩
  have hq1 := (hst.keep X _ 28 HQ0.out (by decide) (by decide) (fun h => absurd h (by decide))).trans HQ0.out
  clear t0 t1 t2
  have t0 := cell_of_row w1 X 0 _ _ _ hq1
  have t1 := cell_of_row w1 X 1 _ _ _ hq1
  have t2' := cell_of_row w1 X 2 _ _ _ hq1
  simp at t0 t1 t2'
  have HDC1 := Lib.hid (HDC.out w1 vi1 (HD0.out.stp hst hbk.ctx))
  have HBK1 := Lib.hid hbk
  have HST1 : Hid (Stp R vi vi1 w w1) := hst.from HRW.out HB0.out
  clear hq1 hbk hst
  go_wp2_with fail
  refine HDC1.out.mono ?_
  rintro r w2 ⟨A2, n2, c2, rfl, hd2, hb2⟩
  have HFIN : Hid (∀ t, DgP B R mo vi L2 w (.returned (.tuple #[.slice A2 n2 c2, .bool t])) w2) := fun t => ⟨A2, n2, c2, vi1, t, rfl, HBK1.out.after hb2, HST1.out.trans (Stp.of_below (Nat.le_of_lt HBK1.out.ctx.1) hb2)⟩
  clear t0 t1 t2' hd2 hb2
  by_cases q1 : e = e2
  · cases t
    · cases t2
      · go_wp2
        exact bodyPost_ret (v := .tuple #[.slice A2 n2 c2, .bool true]) (by simp [results, Try.results13, go_sem]) rfl (HFIN.out true)
      · go_wp2
        exact bodyPost_ret (v := .tuple #[.slice A2 n2 c2, .bool false]) (by simp [results, Try.results13, go_sem]) rfl (HFIN.out false)
    · cases t2
      · go_wp2
        exact bodyPost_ret (v := .tuple #[.slice A2 n2 c2, .bool false]) (by simp [results, Try.results13, go_sem]) rfl (HFIN.out false)
      · go_wp2
        exact bodyPost_ret (v := .tuple #[.slice A2 n2 c2, .bool true]) (by simp [results, Try.results13, go_sem]) rfl (HFIN.out true)
  · cases t
    · cases t2
      · go_wp2
        exact bodyPost_ret (v := .tuple #[.slice A2 n2 c2, .bool false]) (by simp [results, Try.results13, go_sem]) rfl (HFIN.out false)
      · go_wp2
        exact bodyPost_ret (v := .tuple #[.slice A2 n2 c2, .bool false]) (by simp [results, Try.results13, go_sem]) rfl (HFIN.out false)
    · cases t2
      · go_wp2
        exact bodyPost_ret (v := .tuple #[.slice A2 n2 c2, .bool false]) (by simp [results, Try.results13, go_sem]) rfl (HFIN.out false)
      · go_wp2
        exact bodyPost_ret (v := .tuple #[.slice A2 n2 c2, .bool false]) (by simp [results, Try.results13, go_sem]) rfl (HFIN.out false)
set_option maxHeartbeats 4000000 in
theorem dog_3 (B R : Nat) (mo : Int) (vi : Value) (L M : List Pt) (A : Option Addr) (n c a b : Nat) (w : World) (h : Bk w B R mo vi L) (hD : Dd w R vi A n M) (hI : Inv L) (hJ : Inv M) (hl2 : L.length ≤ 100) (hl : n ≤ 100) (hmo : mo ≤ 2147483647) :
    Calls Try.prog 13 #[bp B, .slice A n c, .int .i64 mo, .agg #[.int .u8 3, .int .u32 (a : Int), .int .u32 (b : Int)]] w fun r w' => DgP B R mo vi (actL mo 3 L a b) w r w' := by
  obtain ⟨⟨L2, x, t, e⟩, hS⟩ : ∃ S, S = leaveS L a := ⟨_, rfl⟩
  obtain ⟨⟨M2, x2, t2, e2⟩, hSM⟩ : ∃ S, S = leaveS M a := ⟨_, rfl⟩
  have hact : actL mo 3 L a b = L2 := by unfold actL; rw [if_neg (by decide), if_neg (by decide), if_neg (by decide), if_pos rfl, ← hS]
  rw [hact]
  clear hact
  obtain ⟨X, hX⟩ : ∃ X, X = w.heap.size := ⟨_, rfl⟩
  obtain ⟨w0, hw0⟩ : ∃ w0, w0 = w.alloc (.cells #[.int .u8 3, .int .u32 (a : Int), .int .u32 (b : Int)] 28) := ⟨_, rfl⟩
  have hb0 : Below w.heap.size w w0 := by rw [hw0]; exact (Below.refl _ _).alloc (Nat.le_refl _) _
  have hq0 : w0.heap[X]? = some (.cells #[.int .u8 3, .int .u32 (a : Int), .int .u32 (b : Int)] 28 (0, 0)) := by rw [hw0, hX]; exact heap_alloc_new w _
  have t0 := cell_of_row w0 X 0 _ _ _ hq0
  have t1 := cell_of_row w0 X 1 _ _ _ hq0
  have t2 := cell_of_row w0 X 2 _ _ _ hq0
  simp at t0 t1 t2
  have hbk := h.after hb0
  have H0 := Lib.hid hw0
  have HB0 : Hid (Below w.heap.size w w0) := hb0
  have HX := Lib.hid hX
  have HRW : Hid (R ≤ w.heap.size) := Nat.le_of_lt h.ctx.1
  have HP1 := leave_any B R mo vi L a w0 hbk hI hl2
  rw [← hS] at HP1
  dsimp only [InvtP, LdP, RefP, LeaP] at HP1
  have HP1 := Lib.hid HP1
  have HDC : ∀ W vi1, Dd W R vi1 A n M → Calls Try.prog 56 #[.slice A n c, .int .u32 (a : Int)] W fun r w' => DP3 R vi1 (leaveS M a) W r w' := fun W vi1 h1 => dleave_any R vi1 A n c M a W h1 hJ hl
  rw [← hSM] at HDC
  dsimp only [DP1, DP2, DP3, DP4] at HDC
  have HDC := Lib.hid HDC
  have HD0 : Hid (Dd w0 R vi A n M) := hD.after hb0
  have HQ0 := Lib.hid hq0
  clear hw0 hb0 hq0 hX h hbk hD hI hJ hl hl2 hS hSM
  go_enter Try.func13, Try.ntmps13
  go_upto_region 4 with (fail)
  rw [← H0.out, ← HX.out]
  go_wp2_with fail
  refine HP1.out.mono ?_
  rintro r w1 ⟨rfl, vi1, hbk, hst⟩
  have hq1 := (hst.keep X _ 28 HQ0.out (by decide) (by decide) (fun h => absurd h (by decide))).trans HQ0.out
  clear t0 t1 t2
  have t0 := cell_of_row w1 X 0 _ _ _ hq1
  have t1 := cell_of_row w1 X 1 _ _ _ hq1
  have t2' := cell_of_row w1 X 2 _ _ _ hq1
  simp at t0 t1 t2'
  have HDC1 := Lib.hid (HDC.out w1 vi1 (HD0.out.stp hst hbk.ctx))
  have HBK1 := Lib.hid hbk
  have HST1 : Hid (Stp R vi vi1 w w1) := hst.from HRW.out HB0.out
  clear hq1 hbk hst
  go_wp2_with fail
  refine HDC1.out.mono ?_
  rintro r w2 ⟨A2, n2, c2, rfl, hd2, hb2⟩
  have HFIN : Hid (∀ t, DgP B R mo vi L2 w (.returned (.tuple #[.slice A2 n2 c2, .bool t])) w2) := fun t => ⟨A2, n2, c2, vi1, t, rfl, HBK1.out.after hb2, HST1.out.trans (Stp.of_below (Nat.le_of_lt HBK1.out.ctx.1) hb2)⟩
  clear t0 t1 t2' hd2 hb2
  by_cases q1 : e = e2
  · by_cases q2 : (x : Int) = (x2 : Int)
    · cases t
      · cases t2
        · go_wp2
          exact bodyPost_ret (v := .tuple #[.slice A2 n2 c2, .bool true]) (by simp [results, Try.results13, go_sem]) rfl (HFIN.out true)
        · go_wp2
          exact bodyPost_ret (v := .tuple #[.slice A2 n2 c2, .bool false]) (by simp [results, Try.results13, go_sem]) rfl (HFIN.out false)
      · cases t2
        · go_wp2
          exact bodyPost_ret (v := .tuple #[.slice A2 n2 c2, .bool false]) (by simp [results, Try.results13, go_sem]) rfl (HFIN.out false)
        · go_wp2
          exact bodyPost_ret (v := .tuple #[.slice A2 n2 c2, .bool true]) (by simp [results, Try.results13, go_sem]) rfl (HFIN.out true)
    · cases t
      · cases t2
        · go_wp2
          exact bodyPost_ret (v := .tuple #[.slice A2 n2 c2, .bool false]) (by simp [results, Try.results13, go_sem]) rfl (HFIN.out false)
        · go_wp2
          exact bodyPost_ret (v := .tuple #[.slice A2 n2 c2, .bool false]) (by simp [results, Try.results13, go_sem]) rfl (HFIN.out false)
      · cases t2
        · go_wp2
          exact bodyPost_ret (v := .tuple #[.slice A2 n2 c2, .bool false]) (by simp [results, Try.results13, go_sem]) rfl (HFIN.out false)
        · go_wp2
          exact bodyPost_ret (v := .tuple #[.slice A2 n2 c2, .bool false]) (by simp [results, Try.results13, go_sem]) rfl (HFIN.out false)
  · by_cases q2 : (x : Int) = (x2 : Int)
    · cases t
      · cases t2
        · go_wp2
          exact bodyPost_ret (v := .tuple #[.slice A2 n2 c2, .bool false]) (by simp [results, Try.results13, go_sem]) rfl (HFIN.out false)
        · go_wp2
          exact bodyPost_ret (v := .tuple #[.slice A2 n2 c2, .bool false]) (by simp [results, Try.results13, go_sem]) rfl (HFIN.out false)
      · cases t2
        · go_wp2
          exact bodyPost_ret (v := .tuple #[.slice A2 n2 c2, .bool false]) (by simp [results, Try.results13, go_sem]) rfl (HFIN.out false)
        · go_wp2
          exact bodyPost_ret (v := .tuple #[.slice A2 n2 c2, .bool false]) (by simp [results, Try.results13, go_sem]) rfl (HFIN.out false)
    · cases t
      · cases t2
        · go_wp2
          exact bodyPost_ret (v := .tuple #[.slice A2 n2 c2, .bool false]) (by simp [results, Try.results13, go_sem]) rfl (HFIN.out false)
        · go_wp2
          exact bodyPost_ret (v := .tuple #[.slice A2 n2 c2, .bool false]) (by simp [results, Try.results13, go_sem]) rfl (HFIN.out false)
      · cases t2
        · go_wp2
          exact bodyPost_ret (v := .tuple #[.slice A2 n2 c2, .bool false]) (by simp [results, Try.results13, go_sem]) rfl (HFIN.out false)
        · go_wp2
          exact bodyPost_ret (v := .tuple #[.slice A2 n2 c2, .bool false]) (by simp [results, Try.results13, go_sem]) rfl (HFIN.out false)
set_option maxHeartbeats 4000000 in
theorem dog_4 (B R : Nat) (mo : Int) (vi : Value) (L M : List Pt) (A : Option Addr) (n c a b : Nat) (w : World) (h : Bk w B R mo vi L) (hD : Dd w R vi A n M) (hI : Inv L) (hJ : Inv M) (hl2 : L.length ≤ 100) (hl : n ≤ 100) (hmo : mo ≤ 2147483647) :
    Calls Try.prog 13 #[bp B, .slice A n c, .int .i64 mo, .agg #[.int .u8 4, .int .u32 (a : Int), .int .u32 (b : Int)]] w fun r w' => DgP B R mo vi (actL mo 4 L a b) w r w' := by
  obtain ⟨⟨L2, t, e⟩, hS⟩ : ∃ S, S = kickS L a b := ⟨_, rfl⟩
  obtain ⟨⟨M2, t2, e2⟩, hSM⟩ : ∃ S, S = kickS M a b := ⟨_, rfl⟩
  have hact : actL mo 4 L a b = L2 := by unfold actL; rw [if_neg (by decide), if_neg (by decide), if_neg (by decide), if_neg (by decide), if_pos rfl, ← hS]
  rw [hact]
  clear hact
  obtain ⟨X, hX⟩ : ∃ X, X = w.heap.size := ⟨_, rfl⟩
  obtain ⟨w0, hw0⟩ : ∃ w0, w0 = w.alloc (.cells #[.int .u8 4, .int .u32 (a : Int), .int .u32 (b : Int)] 28) := ⟨_, rfl⟩
  have hb0 : Below w.heap.size w w0 := by rw [hw0]; exact (Below.refl _ _).alloc (Nat.le_refl _) _
  have hq0 : w0.heap[X]? = some (.cells #[.int .u8 4, .int .u32 (a : Int), .int .u32 (b : Int)] 28 (0, 0)) := by rw [hw0, hX]; exact heap_alloc_new w _
  have t0 := cell_of_row w0 X 0 _ _ _ hq0
  have t1 := cell_of_row w0 X 1 _ _ _ hq0
  have t2 := cell_of_row w0 X 2 _ _ _ hq0
  simp at t0 t1 t2
  have hbk := h.after hb0
  have H0 := Lib.hid hw0
  have HB0 : Hid (Below w.heap.size w w0) := hb0
  have HX := Lib.hid hX
  have HRW : Hid (R ≤ w.heap.size) := Nat.le_of_lt h.ctx.1
  have HP1 := kick_any B R mo vi L a b w0 hbk hI hl2
  rw [← hS] at HP1
  dsimp only [InvtP, LdP, RefP, LeaP] at HP1
  have HP1 := Lib.hid HP1
  have HDC : ∀ W vi1, Dd W R vi1 A n M → Calls Try.prog 57 #[.slice A n c, .int .u32 (a : Int), .int .u32 (b : Int)] W fun r w' => DP2 R vi1 (kickS M a b) W r w' := fun W vi1 h1 => dkick_any R vi1 A n c M a b W h1 hJ hl
  rw [← hSM] at HDC
  dsimp only [DP1, DP2, DP3, DP4] at HDC
  have HDC := Lib.hid HDC
  have HD0 : Hid (Dd w0 R vi A n M) := hD.after hb0
  have HQ0 := Lib.hid hq0
  clear hw0 hb0 hq0 hX h hbk hD hI hJ hl hl2 hS hSM
  go_enter Try.func13, Try.ntmps13
  go_upto_region 4 with (fail)
  rw [← H0.out, ← HX.out]
  go_wp2_with fail
  refine HP1.out.mono ?_
  rintro r w1 ⟨rfl, vi1, hbk, hst⟩
  have hq1 := (hst.keep X _ 28 HQ0.out (by decide) (by decide) (fun h => absurd h (by decide))).trans HQ0.out
  clear t0 t1 t2
  have t0 := cell_of_row w1 X 0 _ _ _ hq1
  have t1 := cell_of_row w1 X 1 _ _ _ hq1
  have t2' := cell_of_row w1 X 2 _ _ _ hq1
  simp at t0 t1 t2'
  have HDC1 := Lib.hid (HDC.out w1 vi1 (HD0.out.stp hst hbk.ctx))
  have HBK1 := Lib.hid hbk
  have HST1 : Hid (Stp R vi vi1 w w1) := hst.from HRW.out HB0.out
  clear hq1 hbk hst
  go_wp2_with fail
  refine HDC1.out.mono ?_
  rintro r w2 ⟨A2, n2, c2, rfl, hd2, hb2⟩
  have HFIN : Hid (∀ t, DgP B R mo vi L2 w (.returned (.tuple #[.slice A2 n2 c2, .bool t])) w2) := fun t => ⟨A2, n2, c2, vi1, t, rfl, HBK1.out.after hb2, HST1.out.trans (Stp.of_below (Nat.le_of_lt HBK1.out.ctx.1) hb2)⟩
  clear t0 t1 t2' hd2 hb2
  by_cases q1 : e = e2
  · cases t
    · cases t2
      · go_wp2
        exact bodyPost_ret (v := .tuple #[.slice A2 n2 c2, .bool true]) (by simp [results, Try.results13, go_sem]) rfl (HFIN.out true)
      · go_wp2
        exact bodyPost_ret (v := .tuple #[.slice A2 n2 c2, .bool false]) (by simp [results, Try.results13, go_sem]) rfl (HFIN.out false)
    · cases t2
      · go_wp2
        exact bodyPost_ret (v := .tuple #[.slice A2 n2 c2, .bool false]) (by simp [results, Try.results13, go_sem]) rfl (HFIN.out false)
      · go_wp2
        exact bodyPost_ret (v := .tuple #[.slice A2 n2 c2, .bool true]) (by simp [results, Try.results13, go_sem]) rfl (HFIN.out true)
  · cases t
    · cases t2
      · go_wp2
        exact bodyPost_ret (v := .tuple #[.slice A2 n2 c2, .bool false]) (by simp [results, Try.results13, go_sem]) rfl (HFIN.out false)
      · go_wp2
        exact bodyPost_ret (v := .tuple #[.slice A2 n2 c2, .bool false]) (by simp [results, Try.results13, go_sem]) rfl (HFIN.out false)
    · cases t2
      · go_wp2
        exact bodyPost_ret (v := .tuple #[.slice A2 n2 c2, .bool false]) (by simp [results, Try.results13, go_sem]) rfl (HFIN.out false)
      · go_wp2
        exact bodyPost_ret (v := .tuple #[.slice A2 n2 c2, .bool false]) (by simp [results, Try.results13, go_sem]) rfl (HFIN.out false)
set_option maxHeartbeats 4000000 in
theorem dog_5 (B R : Nat) (mo : Int) (vi : Value) (L M : List Pt) (A : Option Addr) (n c a b : Nat) (w : World) (h : Bk w B R mo vi L) (hD : Dd w R vi A n M) (hI : Inv L) (hJ : Inv M) (hl2 : L.length ≤ 100) (hl : n ≤ 100) (hmo : mo ≤ 2147483647) :
    Calls Try.prog 13 #[bp B, .slice A n c, .int .i64 mo, .agg #[.int .u8 5, .int .u32 (a : Int), .int .u32 (b : Int)]] w fun r w' => DgP B R mo vi (actL mo 5 L a b) w r w' := by
  obtain ⟨⟨L2, e⟩, hS⟩ : ∃ S, S = leadS L a b := ⟨_, rfl⟩
  obtain ⟨⟨M2, e2⟩, hSM⟩ : ∃ S, S = leadS M a b := ⟨_, rfl⟩
  have hact : actL mo 5 L a b = L2 := by unfold actL; rw [if_neg (by decide), if_neg (by decide), if_neg (by decide), if_neg (by decide), if_neg (by decide), if_pos rfl, ← hS]
  rw [hact]
  clear hact
  obtain ⟨X, hX⟩ : ∃ X, X = w.heap.size := ⟨_, rfl⟩
  obtain ⟨w0, hw0⟩ : ∃ w0, w0 = w.alloc (.cells #[.int .u8 5, .int .u32 (a : Int), .int .u32 (b : Int)] 28) := ⟨_, rfl⟩
  have hb0 : Below w.heap.size w w0 := by rw [hw0]; exact (Below.refl _ _).alloc (Nat.le_refl _) _
  have hq0 : w0.heap[X]? = some (.cells #[.int .u8 5, .int .u32 (a : Int), .int .u32 (b : Int)] 28 (0, 0)) := by rw [hw0, hX]; exact heap_alloc_new w _
  have t0 := cell_of_row w0 X 0 _ _ _ hq0
  have t1 := cell_of_row w0 X 1 _ _ _ hq0
  have t2 := cell_of_row w0 X 2 _ _ _ hq0
  simp at t0 t1 t2
  have hbk := h.after hb0
  have H0 := Lib.hid hw0
  have HB0 : Hid (Below w.heap.size w w0) := hb0
  have HX := Lib.hid hX
  have HRW : Hid (R ≤ w.heap.size) := Nat.le_of_lt h.ctx.1
  have HP1 := lead_any B R mo vi L a b w0 hbk hI hl2
  rw [← hS] at HP1
  dsimp only [InvtP, LdP, RefP, LeaP] at HP1
  have HP1 := Lib.hid HP1
  have HDC : ∀ W vi1, Dd W R vi1 A n M → Calls Try.prog 58 #[.slice A n c, .int .u32 (a : Int), .int .u32 (b : Int)] W fun r w' => DP1 R vi1 (leadS M a b) W r w' := fun W vi1 h1 => dlead_any R vi1 A n c M a b W h1 hJ hl
  rw [← hSM] at HDC
  dsimp only [DP1, DP2, DP3, DP4] at HDC
  have HDC := Lib.hid HDC
  have HD0 : Hid (Dd w0 R vi A n M) := hD.after hb0
  have HQ0 := Lib.hid hq0
  clear hw0 hb0 hq0 hX h hbk hD hI hJ hl hl2 hS hSM
  go_enter Try.func13, Try.ntmps13
  go_upto_region 4 with (fail)
  rw [← H0.out, ← HX.out]
  go_wp2_with fail
  refine HP1.out.mono ?_
  rintro r w1 ⟨rfl, vi1, hbk, hst⟩
  have hq1 := (hst.keep X _ 28 HQ0.out (by decide) (by decide) (fun h => absurd h (by decide))).trans HQ0.out
  clear t0 t1 t2
  have t0 := cell_of_row w1 X 0 _ _ _ hq1
  have t1 := cell_of_row w1 X 1 _ _ _ hq1
  have t2' := cell_of_row w1 X 2 _ _ _ hq1
  simp at t0 t1 t2'
  have HDC1 := Lib.hid (HDC.out w1 vi1 (HD0.out.stp hst hbk.ctx))
  have HBK1 := Lib.hid hbk
  have HST1 : Hid (Stp R vi vi1 w w1) := hst.from HRW.out HB0.out
  clear hq1 hbk hst
  go_wp2_with fail
  refine HDC1.out.mono ?_
  rintro r w2 ⟨A2, n2, c2, rfl, hd2, hb2⟩
  have HFIN : Hid (∀ t, DgP B R mo vi L2 w (.returned (.tuple #[.slice A2 n2 c2, .bool t])) w2) := fun t => ⟨A2, n2, c2, vi1, t, rfl, HBK1.out.after hb2, HST1.out.trans (Stp.of_below (Nat.le_of_lt HBK1.out.ctx.1) hb2)⟩
  clear t0 t1 t2' hd2 hb2
  by_cases q1 : e = e2
  · go_wp2
    exact bodyPost_ret (v := .tuple #[.slice A2 n2 c2, .bool true]) (by simp [results, Try.results13, go_sem]) rfl (HFIN.out true)
  · go_wp2
    exact bodyPost_ret (v := .tuple #[.slice A2 n2 c2, .bool false]) (by simp [results, Try.results13, go_sem]) rfl (HFIN.out false)
set_option maxHeartbeats 4000000 in
theorem dog_any (B R : Nat) (mo : Int) (vi : Value) (L M : List Pt) (A : Option Addr) (n c a b : Nat) (w : World) (h : Bk w B R mo vi L) (hD : Dd w R vi A n M) (hI : Inv L) (hJ : Inv M) (hl2 : L.length ≤ 100) (hl : n ≤ 100) (hmo : mo ≤ 2147483647) (d : Int) :
    Calls Try.prog 13 #[bp B, .slice A n c, .int .i64 mo, .agg #[.int .u8 d, .int .u32 (a : Int), .int .u32 (b : Int)]] w fun r w' => DgP B R mo vi (actL mo d L a b) w r w' := by
  by_cases h0 : d = 0
  · subst h0
    exact dog_0 B R mo vi L M A n c a b w h hD hI hJ hl2 hl hmo
  by_cases h1 : d = 1
  · subst h1
    exact dog_1 B R mo vi L M A n c a b w h hD hI hJ hl2 hl hmo
  by_cases h2 : d = 2
  · subst h2
    exact dog_2 B R mo vi L M A n c a b w h hD hI hJ hl2 hl hmo
  by_cases h3 : d = 3
  · subst h3
    exact dog_3 B R mo vi L M A n c a b w h hD hI hJ hl2 hl hmo
  by_cases h4 : d = 4
  · subst h4
    exact dog_4 B R mo vi L M A n c a b w h hD hI hJ hl2 hl hmo
  by_cases h5 : d = 5
  · subst h5
    exact dog_5 B R mo vi L M A n c a b w h hD hI hJ hl2 hl hmo
  have hact : actL mo d L a b = L := by unfold actL; rw [if_neg h0, if_neg h1, if_neg h2, if_neg h3, if_neg h4, if_neg h5]
  rw [hact]
  obtain ⟨X, hX⟩ : ∃ X, X = w.heap.size := ⟨_, rfl⟩
  obtain ⟨w0, hw0⟩ : ∃ w0, w0 = w.alloc (.cells #[.int .u8 d, .int .u32 (a : Int), .int .u32 (b : Int)] 28) := ⟨_, rfl⟩
  have hb0 : Below w.heap.size w w0 := by rw [hw0]; exact (Below.refl _ _).alloc (Nat.le_refl _) _
  have hq0 : w0.heap[X]? = some (.cells #[.int .u8 d, .int .u32 (a : Int), .int .u32 (b : Int)] 28 (0, 0)) := by rw [hw0, hX]; exact heap_alloc_new w _
  have t0 := cell_of_row w0 X 0 _ _ _ hq0
  have t1 := cell_of_row w0 X 1 _ _ _ hq0
  have t2 := cell_of_row w0 X 2 _ _ _ hq0
  simp at t0 t1 t2
  have hbk := h.after hb0
  have H0 := Lib.hid hw0
  have HB0 : Hid (Below w.heap.size w w0) := hb0
  have HX := Lib.hid hX
  have HRW : Hid (R ≤ w.heap.size) := Nat.le_of_lt h.ctx.1
  have HFIN : Hid (DgP B R mo vi L w (.returned (.tuple #[.slice A n c, .bool true])) w0) := ⟨A, n, c, vi, true, rfl, hbk, Stp.of_below HRW.out hb0⟩
  clear hw0 hb0 hq0 hX h hbk hD hI hJ hl hl2 hact
  go_enter Try.func13, Try.ntmps13
  go_upto_region 4 with (fail)
  rw [← H0.out, ← HX.out]
  go_wp2
  exact bodyPost_ret (v := .tuple #[.slice A n c, .bool true]) (by simp [results, Try.results13, go_sem]) rfl HFIN.out
/-! ## no more parties than may be -/
theorem insL_in {L : List Pt} {g : Pt} (h : ∃ e ∈ L, e.id = g.id) : (insL L g).length ≤ L.length := by
  unfold insL
  rw [List.length_append, List.length_cons]
  obtain ⟨e, he, hi⟩ := h
  have key : ∀ L : List Pt, e ∈ L → (L.filter (fun e => decide (e.id < g.id))).length + (L.filter (fun e => decide (g.id < e.id))).length + 1 ≤ L.length := by
    intro L
    induction L with
    | nil => intro h; cases h
    | cons y l ih =>
      intro hm
      rw [List.filter_cons, List.filter_cons]
      rcases List.mem_cons.1 hm with rfl | hm
      · have h1 : ¬ e.id < g.id := by omega
        have h2 : ¬ g.id < e.id := by omega
        have := two_len l g.id
        simp [h1, h2]
        omega
      · have := ih hm
        by_cases h1 : y.id < g.id
        · have h2 : ¬ g.id < y.id := by omega
          simp [h1, h2]
          omega
        · by_cases h2 : g.id < y.id
          · simp [h1, h2]
            omega
          · simp [h1, h2]
            omega
  have := key L he
  omega
theorem putS_in {L : List Pt} {g : Pt} (h : ∃ e ∈ L, e.id = g.id) : (putS L g).length ≤ L.length := by
  unfold putS
  split
  · unfold delL
    exact List.length_filter_le _ _
  · exact insL_in (by rw [fix_id]; exact h)
theorem act_most {L : List Pt} {mo : Int} (hl : (L.length : Int) ≤ mo) (d : Int) (a b : Nat) : ((actL mo d L a b).length : Int) ≤ mo := by
  unfold actL
  split
  · unfold inviteS
    split
    · exact hl
    · split
      · exact hl
      · cases hg : getP L (ofP L a) with
        | none =>
          simp only
          split
          · exact hl
          · (try dsimp only)
            have := insL_len L ⟨lst L, a, [a], [b]⟩
            omega
        | some g =>
          simp only
          have hm := (get_some hg).1
          split
          · exact hl
          · split
            · exact hl
            · split
              · exact hl
              · (try dsimp only)
                have := insL_in (L := L) (g := { g with inv := g.inv ++ [b] }) ⟨g, hm, rfl⟩
                omega
  split
  · unfold joinS
    cases hg : getP L b with
    | none => exact hl
    | some g =>
      simp only
      have hm := (get_some hg).1
      split
      · split
        · exact hl
        · (try dsimp only)
          have := insL_in (L := L) (g := { g with mem := g.mem ++ [a], inv := wo g.inv a }) ⟨g, hm, rfl⟩
          omega
      · exact hl
  split
  · unfold refuseS
    cases hg : getP L b with
    | none => exact hl
    | some g =>
      simp only
      have hm := (get_some hg).1
      split
      · (try dsimp only)
        have := putS_in (L := L) (g := cut g a) ⟨g, hm, rfl⟩
        omega
      · exact hl
  split
  · unfold leaveS
    cases hg : getP L (ofP L a) with
    | none => exact hl
    | some g =>
      (try dsimp only)
      have := putS_in (L := L) (g := cut g a) ⟨g, (get_some hg).1, rfl⟩
      try simp only
      omega
  split
  · unfold kickS
    split
    · exact hl
    · cases hg : getP L (ofP L a) with
      | none => exact hl
      | some g =>
        simp only
        have hm := (get_some hg).1
        split
        · (try dsimp only)
          have := putS_in (L := L) (g := cut g b) ⟨g, hm, rfl⟩
          omega
        · exact hl
  split
  · unfold leadS
    split
    · exact hl
    · cases hg : getP L (ofP L a) with
      | none => exact hl
      | some g =>
        simp only
        have hm := (get_some hg).1
        split
        · (try dsimp only)
          have := insL_in (L := L) (g := { g with ld := b }) ⟨g, hm, rfl⟩
          omega
        · exact hl
  exact hl
end Go.Proofs.Ytjlpmdokmfmdiaa.P
