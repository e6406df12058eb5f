/- Session: SessionRuns' walk. -/
import Derived.Test.YtfgabmjnpjmmgaaTJ
import Derived.Test.YtfgabmjnpjmmgaaSK
import Derived.Test.YtfgabmjnpjmmgaaSE
namespace Go.Proofs.Ytfgabmjnpjmmgaa.T
open Go.RowKit Go.ChangeShapes
open Go.Joins
set_option maxRecDepth 20000
set_option linter.unusedVariables false
set_option linter.unusedSimpArgs false

theorem tb_set {w w' : World} {B T D : Nat} {idle most : Int} {ids : List Nat} {ths : List Mk} {cs : Array Value} (h : Tb w B T idle most ids ths) (hD : w.heap[D]? = some (.cells cs 27 (0, 0))) (hk : ∀ g, g ≠ D → w'.heap[g]? = w.heap[g]?) : Tb w' B T idle most ids ths := by
  obtain ⟨h1, R, vi, vt, h2, h3, h4⟩ := h
  have no : ∀ (g t : Nat) (c : Array Value), w.heap[g]? = some (.cells c t (0, 0)) → t ≠ 27 → g ≠ D := fun g t c hg ht e => by
    rw [e, hD] at hg
    injection hg with hg
    injection hg with _ hg _
    exact ht hg.symm
  have ni : ∀ g, vi.ownBlock = some g → g ≠ D := fun g hg => by
    obtain ⟨c, hc⟩ := own_type h4.rio hg
    exact no g _ c hc (by decide)
  have nt : ∀ g, vt.ownBlock = some g → g ≠ D := fun g hg => by
    obtain ⟨c, hc⟩ := own_type h4.rto hg
    exact no g _ c hc (by decide)
  exact ⟨h1, R, vi, vt, h2, (hk T (no T _ _ h3 (by decide))).trans h3, ⟨(hk R (no R _ _ h4.row (by decide))).trans h4.row, own_after h4.rio fun g hg => hk g (ni g hg), own_after h4.rto fun g hg => hk g (nt g hg), h4.len, h4.up, h4.ok⟩⟩
/-- How things stand: the table and the document's. -/
def RSt (w : World) (T D : Nat) (most idle : Int) (wr : World) : Prop :=
  ∃ (L : List Lk) (A : Option Addr) (n c : Nat), TbL wr w.heap.size T idle most L ∧ Nd L ∧ n = L.length ∧ (L.length : Int) ≤ 30 ∧ wr.heap[D]? = some (.cells (rC A n c most idle) 27 (0, 0)) ∧ Rs wr wr.heap.size A L ∧ (∀ b o, A = some ⟨b, o, none⟩ → Ty wr b) ∧ w.heap.size ≤ D ∧ Below w.heap.size w wr
theorem RSt.below {w W W' : World} {T D : Nat} {most idle : Int} (h : RSt w T D most idle W) (hb : Below W.heap.size W W') : RSt w T D most idle W' := by
  obtain ⟨L, A, n, c, h1, h2, h3, h4, h5, h6, h7, h8, h9⟩ := h
  exact ⟨L, A, n, c, h1.after hb, h2, h3, h4, (hb.block _ (lt_of_block h5)).trans h5, (h6.below hb).mono hb.size, fun b o e => by
    obtain ⟨cs, h⟩ := h7 b o e
    exact ⟨cs, (hb.block _ (lt_of_block h)).trans h⟩, h8, h9.trans (hb.mono h9.size)⟩
theorem Rs.bt {w w' : World} {B : Nat} {A : Option Addr} {l : List Lk} (h : Rs w w.heap.size A l) (hTy : ∀ b o, A = some ⟨b, o, none⟩ → Ty w b) (hb : Bt B w w') : Rs w' w'.heap.size A l := fun hl => by
  obtain ⟨b, o, h1, h2, h3⟩ := h hl
  obtain ⟨cs, h4⟩ := hTy b o h1
  have h5 := hb.keep b cs 62 (by decide) (by decide) (by decide) h4
  have h6 : w'.heap[b]? = w.heap[b]? := h5.trans h4.symm
  exact ⟨b, o, h1, lt_of_block h5, fun i e he => ⟨(World.cell?_of_block (a := ⟨b, _, none⟩) h6).trans (h3 i e he).1, (World.cell?_of_block (a := ⟨b, _, none⟩) h6).trans (h3 i e he).2.1, (World.cell?_of_block (a := ⟨b, _, none⟩) h6).trans (h3 i e he).2.2⟩⟩
theorem step_fin {w v2 v3 : World} {T D n c n3 c3 : Nat} {most idle : Int} {L' : List Lk} {A A3 : Option Addr} {X : Nat} {ac : Array Value} (hT : TbL v2 w.heap.size T idle most L') (hN : Nd L') (hl : (L'.length : Int) ≤ 30) (hD2 : v2.heap[D]? = some (.cells (rC A n c most idle) 27 (0, 0))) (hDge : w.heap.size ≤ D) (hB2 : Below w.heap.size w v2) (hTy2 : ∀ b o, A = some ⟨b, o, none⟩ → Ty v2 b) (hn3 : n3 = L'.length) (hR3 : Rs v3 v3.heap.size A3 L') (hb3 : Below v2.heap.size v2 v3) (hA3 : A3 = A ∨ ∀ b o, A3 = some ⟨b, o, none⟩ → v2.heap.size ≤ b ∧ Ty v3 b) (hX : v2.heap[X]? = some (.cells ac 30 (0, 0))) :
    RSt w T D most idle (((v3.setCell ⟨D, 0, none⟩ (.slice A3 n3 c3)).setCell ⟨D, 1, none⟩ (.int .i64 most)).setCell ⟨D, 2, none⟩ (.int .i64 idle)) ∧ (((v3.setCell ⟨D, 0, none⟩ (.slice A3 n3 c3)).setCell ⟨D, 1, none⟩ (.int .i64 most)).setCell ⟨D, 2, none⟩ (.int .i64 idle)).heap[X]? = some (.cells ac 30 (0, 0)) := by
  have hD3 : v3.heap[D]? = some (.cells (rC A n c most idle) 27 (0, 0)) := (hb3.block _ (lt_of_block hD2)).trans hD2
  have hTy3 : ∀ b o, A3 = some ⟨b, o, none⟩ → Ty v3 b := fun b o e => by
    rcases hA3 with h | h
    · obtain ⟨cs, h5⟩ := hTy2 b o (by rw [← h]; exact e)
      exact ⟨cs, (hb3.block _ (lt_of_block h5)).trans h5⟩
    · exact (h b o e).2
  have hne : ∀ b o, A3 = some ⟨b, o, none⟩ → b ≠ D := fun b o e he => by
    obtain ⟨cs, h5⟩ := hTy3 b o e
    rw [he, hD3] at h5
    injection h5 with h5
    injection h5 with _ h5 _
    exact absurd h5 (by decide)
  have hX3 : v3.heap[X]? = some (.cells ac 30 (0, 0)) := (hb3.block _ (lt_of_block hX)).trans hX
  have hXD : X ≠ D := fun he => by
    rw [he, hD3] at hX3
    injection hX3 with hX3
    injection hX3 with _ hX3 _
    exact absurd hX3 (by decide)
  have hP := put_out (w := w) (p := .slice A3 n3 c3) (q := .int .i64 most) (r := .int .i64 idle) hD3 hDge hR3 (hB2.trans (hb3.mono hB2.size)) hne
  have hT4 := three (.slice A3 n3 c3) (.int .i64 most) (.int .i64 idle) hD3
  exact ⟨⟨L', A3, n3, c3, tb_set (hT.after hb3) hD3 hP.2.2.1, hN, hn3, hl, hT4.2.2.2, hP.1, fun b o e => by
    obtain ⟨cs, h5⟩ := hTy3 b o e
    exact ⟨cs, (hP.2.2.1 b (hne b o e)).trans h5⟩, hDge, hP.2.1⟩, (hP.2.2.1 X hXD).trans hX3⟩

set_option maxHeartbeats 16000000 in
theorem runs_walk (conns idle : Int) (u : Option Addr × Nat) (l : List Ac) (w : World) (hA : As w w.heap.size u.1 l) (hl : l.length ≤ 9223372036854775807) (hR : ∀ e ∈ l, Ra e) (hc : inI conns) (hi : inI idle) :
    Calls Try.prog 3 #[.int .i64 conns, .int .i64 idle, .slice u.1 l.length u.2] w fun r w' => r = .returned (.bool true) ∧ Below w.heap.size w w' := by
  obtain ⟨A, c⟩ := u
  simp only at hA ⊢
  obtain ⟨n, hn⟩ : ∃ n, n = l.length := ⟨_, rfl⟩
  rw [← hn] at hl ⊢
  have HA := Lib.hid hA
  have HR := Lib.hid hR
  have HN := Lib.hid hn
  have HID0 := Lib.hid hi
  have HAW : Hid (∀ W, Calls Try.prog 19 #[] W fun r w' => r = .returned (.bool true) ∧ Below W.heap.size W w') := fun W => sawake W
  clear hA hR hn hi
  by_cases h30 : 30 < conns
  · go_enter Try.func3, Try.ntmps3
    go_wp2
    go_ret
    exact ⟨rfl, Below.refl _ _⟩
  by_cases h60 : 60 < n
  · go_enter Try.func3, Try.ntmps3
    go_wp2
    go_ret
    exact ⟨rfl, Below.refl _ _⟩
  have HNW : Hid (Calls Try.prog 7 #[.int .i64 conns, .int .i64 idle] w fun r w' => ∃ T, r = .returned (.pointer (some ⟨T, 0, none⟩)) ∧ Tb w' w.heap.size T idle (max 0 conns) [] [] ∧ Below w.heap.size w w') := by
    rw [Int.max_comm]
    exact tnew_any conns idle w
  go_enter Try.func3, Try.ntmps3
  go_wp2_with fail
  refine HNW.out.mono ?_
  rintro r w1 ⟨T, rfl, h1, hb1⟩
  obtain ⟨most, hmo⟩ : ∃ most, most = max 0 conns := ⟨_, rfl⟩
  obtain ⟨w3, hw3⟩ : ∃ w3, w3 = w1.alloc (.cells (rC none 0 0 most idle) 27) := ⟨_, rfl⟩
  have hb3 : Below w1.heap.size w1 w3 := by rw [hw3]; exact (Below.refl _ _).alloc (Nat.le_refl _) _
  obtain ⟨D, hD⟩ : ∃ D, D = w1.heap.size := ⟨_, rfl⟩
  have hq3 : w3.heap[D]? = some (.cells (rC none 0 0 most idle) 27 (0, 0)) := by rw [hw3, hD]; exact heap_alloc_new w1 _
  have HS : Hid (RSt w T D most idle w3) := by
    rw [← hmo] at h1
    exact ⟨[], none, 0, 0, Tb.after h1 hb3, ⟨List.Pairwise.nil, by simp⟩, rfl, by simp, hq3, fun h => by simp at h, fun b o e => by simp at e, by rw [hD]; exact hb1.size, hb1.trans (hb3.mono hb1.size)⟩
  have HMO : Hid (most ≤ 30) := by simp only [Hid]; rw [hmo]; omega
  have H3 := Lib.hid hw3
  have HDD := Lib.hid hD
  have HMM := Lib.hid hmo
  clear h1 hb1 hb3 hq3 hw3 hD hmo
  go_upto_region 4 with (fail)
  rw [← HMM.out, ← H3.out, ← HDD.out]
  clear h30 hc
  go_wp2_with fail
  go_loopw [9] (fun i wr => ∃ k : Nat, k ≤ n ∧ i = .int .i64 (k : Int) ∧ Hid (RSt w T D most idle wr)) (fun i _ => n - (intOf i).toNat)
  case atStart => exact ⟨0, Nat.zero_le _, rfl, HS.out⟩
  case round =>
    obtain ⟨k, hk, rfl, HM⟩ := hrel
    by_cases hlt : k < n
    · obtain ⟨⟨d, x, y, now⟩, hy⟩ : ∃ e, l[k]? = some e := ⟨l[k]'(by rw [← HN.out]; exact hlt), List.getElem?_eq_getElem _⟩
      obtain ⟨hd, hx, -, hnow⟩ := HR.out _ (List.mem_of_getElem? hy)
      simp only at hd hx hnow
      obtain ⟨b1, o1, rfl, hb1, ha1⟩ := HA.out (by have := HN.out; omega)
      obtain ⟨e0, e1, e2, e3⟩ := ha1 k _ hy
      obtain ⟨L, A3, N, c3, g1, g2, g3, g4, g5, g6, g7, g8, g9⟩ := HM.out
      have d0 := (g9.cell (p := ⟨b1, _, none⟩) hb1).trans e0
      have d1 := (g9.cell (p := ⟨b1, _, none⟩) hb1).trans e1
      have d2 := (g9.cell (p := ⟨b1, _, none⟩) hb1).trans e2
      have d3 := (g9.cell (p := ⟨b1, _, none⟩) hb1).trans e3
      simp only at d0 d1 d2 d3
      obtain ⟨v1, hv1⟩ : ∃ v1, v1 = wr.alloc (.cells #[.int .u8 d, .int .u32 (x : Int), .int .u32 (y : Int), .int .i64 now] 30) := ⟨_, rfl⟩
      have hbv1 : Below wr.heap.size wr v1 := by rw [hv1]; exact (Below.refl _ _).alloc (Nat.le_refl _) _
      have hqv1 : v1.heap[wr.heap.size]? = some (.cells #[.int .u8 d, .int .u32 (x : Int), .int .u32 (y : Int), .int .i64 now] 30 (0, 0)) := by rw [hv1]; exact heap_alloc_new wr _
      have HV1 := Lib.hid hv1
      have HQV1 := Lib.hid hqv1
      have HT1 : Hid (TbL v1 w.heap.size T idle most L) := g1.after hbv1
      have HBW1 : Hid (Below w.heap.size w v1) := g9.trans (hbv1.mono g9.size)
      have HD1 : Hid (v1.heap[D]? = some (.cells (rC A3 N c3 most idle) 27 (0, 0))) := (hbv1.block _ (lt_of_block g5)).trans g5
      have HR1 : Hid (Rs v1 v1.heap.size A3 L) := (g6.below hbv1).mono hbv1.size
      have HTY1 : Hid (∀ b o, A3 = some ⟨b, o, none⟩ → Ty v1 b) := fun b o e => by
        obtain ⟨cs, h⟩ := g7 b o e
        exact ⟨cs, (hbv1.block _ (lt_of_block h)).trans h⟩
      have HND := Lib.hid g2
      have HNL := Lib.hid g3
      have HLE := Lib.hid g4
      have HDGE := Lib.hid g8
      have HL9 : Hid (L.length < 900) := by simp only [Hid]; omega
      have HL100 : Hid (N ≤ 100) := by simp only [Hid]; omega
      have HNOW := Lib.hid hnow
      have t0 := cell_of_row v1 wr.heap.size 0 _ _ _ hqv1
      have t1 := cell_of_row v1 wr.heap.size 1 _ _ _ hqv1
      have t2 := cell_of_row v1 wr.heap.size 2 _ _ _ hqv1
      have t3 := cell_of_row v1 wr.heap.size 3 _ _ _ hqv1
      simp at t0 t1 t2 t3
      clear hy ha1 hb1 e0 e1 e2 e3 g1 g2 g3 g4 g5 g6 g7 g8 g9 hv1 hbv1 hqv1 hnow hx
      go_upto_region 10 with (fail)
      rw [← HV1.out]
      clear d0 d1 d2 d3
      go_upto_block 2 with (fail)
      go_cut [11, 12, 13, 14] (fun ve vn vx vy wx => ∃ q h : Int, ve = .int .i64 q ∧ vn = .int .i64 q ∧ vx = .int .u32 h ∧ vy = .int .u32 h ∧ Hid (RSt w T D most idle wx ∧ wx.heap[wr.heap.size]? = some (.cells #[.int .u8 d, .int .u32 (x : Int), .int .u32 (y : Int), .int .i64 now] 30 (0, 0))))
      case first =>
        have hcs : d = 0 ∨ d = 1 ∨ d = 2 ∨ d = 3 ∨ d = 4 ∨ 5 ≤ d := by omega
        rcases hcs with rfl | rfl | rfl | rfl | rfl | h5
        · obtain ⟨L2, hL2⟩ : ∃ L2, L2 = (openS most x now L).2 := ⟨_, rfl⟩
          obtain ⟨er, her⟩ : ∃ er, er = (openS most x now L).1 := ⟨_, rfl⟩
          have HC := Lib.hid (sopen_act w.heap.size T idle most L x now v1 HT1.out HND.out HL9.out HBW1.out.size)
          have HRF : Hid (∀ W, Rs W W.heap.size A3 L → _) := fun W hW => ropen_any A3 N c3 most idle L x now W HNL.out hW HL100.out HND.out (by have := HMO.out; omega)
          have HND2 : Hid (Nd L2) := by rw [hL2]; exact nd_open HND.out HNOW.out
          have HLN2 : Hid ((L2.length : Int) ≤ 30) := by simp only [Hid]; rw [hL2]; exact open_len (most := most) (M := 30) (x := x) (now := now) (L := L) HLE.out (by have := HMO.out; omega)
          rw [← hL2, ← her] at HC
          simp only [← hL2, ← her] at HRF
          clear hL2 her
          go_wp2_with fail
          refine HC.out.mono ?_
          rintro r v2 ⟨rfl, ht2, hb2⟩
          have HT2 := Lib.hid ht2
          have HQA2 : Hid (v2.heap[wr.heap.size]? = some (.cells #[.int .u8 0, .int .u32 (x : Int), .int .u32 (y : Int), .int .i64 now] 30 (0, 0))) := hb2.keep _ _ 30 (by decide) (by decide) (by decide) HQV1.out
          have HD2 : Hid (v2.heap[D]? = some (.cells (rC A3 N c3 most idle) 27 (0, 0))) := hb2.keep _ _ 27 (by decide) (by decide) (by decide) HD1.out
          have HR2 : Hid (Rs v2 v2.heap.size A3 L) := HR1.out.bt HTY1.out hb2
          have HTY2 : Hid (∀ b o, A3 = some ⟨b, o, none⟩ → Ty v2 b) := fun b o e => by
            obtain ⟨cs, h⟩ := HTY1.out b o e
            exact ⟨cs, hb2.keep _ _ 62 (by decide) (by decide) (by decide) h⟩
          have HBW2 : Hid (Below w.heap.size w v2) := HBW1.out.trans hb2.below
          have HCALL := Lib.hid (HRF.out v2 HR2.out)
          clear ht2 hb2 t0 t1 t2 t3 HC HRF
          have t1 := cell_of_row v2 wr.heap.size 1 _ _ _ HQA2.out
          have t2 := cell_of_row v2 wr.heap.size 2 _ _ _ HQA2.out
          have t3 := cell_of_row v2 wr.heap.size 3 _ _ _ HQA2.out
          have p0 := cell_of_row v2 D 0 _ _ _ HD2.out
          have p1 := cell_of_row v2 D 1 _ _ _ HD2.out
          have p2 := cell_of_row v2 D 2 _ _ _ HD2.out
          simp at t1 t2 t3 p0 p1 p2
          go_wp2_with fail
          refine HCALL.out.mono ?_
          rintro r v3 ⟨A4, n4, c4, hn4, rfl, hR4, hb4, hA4⟩
          have hD3 : v3.heap[D]? = some (.cells (rC A3 N c3 most idle) 27 (0, 0)) := (hb4.block _ (lt_of_block HD2.out)).trans HD2.out
          have HFIN := Lib.hid (step_fin (c3 := c4) HT2.out HND2.out HLN2.out HD2.out HDGE.out HBW2.out HTY2.out hn4 hR4 hb4 hA4 HQA2.out)
          clear hn4 hR4 hb4 hA4 t1 t2 t3 p0 p1 p2
          have z0 := cell_of_row v3 D 0 _ _ _ hD3
          have z1 := cell_of_row v3 D 1 _ _ _ hD3
          have z2 := cell_of_row v3 D 2 _ _ _ hD3
          have zf : ∀ i, v3.frozen? ⟨D, i, none⟩ = false := fun i => frozen_of_row v3 D i _ _ hD3
          simp at z0 z1 z2
          clear hD3
          go_wp2_with fail
          go_meet
          exact ⟨_, _, rfl, rfl, rfl, rfl, HFIN.out⟩
        · obtain ⟨L2, hL2⟩ : ∃ L2, L2 = (loginS x y now L).2.2 := ⟨_, rfl⟩
          obtain ⟨er, her⟩ : ∃ er, er = (loginS x y now L).1 := ⟨_, rfl⟩
          obtain ⟨hd, hhd⟩ : ∃ hd : Nat, hd = (loginS x y now L).2.1 := ⟨_, rfl⟩
          have HC := Lib.hid (login_act w.heap.size T idle most L x y now v1 HT1.out HND.out HL9.out HBW1.out.size)
          have HRF : Hid (∀ W, Rs W W.heap.size A3 L → _) := fun W hW => rlogin_any A3 N c3 most idle L x y now W HNL.out hW HL100.out HND.out
          have HND2 : Hid (Nd L2) := by rw [hL2]; exact nd_login HND.out HNOW.out
          have HLN2 : Hid ((L2.length : Int) ≤ 30) := by simp only [Hid]; rw [hL2]; have := login_len x y now L; have := HLE.out; omega
          rw [← hL2, ← her, ← hhd] at HC
          simp only [← hL2, ← her, ← hhd] at HRF
          clear hL2 her hhd
          go_wp2_with fail
          refine HC.out.mono ?_
          rintro r v2 ⟨rfl, ht2, hb2⟩
          have HT2 := Lib.hid ht2
          have HQA2 : Hid (v2.heap[wr.heap.size]? = some (.cells #[.int .u8 1, .int .u32 (x : Int), .int .u32 (y : Int), .int .i64 now] 30 (0, 0))) := hb2.keep _ _ 30 (by decide) (by decide) (by decide) HQV1.out
          have HD2 : Hid (v2.heap[D]? = some (.cells (rC A3 N c3 most idle) 27 (0, 0))) := hb2.keep _ _ 27 (by decide) (by decide) (by decide) HD1.out
          have HR2 : Hid (Rs v2 v2.heap.size A3 L) := HR1.out.bt HTY1.out hb2
          have HTY2 : Hid (∀ b o, A3 = some ⟨b, o, none⟩ → Ty v2 b) := fun b o e => by
            obtain ⟨cs, h⟩ := HTY1.out b o e
            exact ⟨cs, hb2.keep _ _ 62 (by decide) (by decide) (by decide) h⟩
          have HBW2 : Hid (Below w.heap.size w v2) := HBW1.out.trans hb2.below
          have HCALL := Lib.hid (HRF.out v2 HR2.out)
          clear ht2 hb2 t0 t1 t2 t3 HC HRF
          have t1 := cell_of_row v2 wr.heap.size 1 _ _ _ HQA2.out
          have t2 := cell_of_row v2 wr.heap.size 2 _ _ _ HQA2.out
          have t3 := cell_of_row v2 wr.heap.size 3 _ _ _ HQA2.out
          have p0 := cell_of_row v2 D 0 _ _ _ HD2.out
          have p1 := cell_of_row v2 D 1 _ _ _ HD2.out
          have p2 := cell_of_row v2 D 2 _ _ _ HD2.out
          simp at t1 t2 t3 p0 p1 p2
          go_wp2_with fail
          refine HCALL.out.mono ?_
          rintro r v3 ⟨A4, n4, c4, hn4, rfl, hR4, hb4, hA4⟩
          have hD3 : v3.heap[D]? = some (.cells (rC A3 N c3 most idle) 27 (0, 0)) := (hb4.block _ (lt_of_block HD2.out)).trans HD2.out
          have HFIN := Lib.hid (step_fin (c3 := c4) HT2.out HND2.out HLN2.out HD2.out HDGE.out HBW2.out HTY2.out hn4 hR4 hb4 hA4 HQA2.out)
          clear hn4 hR4 hb4 hA4 t1 t2 t3 p0 p1 p2
          have z0 := cell_of_row v3 D 0 _ _ _ hD3
          have z1 := cell_of_row v3 D 1 _ _ _ hD3
          have z2 := cell_of_row v3 D 2 _ _ _ hD3
          have zf : ∀ i, v3.frozen? ⟨D, i, none⟩ = false := fun i => frozen_of_row v3 D i _ _ hD3
          simp at z0 z1 z2
          clear hD3
          go_wp2_with fail
          go_meet
          exact ⟨_, _, rfl, rfl, rfl, rfl, HFIN.out⟩
        · obtain ⟨L2, hL2⟩ : ∃ L2, L2 = (logoutS x L).2.2 := ⟨_, rfl⟩
          obtain ⟨er, her⟩ : ∃ er, er = (logoutS x L).1 := ⟨_, rfl⟩
          obtain ⟨hd, hhd⟩ : ∃ hd : Int, hd = (logoutS x L).2.1 := ⟨_, rfl⟩
          have HC := Lib.hid (logout_act w.heap.size T idle most L x v1 HT1.out HND.out HL9.out HBW1.out.size)
          have HRF : Hid (∀ W, Rs W W.heap.size A3 L → _) := fun W hW => rlogout_any A3 N c3 most idle L x W HNL.out hW HL100.out HND.out
          have HND2 : Hid (Nd L2) := by rw [hL2]; exact nd_logout HND.out
          have HLN2 : Hid ((L2.length : Int) ≤ 30) := by simp only [Hid]; rw [hL2]; have := logout_len x L; have := HLE.out; omega
          rw [← hL2, ← her, ← hhd] at HC
          simp only [← hL2, ← her, ← hhd] at HRF
          clear hL2 her hhd
          go_wp2_with fail
          refine HC.out.mono ?_
          rintro r v2 ⟨rfl, ht2, hb2⟩
          have HT2 := Lib.hid ht2
          have HQA2 : Hid (v2.heap[wr.heap.size]? = some (.cells #[.int .u8 2, .int .u32 (x : Int), .int .u32 (y : Int), .int .i64 now] 30 (0, 0))) := hb2.keep _ _ 30 (by decide) (by decide) (by decide) HQV1.out
          have HD2 : Hid (v2.heap[D]? = some (.cells (rC A3 N c3 most idle) 27 (0, 0))) := hb2.keep _ _ 27 (by decide) (by decide) (by decide) HD1.out
          have HR2 : Hid (Rs v2 v2.heap.size A3 L) := HR1.out.bt HTY1.out hb2
          have HTY2 : Hid (∀ b o, A3 = some ⟨b, o, none⟩ → Ty v2 b) := fun b o e => by
            obtain ⟨cs, h⟩ := HTY1.out b o e
            exact ⟨cs, hb2.keep _ _ 62 (by decide) (by decide) (by decide) h⟩
          have HBW2 : Hid (Below w.heap.size w v2) := HBW1.out.trans hb2.below
          have HCALL := Lib.hid (HRF.out v2 HR2.out)
          clear ht2 hb2 t0 t1 t2 t3 HC HRF
          have t1 := cell_of_row v2 wr.heap.size 1 _ _ _ HQA2.out
          have t2 := cell_of_row v2 wr.heap.size 2 _ _ _ HQA2.out
          have t3 := cell_of_row v2 wr.heap.size 3 _ _ _ HQA2.out
          have p0 := cell_of_row v2 D 0 _ _ _ HD2.out
          have p1 := cell_of_row v2 D 1 _ _ _ HD2.out
          have p2 := cell_of_row v2 D 2 _ _ _ HD2.out
          simp at t1 t2 t3 p0 p1 p2
          go_wp2_with fail
          refine HCALL.out.mono ?_
          rintro r v3 ⟨A4, n4, c4, hn4, rfl, hR4, hb4, hA4⟩
          have hD3 : v3.heap[D]? = some (.cells (rC A3 N c3 most idle) 27 (0, 0)) := (hb4.block _ (lt_of_block HD2.out)).trans HD2.out
          have HFIN := Lib.hid (step_fin (c3 := c4) HT2.out HND2.out HLN2.out HD2.out HDGE.out HBW2.out HTY2.out hn4 hR4 hb4 hA4 HQA2.out)
          clear hn4 hR4 hb4 hA4 t1 t2 t3 p0 p1 p2
          have z0 := cell_of_row v3 D 0 _ _ _ hD3
          have z1 := cell_of_row v3 D 1 _ _ _ hD3
          have z2 := cell_of_row v3 D 2 _ _ _ hD3
          have zf : ∀ i, v3.frozen? ⟨D, i, none⟩ = false := fun i => frozen_of_row v3 D i _ _ hD3
          simp at z0 z1 z2
          clear hD3
          go_wp2_with fail
          go_meet
          exact ⟨_, _, rfl, rfl, rfl, rfl, HFIN.out⟩
        · obtain ⟨L2, hL2⟩ : ∃ L2, L2 = (closeS x L).2.2 := ⟨_, rfl⟩
          obtain ⟨er, her⟩ : ∃ er, er = (closeS x L).1 := ⟨_, rfl⟩
          obtain ⟨hd, hhd⟩ : ∃ hd : Int, hd = (closeS x L).2.1 := ⟨_, rfl⟩
          have HC := Lib.hid (close_act w.heap.size T idle most L x v1 HT1.out HND.out HL9.out HBW1.out.size)
          have HRF : Hid (∀ W, Rs W W.heap.size A3 L → _) := fun W hW => rclose_any A3 N c3 most idle L x W HNL.out hW HL100.out HND.out
          have HND2 : Hid (Nd L2) := by rw [hL2]; exact nd_close HND.out
          have HLN2 : Hid ((L2.length : Int) ≤ 30) := by simp only [Hid]; rw [hL2]; have := close_len x L; have := HLE.out; omega
          rw [← hL2, ← her, ← hhd] at HC
          simp only [← hL2, ← her, ← hhd] at HRF
          clear hL2 her hhd
          go_wp2_with fail
          refine HC.out.mono ?_
          rintro r v2 ⟨rfl, ht2, hb2⟩
          have HT2 := Lib.hid ht2
          have HQA2 : Hid (v2.heap[wr.heap.size]? = some (.cells #[.int .u8 3, .int .u32 (x : Int), .int .u32 (y : Int), .int .i64 now] 30 (0, 0))) := hb2.keep _ _ 30 (by decide) (by decide) (by decide) HQV1.out
          have HD2 : Hid (v2.heap[D]? = some (.cells (rC A3 N c3 most idle) 27 (0, 0))) := hb2.keep _ _ 27 (by decide) (by decide) (by decide) HD1.out
          have HR2 : Hid (Rs v2 v2.heap.size A3 L) := HR1.out.bt HTY1.out hb2
          have HTY2 : Hid (∀ b o, A3 = some ⟨b, o, none⟩ → Ty v2 b) := fun b o e => by
            obtain ⟨cs, h⟩ := HTY1.out b o e
            exact ⟨cs, hb2.keep _ _ 62 (by decide) (by decide) (by decide) h⟩
          have HBW2 : Hid (Below w.heap.size w v2) := HBW1.out.trans hb2.below
          have HCALL := Lib.hid (HRF.out v2 HR2.out)
          clear ht2 hb2 t0 t1 t2 t3 HC HRF
          have t1 := cell_of_row v2 wr.heap.size 1 _ _ _ HQA2.out
          have t2 := cell_of_row v2 wr.heap.size 2 _ _ _ HQA2.out
          have t3 := cell_of_row v2 wr.heap.size 3 _ _ _ HQA2.out
          have p0 := cell_of_row v2 D 0 _ _ _ HD2.out
          have p1 := cell_of_row v2 D 1 _ _ _ HD2.out
          have p2 := cell_of_row v2 D 2 _ _ _ HD2.out
          simp at t1 t2 t3 p0 p1 p2
          go_wp2_with fail
          refine HCALL.out.mono ?_
          rintro r v3 ⟨A4, n4, c4, hn4, rfl, hR4, hb4, hA4⟩
          have hD3 : v3.heap[D]? = some (.cells (rC A3 N c3 most idle) 27 (0, 0)) := (hb4.block _ (lt_of_block HD2.out)).trans HD2.out
          have HFIN := Lib.hid (step_fin (c3 := c4) HT2.out HND2.out HLN2.out HD2.out HDGE.out HBW2.out HTY2.out hn4 hR4 hb4 hA4 HQA2.out)
          clear hn4 hR4 hb4 hA4 t1 t2 t3 p0 p1 p2
          have z0 := cell_of_row v3 D 0 _ _ _ hD3
          have z1 := cell_of_row v3 D 1 _ _ _ hD3
          have z2 := cell_of_row v3 D 2 _ _ _ hD3
          have zf : ∀ i, v3.frozen? ⟨D, i, none⟩ = false := fun i => frozen_of_row v3 D i _ _ hD3
          simp at z0 z1 z2
          clear hD3
          go_wp2_with fail
          go_meet
          exact ⟨_, _, rfl, rfl, rfl, rfl, HFIN.out⟩
        · obtain ⟨L2, hL2⟩ : ∃ L2, L2 = (touchS x now L).2 := ⟨_, rfl⟩
          obtain ⟨er, her⟩ : ∃ er, er = (touchS x now L).1 := ⟨_, rfl⟩
          have HC := Lib.hid (touch_act w.heap.size T idle most L x now v1 HT1.out HND.out HL9.out HBW1.out.size)
          have HRF : Hid (∀ W, Rs W W.heap.size A3 L → _) := fun W hW => rtouch_any A3 N c3 most idle L x now W HNL.out hW HL100.out HND.out
          have HND2 : Hid (Nd L2) := by rw [hL2]; exact nd_touch HND.out HNOW.out
          have HLN2 : Hid ((L2.length : Int) ≤ 30) := by simp only [Hid]; rw [hL2]; have := touch_len x now L; have := HLE.out; omega
          rw [← hL2, ← her] at HC
          simp only [← hL2, ← her] at HRF
          clear hL2 her
          go_wp2_with fail
          refine HC.out.mono ?_
          rintro r v2 ⟨rfl, ht2, hb2⟩
          have HT2 := Lib.hid ht2
          have HQA2 : Hid (v2.heap[wr.heap.size]? = some (.cells #[.int .u8 4, .int .u32 (x : Int), .int .u32 (y : Int), .int .i64 now] 30 (0, 0))) := hb2.keep _ _ 30 (by decide) (by decide) (by decide) HQV1.out
          have HD2 : Hid (v2.heap[D]? = some (.cells (rC A3 N c3 most idle) 27 (0, 0))) := hb2.keep _ _ 27 (by decide) (by decide) (by decide) HD1.out
          have HR2 : Hid (Rs v2 v2.heap.size A3 L) := HR1.out.bt HTY1.out hb2
          have HTY2 : Hid (∀ b o, A3 = some ⟨b, o, none⟩ → Ty v2 b) := fun b o e => by
            obtain ⟨cs, h⟩ := HTY1.out b o e
            exact ⟨cs, hb2.keep _ _ 62 (by decide) (by decide) (by decide) h⟩
          have HBW2 : Hid (Below w.heap.size w v2) := HBW1.out.trans hb2.below
          have HCALL := Lib.hid (HRF.out v2 HR2.out)
          clear ht2 hb2 t0 t1 t2 t3 HC HRF
          have t1 := cell_of_row v2 wr.heap.size 1 _ _ _ HQA2.out
          have t2 := cell_of_row v2 wr.heap.size 2 _ _ _ HQA2.out
          have t3 := cell_of_row v2 wr.heap.size 3 _ _ _ HQA2.out
          have p0 := cell_of_row v2 D 0 _ _ _ HD2.out
          have p1 := cell_of_row v2 D 1 _ _ _ HD2.out
          have p2 := cell_of_row v2 D 2 _ _ _ HD2.out
          simp at t1 t2 t3 p0 p1 p2
          go_wp2_with fail
          refine HCALL.out.mono ?_
          rintro r v3 ⟨A4, n4, c4, hn4, rfl, hR4, hb4, hA4⟩
          have hD3 : v3.heap[D]? = some (.cells (rC A3 N c3 most idle) 27 (0, 0)) := (hb4.block _ (lt_of_block HD2.out)).trans HD2.out
          have HFIN := Lib.hid (step_fin (c3 := c4) HT2.out HND2.out HLN2.out HD2.out HDGE.out HBW2.out HTY2.out hn4 hR4 hb4 hA4 HQA2.out)
          clear hn4 hR4 hb4 hA4 t1 t2 t3 p0 p1 p2
          have z0 := cell_of_row v3 D 0 _ _ _ hD3
          have z1 := cell_of_row v3 D 1 _ _ _ hD3
          have z2 := cell_of_row v3 D 2 _ _ _ hD3
          have zf : ∀ i, v3.frozen? ⟨D, i, none⟩ = false := fun i => frozen_of_row v3 D i _ _ hD3
          simp at z0 z1 z2
          clear hD3
          go_wp2_with fail
          go_meet
          exact ⟨_, _, rfl, rfl, rfl, rfl, HFIN.out⟩
        · have HO : Hid (RSt w T D most idle v1 ∧ v1.heap[wr.heap.size]? = some (.cells #[.int .u8 d, .int .u32 (x : Int), .int .u32 (y : Int), .int .i64 now] 30 (0, 0))) := ⟨⟨L, A3, N, c3, HT1.out, HND.out, HNL.out, HLE.out, HD1.out, HR1.out, HTY1.out, HDGE.out, HBW1.out⟩, HQV1.out⟩
          have n0 : ¬ d = 0 := by omega
          have n1 : ¬ d = 1 := by omega
          have n2 : ¬ d = 2 := by omega
          have n3 : ¬ d = 3 := by omega
          have n4 : ¬ d = 4 := by omega
          go_wp2_with fail
          go_meet
          exact ⟨_, _, rfl, rfl, rfl, rfl, HO.out⟩
      case rest =>
        clear t0 t1 t2 t3
        obtain ⟨er, hh, rfl, rfl, rfl, rfl, HO⟩ := hcut
        obtain ⟨⟨L2, A4, n4, c4, g1, g2, g3, g4, g5, g6, g7, g8, g9⟩, gx⟩ := HO.out
        have HLK := Lib.hid (like_any A4 n4 c4 x y most most idle d now wc g1 g2 g3 g6 (by omega) HID0.out HNOW.out)
        have p0 := cell_of_row wc D 0 _ _ _ g5
        have p1 := cell_of_row wc D 1 _ _ _ g5
        have p2 := cell_of_row wc D 2 _ _ _ g5
        have t0 := cell_of_row wc wr.heap.size 0 _ _ _ gx
        have t1 := cell_of_row wc wr.heap.size 1 _ _ _ gx
        have t2 := cell_of_row wc wr.heap.size 2 _ _ _ gx
        have t3 := cell_of_row wc wr.heap.size 3 _ _ _ gx
        simp at p0 p1 p2 t0 t1 t2 t3
        clear g1 g2 g3 g4 g5 g6 g7 g8 g9 gx
        go_wp2_with fail
        refine HLK.out.mono ?_
        rintro r v5 ⟨rfl, hb5⟩
        have HF := Lib.hid (HO.out.1.below hb5)
        clear hb5
        go_wp2_with fail
        go_roundw
        case rel => exact ⟨k + 1, by omega, by go_num, HF.out⟩
        case measure => simp [intOf] <;> omega
    · have hkn : k = n := by omega
      subst hkn
      have HBF : Hid (Below w.heap.size w wr) := by
        obtain ⟨_, _, _, _, _, _, _, _, _, _, _, _, h⟩ := HM.out
        exact h
      go_wp2_with fail
      refine (HAW.out wr).mono ?_
      rintro r w9 ⟨rfl, hb⟩
      have HB9 := Lib.hid (HBF.out.trans (hb.mono HBF.out.size))
      clear hb
      go_wp2
      go_ret
      exact ⟨rfl, HB9.out⟩
theorem runs_all (conns idle : Int) (u : Option Addr × Nat) (l : List Ac) (w : World) (hc : inI conns) (hi : inI idle) (hA : As w w.heap.size u.1 l) (hl : l.length ≤ 9223372036854775807) (hR : ∀ e ∈ l, Ra e) :
    Calls Try.prog 3 #[.int .i64 conns, .int .i64 idle, .slice u.1 l.length u.2] w fun r w' => r = .returned (.bool true) ∧ Below w.heap.size w w' := runs_walk conns idle u l w hA hl hR hc hi
end Go.Proofs.Ytfgabmjnpjmmgaa.T
