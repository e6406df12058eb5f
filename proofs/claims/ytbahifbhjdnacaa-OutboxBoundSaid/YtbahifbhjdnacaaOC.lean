/- Outbox: OutboxRuns' walk. -/
import Derived.Test.YtbahifbhjdnacaaOB
namespace Go.Proofs.Ytbahifbhjdnacaa
open Go.RowKit
set_option maxRecDepth 20000
set_option linter.unusedVariables false
set_option linter.unusedSimpArgs false

/-- How things stand: the program's flow in block H, the document's in block D. -/
def RS (w : World) (H D : Nat) (o r fl aq : Int) (W : World) : Prop :=
  Fw W H fl o aq r ∧ W.heap[D]? = some (.cells (fC o r fl aq) 27 (0, 0)) ∧ Below w.heap.size w W ∧ w.heap.size ≤ H ∧ w.heap.size ≤ D ∧ D ≠ H
theorem RS.below {w W W' : World} {H D : Nat} {o r fl aq : Int} (h : RS w H D o r fl aq W) (hb : Below W.heap.size W W') : RS w H D o r fl aq W' :=
  ⟨h.1.below hb, (hb.block _ (lt_of_block' h.2.1)).trans h.2.1, h.2.2.1.trans (hb.mono h.2.2.1.size), h.2.2.2⟩
theorem RS.dcell {w W W' : World} {H D : Nat} {o r fl aq : Int} (h : RS w H D o r fl aq W) (hb : Below W.heap.size W W') :
    W'.cell? ⟨D, 0, none⟩ = some (.int .i64 o) ∧ W'.cell? ⟨D, 1, none⟩ = some (.int .i64 r) ∧ W'.cell? ⟨D, 2, none⟩ = some (.int .i64 fl) ∧ W'.cell? ⟨D, 3, none⟩ = some (.int .i64 aq) := by
  have e := (h.below hb).2.1
  exact ⟨cell_of_row W' D 0 _ _ _ e, cell_of_row W' D 1 _ _ _ e, cell_of_row W' D 2 _ _ _ e, cell_of_row W' D 3 _ _ _ e⟩
theorem kp_fin {w w' : World} (h : Below w.heap.size w w') : Kp (fun _ => False) w w' := Kp.of_below _ h
theorem put4_kp (W : World) (D : Nat) (o r f a : Int) : Kp (fun k => k = D) W (put4 W D o r f a) :=
  (((Kp.setCell W ⟨D, 0, none⟩ (.int .i64 o)).trans (Kp.setCell _ ⟨D, 1, none⟩ (.int .i64 r)) (fun _ _ e => e)).trans (Kp.setCell _ ⟨D, 2, none⟩ (.int .i64 f)) (fun _ _ e => e)).trans (Kp.setCell _ ⟨D, 3, none⟩ (.int .i64 a)) (fun _ _ e => e)
theorem RS.put {w W W' : World} {H D : Nat} {o r fl aq : Int} (hf : Fw W H fl o aq r) (hk : Kp (fun _ => False) W W') {f0 a0 : Int} (hd : W'.heap[D]? = some (.cells (fC o r f0 a0) 27 (0, 0))) (hb : Below w.heap.size w W') (h1 : w.heap.size ≤ H) (h2 : w.heap.size ≤ D) (h3 : D ≠ H) : RS w H D o r fl aq (put4 W' D o r fl aq) :=
  ⟨(hf.kept hk (fun e => e)).kept (put4_kp W' D o r fl aq) (fun e => h3 e.symm), put4_row o r fl aq hd rfl, put4_below o r fl aq hb h2, h1, h2, h3⟩
set_option maxHeartbeats 16000000 in
theorem runs_any (out rate : Int) (p : Option Addr × Nat) (acts : List Ac) (w : World) (hout : out < 9223372036854775808) (hrate : rate < 9223372036854775808) (hA : As w w.heap.size p.1 acts) (hl : acts.length ≤ 9223372036854775807) (hRa : ∀ e ∈ acts, Ra w e) :
    Calls Try.prog 3 #[.int .i64 out, .int .i64 rate, .slice p.1 acts.length p.2] w fun r w' => r = .returned (.bool true) ∧ Below w.heap.size w w' := by
  obtain ⟨P, cp⟩ := p
  simp only at hA ⊢
  have HG := Lib.hid (great_any P cp acts w hA hl hRa)
  obtain ⟨gb, hgb⟩ : ∃ gb, gb = greatB acts := ⟨_, rfl⟩
  rw [← hgb] at HG
  obtain ⟨n0, hn⟩ : ∃ n, n = acts.length := ⟨_, rfl⟩
  rw [← hn] at hl HG ⊢
  have HA := Lib.hid hA
  have HRA := Lib.hid hRa
  have HN := Lib.hid hn
  have HGB := Lib.hid hgb
  have HAW : Hid (∀ W, Calls Try.prog 18 #[] W fun r w' => r = .returned (.bool true) ∧ Below W.heap.size W w') := fun W => awake_any W
  have HNW := Lib.hid (new_fw out rate w hout hrate)
  clear hA hRa hn hgb
  go_enter Try.func3, Try.ntmps3
  go_wp2_with fail
  refine HG.out.mono ?_
  rintro r w0 ⟨rfl, rfl⟩
  cases gb with
  | true =>
    go_wp2
    go_ret
    exact ⟨rfl, Below.refl _ _⟩
  | false =>
    have hsm : acts.length ≤ 60 ∧ ∀ e ∈ acts, Sm e := by
      have := HGB.out.symm
      unfold greatB at this
      rw [decide_eq_false_iff_not] at this
      exact Classical.not_not.1 this
    have HSM := Lib.hid hsm
    have hn60 : n0 ≤ 60 := by rw [HN.out]; exact hsm.1
    clear hsm
    obtain ⟨o, ho⟩ : ∃ o, o = max out 0 := ⟨_, rfl⟩
    obtain ⟨r, hr⟩ : ∃ r, r = max rate 0 := ⟨_, rfl⟩
    rw [← ho, ← hr] at HNW
    go_wp2_with fail
    refine HNW.out.mono ?_
    rintro r' w1 ⟨H, rfl, hH, hf1, hb1⟩
    have HC7 := Lib.hid (rnew_any out rate w1)
    rw [← ho, ← hr] at HC7
    have HF1 := Lib.hid hf1
    have HB1 := Lib.hid hb1
    have HH := Lib.hid hH
    clear hf1 hb1 hH ho hr
    go_wp2_with fail
    refine HC7.out.mono ?_
    rintro r' w2 ⟨rfl, hb2⟩
    obtain ⟨D, hD⟩ : ∃ D, D = w2.heap.size := ⟨_, rfl⟩
    obtain ⟨w3, hw3⟩ : ∃ w3, w3 = w2.alloc (.cells (fC o r 0 0) 27) := ⟨_, rfl⟩
    have HM0 : Hid (RS w H D o r 0 0 w3) := by
      have hb3 : Below w2.heap.size w2 w3 := by rw [hw3]; exact (Below.refl _ _).alloc (Nat.le_refl _) _
      have hb12 := HB1.out.trans (hb2.mono HB1.out.size)
      have hf2 := HF1.out.below hb2
      refine ⟨hf2.below hb3, by rw [hw3, hD]; exact heap_alloc_new w2 _, hb12.trans (hb3.mono hb12.size), HH.out, by rw [hD]; exact hb12.size, ?_⟩
      have := lt_of_block' hf2.row
      omega
    have H3 := Lib.hid hw3
    have HDD := Lib.hid hD
    clear hw3 hD hb2 HC7 HF1 HB1
    go_wp2_with fail
    rw [← H3.out, ← HDD.out]
    go_loopw [9] (fun i wr => ∃ (k : Nat) (fl aq : Int), k ≤ n0 ∧ i = .int .i64 (k : Int) ∧ Hid (RS w H D o r fl aq wr)) (fun i _ => n0 - (intOf i).toNat)
    case atStart => exact ⟨0, 0, 0, Nat.zero_le _, rfl, HM0.out⟩
    case round =>
      obtain ⟨k, fl, aq, hk, rfl, HM⟩ := hrel
      by_cases hlt : k < n0
      · obtain ⟨⟨d, nn, fs, fp, fc⟩, hy⟩ : ∃ e, acts[k]? = some e := ⟨acts[k]'(by rw [← HN.out]; exact hlt), List.getElem?_eq_getElem _⟩
        obtain ⟨hd0, hnn, hps, hm63, hql⟩ := HRA.out _ (List.mem_of_getElem? hy)
        have hsm := HSM.out.2 _ (List.mem_of_getElem? hy)
        have hwl : (wrapP fs).length ≤ 900000 := by
          have h1 := wrapP_short (fs := fs) (fun q hq => by have := hsm.2 q hq; omega)
          have := hsm.1
          simp only at this
          omega
        obtain ⟨b1, o1, rfl, hb1, ha1⟩ := HA.out (by have := HN.out; omega)
        obtain ⟨e0, e1, e2⟩ := ha1 k _ hy
        have d0 := (HM.out.2.2.1.cell (p := ⟨b1, _, none⟩) hb1).trans e0
        have d1 := (HM.out.2.2.1.cell (p := ⟨b1, _, none⟩) hb1).trans e1
        have d2 := (HM.out.2.2.1.cell (p := ⟨b1, _, none⟩) hb1).trans e2
        simp only at d0 d1 d2 hps hm63 hql hnn hd0
        obtain ⟨m, hm⟩ : ∃ m, m = fs.length := ⟨_, rfl⟩
        rw [← hm] at d2 hps
        have HPX : Hid (∀ W, Below w.heap.size w W → Pbs W (.slice fp m fc) fs) := fun W hW => hps.below hW
        have HQL := Lib.hid hql
        have HWL := Lib.hid hwl
        obtain ⟨X, hX⟩ : ∃ X, X = wr.heap.size := ⟨_, rfl⟩
        obtain ⟨v1, hv1⟩ : ∃ v1, v1 = wr.alloc (.cells #[.int .u8 d, .int .i64 nn, .slice fp m fc] 31) := ⟨_, rfl⟩
        have hbv1 : Below wr.heap.size wr v1 := by rw [hv1]; exact (Below.refl _ _).alloc (Nat.le_refl _) _
        have hqv1 : v1.heap[X]? = some (.cells #[.int .u8 d, .int .i64 nn, .slice fp m fc] 31 (0, 0)) := by rw [hv1, hX]; exact heap_alloc_new wr _
        have HR1 : Hid (RS w H D o r fl aq v1) := HM.out.below hbv1
        have HBW := Lib.hid HR1.out.2.2.1
        have HPV := Lib.hid (HPX.out v1 HBW.out)
        have HXH : Hid (X ≠ H) := by have := lt_of_block' HM.out.1.row; simp only [Hid]; omega
        have HX1 := Lib.hid hqv1
        have HV1 := Lib.hid hv1
        have HXX := Lib.hid hX
        have x0 := cell_of_row v1 X 0 _ _ _ hqv1
        have x1 := cell_of_row v1 X 1 _ _ _ hqv1
        have x2 := cell_of_row v1 X 2 _ _ _ hqv1
        simp at x0 x1 x2
        have u0 := cell_of_row v1 D 0 _ _ _ HR1.out.2.1
        have u1 := cell_of_row v1 D 1 _ _ _ HR1.out.2.1
        have u2 := cell_of_row v1 D 2 _ _ _ HR1.out.2.1
        have u3 := cell_of_row v1 D 3 _ _ _ HR1.out.2.1
        have uf : ∀ i, v1.frozen? ⟨D, i, none⟩ = false := fun i => frozen_of_row v1 D i _ _ HR1.out.2.1
        simp at u0 u1 u2 u3
        clear hy ha1 hb1 e0 e1 e2 hv1 hbv1 hqv1 hX hps hql hwl hsm hm
        go_upto_region 10 with (fail)
        rw [← HV1.out, ← HXX.out]
        clear d0 d1 d2
        by_cases c0 : d = 0
        · subst c0
          have HC := Lib.hid (send_any (H := H) (.slice fp m fc) fs v1 HR1.out.1 HPV.out hm63 HQL.out HWL.out)
          go_wp2_with fail
          refine HC.out.mono ?_
          rintro r' w4 ⟨A4, n4, c4, rfl, hp4, hf4, hk4⟩
          have hx4 := hk4.heap HX1.out (by have := HXH.out; exact this)
          have hd4 := hk4.heap HR1.out.2.1 HR1.out.2.2.2.2.2
          have x0 := cell_of_row w4 X 0 _ _ _ hx4
          have x1 := cell_of_row w4 X 1 _ _ _ hx4
          have x2 := cell_of_row w4 X 2 _ _ _ hx4
          simp at x0 x1 x2
          have z0 := cell_of_row w4 D 0 _ _ _ hd4
          have z1 := cell_of_row w4 D 1 _ _ _ hd4
          have z2 := cell_of_row w4 D 2 _ _ _ hd4
          have z3 := cell_of_row w4 D 3 _ _ _ hd4
          have zf : ∀ i, w4.frozen? ⟨D, i, none⟩ = false := fun i => frozen_of_row w4 D i _ _ hd4
          simp at z0 z1 z2 z3
          have HC2 := Lib.hid (rsend_any o r fl aq (.slice fp m fc) fs w4 HR1.out.1.fl0 HR1.out.1.flo HR1.out.1.ou (HPX.out _ (kp_below HBW.out (Nat.le_refl _) hk4 HR1.out.2.2.2.1)) hm63 HQL.out HWL.out)
          have HB4 := Lib.hid (kp_below HBW.out (Nat.le_refl _) hk4 HR1.out.2.2.2.1)
          obtain ⟨er, her⟩ : ∃ er, er = sendE fl o fs := ⟨_, rfl⟩
          obtain ⟨X4, hX4⟩ : ∃ X4, X4 = sendB fl o fs := ⟨_, rfl⟩
          rw [← her, ← hX4] at HC2
          rw [← hX4] at hp4 hf4
          rw [← her]
          have HP4 := Lib.hid hp4
          have HF4 := Lib.hid hf4
          have HD4 := Lib.hid hd4
          clear hp4 hf4 hk4 hx4 hd4 HC her hX4
          go_wp2_with fail
          refine HC2.out.mono ?_
          rintro r' w5 ⟨A5, n5, c5, rfl, hp5, hb5⟩
          obtain ⟨fl2, hfl2⟩ : ∃ fl2, fl2 = fl + (X4.length : Int) := ⟨_, rfl⟩
          rw [← hfl2] at HF4 ⊢
          obtain ⟨w6, hw6⟩ : ∃ w6, w6 = w5.alloc (.cells (fC o r fl2 aq) 27) := ⟨_, rfl⟩
          have hb6 : Below w5.heap.size w5 w6 := by rw [hw6]; exact (Below.refl _ _).alloc (Nat.le_refl _) _
          have hb46 := hb5.trans (hb6.mono hb5.size)
          have hd6 := (hb46.block _ (lt_of_block' HD4.out)).trans HD4.out
          have hy6 : w6.heap[w5.heap.size]? = some (.cells (fC o r fl2 aq) 27 (0, 0)) := by rw [hw6]; exact heap_alloc_new w5 _
          have hpa := (HP4.out.below hb46).pb
          have hpb := hp5.below hb6
          have e4 : n4 = X4.length := by
            obtain ⟨_, _, e, _⟩ := id hpa
            injection e
          have e5 : n5 = X4.length := by
            obtain ⟨_, _, e, _⟩ := id hpb
            injection e
          subst e4 e5
          have k1 : (convert 32 9 (.slice A4 X4.length c4)).run Try.prog w6 = .ok (.string ⟨X4.toArray⟩) w6 := conv_pb hpa
          have k2 : (convert 32 9 (.slice A5 X4.length c5)).run Try.prog w6 = .ok (.string ⟨X4.toArray⟩) w6 := conv_pb hpb
          have hst : ((⟨X4.toArray⟩ : ByteArray).toList == (⟨X4.toArray⟩ : ByteArray).toList) = true := by rw [str_eq]; simp
          obtain ⟨sx, hsx⟩ : ∃ sx : ByteArray, sx = ⟨X4.toArray⟩ := ⟨_, rfl⟩
          rw [← hsx] at k1 k2 hst
          have y0 := cell_of_row w6 w5.heap.size 0 _ _ _ hy6
          have y1 := cell_of_row w6 w5.heap.size 1 _ _ _ hy6
          have y2 := cell_of_row w6 w5.heap.size 2 _ _ _ hy6
          have y3 := cell_of_row w6 w5.heap.size 3 _ _ _ hy6
          simp at y0 y1 y2 y3
          clear z0 z1 z2 z3 zf
          have z0 := cell_of_row w6 D 0 _ _ _ hd6
          have z1 := cell_of_row w6 D 1 _ _ _ hd6
          have z2 := cell_of_row w6 D 2 _ _ _ hd6
          have z3 := cell_of_row w6 D 3 _ _ _ hd6
          have zf : ∀ i, w6.frozen? ⟨D, i, none⟩ = false := fun i => frozen_of_row w6 D i _ _ hd6
          simp at z0 z1 z2 z3
          obtain ⟨wz, hwz⟩ : ∃ wz, wz = put4 w6 D o r fl2 aq := ⟨_, rfl⟩
          have HR : Hid (RS w H D o r fl2 aq wz) := by
            rw [hwz]
            exact RS.put HF4.out (kp_fin hb46) hd6 (HB4.out.trans (hb46.mono HB4.out.size)) HR1.out.2.2.2.1 HR1.out.2.2.2.2.1 HR1.out.2.2.2.2.2
          have H6 := Lib.hid hw6
          try unfold put4 at hwz
          have HZ := Lib.hid hwz
          obtain ⟨as2, has2⟩ : ∃ as2, as2 = aq := ⟨_, rfl⟩
          rw [← has2] at HR
          clear hw6 hwz hb6 hb46 hd6 hy6 hpa hpb HP4 HC2 hp5 hb5 hfl2 hsx
          go_upto_region 14 with (fail)
          rw [← H6.out]
          go_upto_region 31 with (fail)
          rw [← HZ.out]
          clear k1 k2 hst
          have HCE : Hid (∀ W, Below wz.heap.size wz W → (fun W : World => W.cell? ⟨D, 2, none⟩ = some (.int .i64 fl2) ∧ W.cell? ⟨D, 3, none⟩ = some (.int .i64 as2)) W) := fun W hW => by
            have e := HR.out.dcell hW
            exact ⟨e.2.2.1, e.2.2.2⟩
          have HFL : Hid (∀ W, Below wz.heap.size wz W → Calls Try.prog 16 #[.pointer (some ⟨H, 0, none⟩)] W fun r' w' => r' = .returned (.int .i64 fl2) ∧ Below W.heap.size W w') := fun W hW =>
            (flying_any H fl2 W (HR.out.1.below hW).cell.1).mono fun r' w' h => ⟨h.1, by rw [← h.2]; exact Below.refl _ _⟩
          have HAL : Hid (∀ W, Below wz.heap.size wz W → Calls Try.prog 17 #[.pointer (some ⟨H, 2, none⟩)] W fun r' w' => r' = .returned (.int .i64 as2) ∧ Below W.heap.size W w') := fun W hW =>
            (asked_any H as2 W (HR.out.1.below hW).cell.2.2.1).mono fun r' w' h => ⟨h.1, by rw [← h.2]; exact Below.refl _ _⟩
          have HBS : Hid (Below wz.heap.size wz wz) := Below.refl _ _
          go_upto_region 31 with (fail)
          have HDa : Hid (Below wz.heap.size wz wz.drew) := HBS.out.drew
          refine wp_region_held_drew (S := fun W : World => W.cell? ⟨D, 2, none⟩ = some (.int .i64 fl2) ∧ W.cell? ⟨D, 3, none⟩ = some (.int .i64 as2)) (by kernel_rfl) (HCE.out _ (HDa.out)) (fun hHeld => ?_)
          obtain ⟨Wa0, hW0⟩ : ∃ W0, W0 = wz.drew := ⟨_, rfl⟩
          rw [← hW0] at hHeld HDa ⊢
          clear hW0
          refine wpAnyH_take (i := 0) (oi := ?oi0a) (v := ?v0a) ?hi0a ?hs0a ?hf0a ?hr0a ?hQ0a ?hy0a ?hS0a ?h0a
          case hi0a => exact (by simp only [List.getElem?_toArray, List.getElem?_cons_zero]; rfl)
          case hs0a => kernel_rfl
          case hf0a => kernel_rfl
          case hr0a => kernel_rfl
          case hQ0a => exact fun _ _ _ h => h
          case hy0a =>
            refine Or.inl ⟨rfl, ?_⟩
            intro W hSw
            obtain ⟨y0, y1⟩ := hSw
            go_simp
            try with_reducible rfl
          case hS0a => assumption
          try simp only [Act.put, List.setIfInBounds_toArray, List.set_cons_zero, List.set_cons_succ]
          refine wpAnyH_take (i := 1) (oi := ?oi1a) (v := ?v1a) ?hi1a ?hs1a ?hf1a ?hr1a ?hQ1a ?hy1a ?hS1a ?h1a
          case hi1a => exact (by simp only [List.getElem?_toArray, List.getElem?_cons_succ, List.getElem?_cons_zero]; rfl)
          case hs1a => kernel_rfl
          case hf1a => kernel_rfl
          case hr1a => kernel_rfl
          case hQ1a => exact fun _ _ _ h => h
          case hy1a =>
            refine Or.inl ⟨rfl, ?_⟩
            intro W hSw
            obtain ⟨y0, y1⟩ := hSw
            go_simp
            try with_reducible rfl
          case hS1a => assumption
          try simp only [Act.put, List.setIfInBounds_toArray, List.set_cons_zero, List.set_cons_succ]
          refine wpAnyH_take (i := 2) (oi := ?oi2a) (v := ?v2a) ?hi2a ?hs2a ?hf2a ?hr2a ?hQ2a ?hy2a ?hS2a ?h2a
          case hi2a => exact (by simp only [List.getElem?_toArray, List.getElem?_cons_succ, List.getElem?_cons_zero]; rfl)
          case hs2a => kernel_rfl
          case hf2a => kernel_rfl
          case hr2a => kernel_rfl
          case hQ2a => exact fun _ _ _ h => h
          case hy2a =>
            refine Or.inl ⟨rfl, ?_⟩
            intro W hSw
            obtain ⟨y0, y1⟩ := hSw
            go_simp
            try with_reducible rfl
          case hS2a => assumption
          try simp only [Act.put, List.setIfInBounds_toArray, List.set_cons_zero, List.set_cons_succ]
          refine wpAnyH_take (i := 4) (oi := ?oi4a) (v := ?v4a) ?hi4a ?hs4a ?hf4a ?hr4a ?hQ4a ?hy4a ?hS4a ?h4a
          case hi4a => exact (by simp only [List.getElem?_toArray, List.getElem?_cons_succ, List.getElem?_cons_zero]; rfl)
          case hs4a => kernel_rfl
          case hf4a => kernel_rfl
          case hr4a => kernel_rfl
          case hQ4a => exact fun _ _ _ h => h
          case hy4a =>
            refine Or.inl ⟨rfl, ?_⟩
            intro W hSw
            obtain ⟨y0, y1⟩ := hSw
            go_simp
            try with_reducible rfl
          case hS4a => assumption
          try simp only [Act.put, List.setIfInBounds_toArray, List.set_cons_zero, List.set_cons_succ]
          refine wpAnyH_take (i := 5) (oi := ?oi5a) (v := ?v5a) ?hi5a ?hs5a ?hf5a ?hr5a ?hQ5a ?hy5a ?hS5a ?h5a
          case hi5a => exact (by simp only [List.getElem?_toArray, List.getElem?_cons_succ, List.getElem?_cons_zero]; rfl)
          case hs5a => kernel_rfl
          case hf5a => kernel_rfl
          case hr5a => kernel_rfl
          case hQ5a => exact fun _ _ _ h => h
          case hy5a =>
            refine Or.inl ⟨rfl, ?_⟩
            intro W hSw
            obtain ⟨y0, y1⟩ := hSw
            go_simp
            try with_reducible rfl
          case hS5a => assumption
          try simp only [Act.put, List.setIfInBounds_toArray, List.set_cons_zero, List.set_cons_succ]
          refine wpAnyH_ready (rs := [3]) (by kernel_rfl) (by simp) ?_
          refine AllReadyH.cons (o := _) rfl (fun K hK => ?_) AllReadyH.nil
          go_simp
          refine ((HFL.out Wa0 HDa.out)).mono ?_
          rintro r Wa1 ⟨rfl, hbq⟩
          have HBa1 := Lib.hid (HDa.out.trans (hbq.mono HDa.out.size))
          clear hbq
          refine hK.out _ _ (HCE.out _ (HBa1.out)) (fun hHeld => ?_)
          clear hK K
          try simp only [Act.put, List.setIfInBounds_toArray, List.set_cons_zero, List.set_cons_succ]
          refine wpAnyH_take (i := 6) (oi := ?oi6a) (v := (.bool false)) ?hi6a ?hs6a ?hf6a ?hr6a ?hQ6a ?hy6a ?hS6a ?h6a
          case hi6a => exact (by simp only [List.getElem?_toArray, List.getElem?_cons_succ, List.getElem?_cons_zero]; rfl)
          case hs6a => kernel_rfl
          case hf6a => kernel_rfl
          case hr6a => kernel_rfl
          case hQ6a => exact fun _ _ _ h => h
          case hy6a =>
            refine Or.inl ⟨rfl, ?_⟩
            intro W hSw
            obtain ⟨y0, y1⟩ := hSw
            go_simp
            try simp
          case hS6a => assumption
          try simp only [Act.put, List.setIfInBounds_toArray, List.set_cons_zero, List.set_cons_succ]
          refine wpAnyH_take (i := 7) (oi := ?oi7a) (v := ?v7a) ?hi7a ?hs7a ?hf7a ?hr7a ?hQ7a ?hy7a ?hS7a ?h7a
          case hi7a => exact (by simp only [List.getElem?_toArray, List.getElem?_cons_succ, List.getElem?_cons_zero]; rfl)
          case hs7a => kernel_rfl
          case hf7a => kernel_rfl
          case hr7a => kernel_rfl
          case hQ7a => exact fun _ _ _ h => h
          case hy7a =>
            refine Or.inl ⟨rfl, ?_⟩
            intro W hSw
            obtain ⟨y0, y1⟩ := hSw
            go_simp
            try with_reducible rfl
          case hS7a => assumption
          try simp only [Act.put, List.setIfInBounds_toArray, List.set_cons_zero, List.set_cons_succ]
          refine wpAnyH_take (i := 8) (oi := ?oi8a) (v := ?v8a) ?hi8a ?hs8a ?hf8a ?hr8a ?hQ8a ?hy8a ?hS8a ?h8a
          case hi8a => exact (by simp only [List.getElem?_toArray, List.getElem?_cons_succ, List.getElem?_cons_zero]; rfl)
          case hs8a => kernel_rfl
          case hf8a => kernel_rfl
          case hr8a => kernel_rfl
          case hQ8a => exact fun _ _ _ h => h
          case hy8a =>
            refine Or.inl ⟨rfl, ?_⟩
            intro W hSw
            obtain ⟨y0, y1⟩ := hSw
            go_simp
            try with_reducible rfl
          case hS8a => assumption
          try simp only [Act.put, List.setIfInBounds_toArray, List.set_cons_zero, List.set_cons_succ]
          refine wpAnyH_take (i := 9) (oi := ?oi9a) (v := ?v9a) ?hi9a ?hs9a ?hf9a ?hr9a ?hQ9a ?hy9a ?hS9a ?h9a
          case hi9a => exact (by simp only [List.getElem?_toArray, List.getElem?_cons_succ, List.getElem?_cons_zero]; rfl)
          case hs9a => kernel_rfl
          case hf9a => kernel_rfl
          case hr9a => kernel_rfl
          case hQ9a => exact fun _ _ _ h => h
          case hy9a =>
            refine Or.inl ⟨rfl, ?_⟩
            intro W hSw
            obtain ⟨y0, y1⟩ := hSw
            go_simp
            try with_reducible rfl
          case hS9a => assumption
          try simp only [Act.put, List.setIfInBounds_toArray, List.set_cons_zero, List.set_cons_succ]
          refine wpAnyH_take (i := 10) (oi := ?oi10a) (v := ?v10a) ?hi10a ?hs10a ?hf10a ?hr10a ?hQ10a ?hy10a ?hS10a ?h10a
          case hi10a => exact (by simp only [List.getElem?_toArray, List.getElem?_cons_succ, List.getElem?_cons_zero]; rfl)
          case hs10a => kernel_rfl
          case hf10a => kernel_rfl
          case hr10a => kernel_rfl
          case hQ10a => exact fun _ _ _ h => h
          case hy10a =>
            refine Or.inl ⟨rfl, ?_⟩
            intro W hSw
            obtain ⟨y0, y1⟩ := hSw
            go_simp
            try with_reducible rfl
          case hS10a => assumption
          try simp only [Act.put, List.setIfInBounds_toArray, List.set_cons_zero, List.set_cons_succ]
          refine wpAnyH_take (i := 12) (oi := ?oi12a) (v := ?v12a) ?hi12a ?hs12a ?hf12a ?hr12a ?hQ12a ?hy12a ?hS12a ?h12a
          case hi12a => exact (by simp only [List.getElem?_toArray, List.getElem?_cons_succ, List.getElem?_cons_zero]; rfl)
          case hs12a => kernel_rfl
          case hf12a => kernel_rfl
          case hr12a => kernel_rfl
          case hQ12a => exact fun _ _ _ h => h
          case hy12a =>
            refine Or.inl ⟨rfl, ?_⟩
            intro W hSw
            obtain ⟨y0, y1⟩ := hSw
            go_simp
            try with_reducible rfl
          case hS12a => assumption
          try simp only [Act.put, List.setIfInBounds_toArray, List.set_cons_zero, List.set_cons_succ]
          refine wpAnyH_take (i := 13) (oi := ?oi13a) (v := ?v13a) ?hi13a ?hs13a ?hf13a ?hr13a ?hQ13a ?hy13a ?hS13a ?h13a
          case hi13a => exact (by simp only [List.getElem?_toArray, List.getElem?_cons_succ, List.getElem?_cons_zero]; rfl)
          case hs13a => kernel_rfl
          case hf13a => kernel_rfl
          case hr13a => kernel_rfl
          case hQ13a => exact fun _ _ _ h => h
          case hy13a =>
            refine Or.inl ⟨rfl, ?_⟩
            intro W hSw
            obtain ⟨y0, y1⟩ := hSw
            go_simp
            try with_reducible rfl
          case hS13a => assumption
          try simp only [Act.put, List.setIfInBounds_toArray, List.set_cons_zero, List.set_cons_succ]
          refine wpAnyH_ready (rs := [11]) (by kernel_rfl) (by simp) ?_
          refine AllReadyH.cons (o := _) rfl (fun K hK => ?_) AllReadyH.nil
          go_simp
          refine ((HAL.out Wa1 HBa1.out)).mono ?_
          rintro r Wa2 ⟨rfl, hbq⟩
          have HBa2 := Lib.hid (HBa1.out.trans (hbq.mono HBa1.out.size))
          clear hbq
          refine hK.out _ _ (HCE.out _ (HBa2.out)) (fun hHeld => ?_)
          clear hK K
          try simp only [Act.put, List.setIfInBounds_toArray, List.set_cons_zero, List.set_cons_succ]
          refine wpAnyH_take (i := 14) (oi := ?oi14a) (v := (.bool false)) ?hi14a ?hs14a ?hf14a ?hr14a ?hQ14a ?hy14a ?hS14a ?h14a
          case hi14a => exact (by simp only [List.getElem?_toArray, List.getElem?_cons_succ, List.getElem?_cons_zero]; rfl)
          case hs14a => kernel_rfl
          case hf14a => kernel_rfl
          case hr14a => kernel_rfl
          case hQ14a => exact fun _ _ _ h => h
          case hy14a =>
            refine Or.inl ⟨rfl, ?_⟩
            intro W hSw
            obtain ⟨y0, y1⟩ := hSw
            go_simp
            try simp
          case hS14a => assumption
          try simp only [Act.put, List.setIfInBounds_toArray, List.set_cons_zero, List.set_cons_succ]
          refine wpAnyH_take (i := 15) (oi := ?oi15a) (v := ?v15a) ?hi15a ?hs15a ?hf15a ?hr15a ?hQ15a ?hy15a ?hS15a ?h15a
          case hi15a => exact (by simp only [List.getElem?_toArray, List.getElem?_cons_succ, List.getElem?_cons_zero]; rfl)
          case hs15a => kernel_rfl
          case hf15a => kernel_rfl
          case hr15a => kernel_rfl
          case hQ15a => exact fun _ _ _ h => h
          case hy15a =>
            refine Or.inl ⟨rfl, ?_⟩
            intro W hSw
            obtain ⟨y0, y1⟩ := hSw
            go_simp
            try with_reducible rfl
          case hS15a => assumption
          try simp only [Act.put, List.setIfInBounds_toArray, List.set_cons_zero, List.set_cons_succ]
          refine wpAnyH_done (by kernel_rfl) ?_ _
          have HFN := Lib.hid (HR.out.below HBa2.out)
          go_wp2_with fail
          go_roundw
          case rel => exact ⟨k + 1, fl2, as2, by omega, by go_num, HFN.out⟩
          case measure => simp [intOf] <;> omega
        by_cases c1 : d = 1
        · subst c1
          have HBS1 : Hid (Below v1.heap.size v1 v1) := Below.refl _ _
          have HXC : Hid (∀ W, Below v1.heap.size v1 W → W.cell? ⟨X, 1, none⟩ = some (.int .i64 nn)) := fun W hW => cell_of_row W X 1 _ _ _ ((hW.block _ (lt_of_block' HX1.out)).trans HX1.out)
          go_upto_region 18 with (fail)
          have HDg : Hid (Below v1.heap.size v1 v1.drew) := HBS1.out.drew
          refine wp_region_held_drew (S := fun W : World => W.cell? ⟨X, 1, none⟩ = some (.int .i64 nn)) (by kernel_rfl) (HXC.out _ (HDg.out)) (fun hHeld => ?_)
          obtain ⟨Wg0, hW0⟩ : ∃ W0, W0 = v1.drew := ⟨_, rfl⟩
          rw [← hW0] at hHeld HDg ⊢
          clear hW0
          refine wpAnyH_take (i := 0) (oi := ?oi0g) (v := ?v0g) ?hi0g ?hs0g ?hf0g ?hr0g ?hQ0g ?hy0g ?hS0g ?h0g
          case hi0g => exact (by simp only [List.getElem?_toArray, List.getElem?_cons_zero]; rfl)
          case hs0g => kernel_rfl
          case hf0g => kernel_rfl
          case hr0g => kernel_rfl
          case hQ0g => exact fun _ _ _ h => h
          case hy0g =>
            refine Or.inl ⟨rfl, ?_⟩
            intro W hSw
            go_simp
            try with_reducible rfl
          case hS0g => assumption
          try simp only [Act.put, List.setIfInBounds_toArray, List.set_cons_zero, List.set_cons_succ]
          refine wpAnyH_take (i := 1) (oi := ?oi1g) (v := ?v1g) ?hi1g ?hs1g ?hf1g ?hr1g ?hQ1g ?hy1g ?hS1g ?h1g
          case hi1g => exact (by simp only [List.getElem?_toArray, List.getElem?_cons_succ, List.getElem?_cons_zero]; rfl)
          case hs1g => kernel_rfl
          case hf1g => kernel_rfl
          case hr1g => kernel_rfl
          case hQ1g => exact fun _ _ _ h => h
          case hy1g =>
            refine Or.inl ⟨rfl, ?_⟩
            intro W hSw
            go_simp
            try with_reducible rfl
          case hS1g => assumption
          try simp only [Act.put, List.setIfInBounds_toArray, List.set_cons_zero, List.set_cons_succ]
          refine wpAnyH_take (i := 2) (oi := ?oi2g) (v := ?v2g) ?hi2g ?hs2g ?hf2g ?hr2g ?hQ2g ?hy2g ?hS2g ?h2g
          case hi2g => exact (by simp only [List.getElem?_toArray, List.getElem?_cons_succ, List.getElem?_cons_zero]; rfl)
          case hs2g => kernel_rfl
          case hf2g => kernel_rfl
          case hr2g => kernel_rfl
          case hQ2g => exact fun _ _ _ h => h
          case hy2g =>
            refine Or.inl ⟨rfl, ?_⟩
            intro W hSw
            go_simp
            try with_reducible rfl
          case hS2g => assumption
          try simp only [Act.put, List.setIfInBounds_toArray, List.set_cons_zero, List.set_cons_succ]
          refine wpAnyH_take (i := 3) (oi := ?oi3g) (v := ?v3g) ?hi3g ?hs3g ?hf3g ?hr3g ?hQ3g ?hy3g ?hS3g ?h3g
          case hi3g => exact (by simp only [List.getElem?_toArray, List.getElem?_cons_succ, List.getElem?_cons_zero]; rfl)
          case hs3g => kernel_rfl
          case hf3g => kernel_rfl
          case hr3g => kernel_rfl
          case hQ3g => exact fun _ _ _ h => h
          case hy3g =>
            refine Or.inl ⟨rfl, ?_⟩
            intro W hSw
            go_simp
            try with_reducible rfl
          case hS3g => assumption
          try simp only [Act.put, List.setIfInBounds_toArray, List.set_cons_zero, List.set_cons_succ]
          refine wpAnyH_take (i := 4) (oi := ?oi4g) (v := ?v4g) ?hi4g ?hs4g ?hf4g ?hr4g ?hQ4g ?hy4g ?hS4g ?h4g
          case hi4g => exact (by simp only [List.getElem?_toArray, List.getElem?_cons_succ, List.getElem?_cons_zero]; rfl)
          case hs4g => kernel_rfl
          case hf4g => kernel_rfl
          case hr4g => kernel_rfl
          case hQ4g => exact fun _ _ _ h => h
          case hy4g =>
            refine Or.inl ⟨rfl, ?_⟩
            intro W hSw
            go_simp
            try with_reducible rfl
          case hS4g => assumption
          try simp only [Act.put, List.setIfInBounds_toArray, List.set_cons_zero, List.set_cons_succ]
          refine wpAnyH_ready (rs := [5]) (by kernel_rfl) (by simp) ?_
          refine AllReadyH.cons (o := _) rfl (fun K hK => ?_) AllReadyH.nil
          have hG := gone_any nn Wg0 (HR1.out.1.below HDg.out)
          go_simp
          refine hG.mono ?_
          rintro r' w4 ⟨rfl, hf4, hk4⟩
          have HF4 := Lib.hid hf4
          have HK4 := Lib.hid (Kp.trans (Kp.of_below (fun k => k = H) HDg.out) hk4 (fun i _ e => e))
          have hx4 := HK4.out.heap HX1.out HXH.out
          clear hG hf4 hk4
          refine hK.out _ _ ((cell_of_row _ X 1 _ _ _ hx4)) (fun hHeld => ?_)
          clear hK K
          try simp only [Act.put, List.setIfInBounds_toArray, List.set_cons_zero, List.set_cons_succ]
          refine wpAnyH_take (i := 6) (oi := ?oi6g) (v := ?v6g) ?hi6g ?hs6g ?hf6g ?hr6g ?hQ6g ?hy6g ?hS6g ?h6g
          case hi6g => exact (by simp only [List.getElem?_toArray, List.getElem?_cons_succ, List.getElem?_cons_zero]; rfl)
          case hs6g => kernel_rfl
          case hf6g => kernel_rfl
          case hr6g => kernel_rfl
          case hQ6g => exact fun _ _ _ h => h
          case hy6g =>
            refine Or.inl ⟨rfl, ?_⟩
            intro W hSw
            go_simp
            try with_reducible rfl
          case hS6g => assumption
          try simp only [Act.put, List.setIfInBounds_toArray, List.set_cons_zero, List.set_cons_succ]
          refine wpAnyH_done (by kernel_rfl) ?_ _
          have hd4 := HK4.out.heap HR1.out.2.1 HR1.out.2.2.2.2.2
          have HB4 := Lib.hid (kp_below HBW.out (Nat.le_refl _) HK4.out HR1.out.2.2.2.1)
          have x0 := cell_of_row w4 X 0 _ _ _ hx4
          have x1 := cell_of_row w4 X 1 _ _ _ hx4
          have x2 := cell_of_row w4 X 2 _ _ _ hx4
          simp at x0 x1 x2
          have z0 := cell_of_row w4 D 0 _ _ _ hd4
          have z1 := cell_of_row w4 D 1 _ _ _ hd4
          have z2 := cell_of_row w4 D 2 _ _ _ hd4
          have z3 := cell_of_row w4 D 3 _ _ _ hd4
          have zf : ∀ i, w4.frozen? ⟨D, i, none⟩ = false := fun i => frozen_of_row w4 D i _ _ hd4
          simp at z0 z1 z2 z3
          have HC2 := Lib.hid (rgone_any o r fl aq nn w4 HR1.out.1.fl0 HR1.out.1.flo HR1.out.1.ou)
          obtain ⟨fl2, hfl2⟩ : ∃ fl2, fl2 = goneQ fl nn := ⟨_, rfl⟩
          rw [← hfl2] at HF4 HC2 ⊢
          have HD4 := Lib.hid hd4
          clear hd4 hfl2 hx4
          go_wp2_with fail
          refine HC2.out.mono ?_
          rintro r' w5 ⟨rfl, hb5⟩
          have hd6 := (hb5.block _ (lt_of_block' HD4.out)).trans HD4.out
          clear z0 z1 z2 z3 zf
          have z0 := cell_of_row w5 D 0 _ _ _ hd6
          have z1 := cell_of_row w5 D 1 _ _ _ hd6
          have z2 := cell_of_row w5 D 2 _ _ _ hd6
          have z3 := cell_of_row w5 D 3 _ _ _ hd6
          have zf : ∀ i, w5.frozen? ⟨D, i, none⟩ = false := fun i => frozen_of_row w5 D i _ _ hd6
          simp at z0 z1 z2 z3
          obtain ⟨wz, hwz⟩ : ∃ wz, wz = put4 w5 D o r fl2 aq := ⟨_, rfl⟩
          have HR : Hid (RS w H D o r fl2 aq wz) := by
            rw [hwz]
            exact RS.put HF4.out (kp_fin hb5) hd6 (HB4.out.trans (hb5.mono HB4.out.size)) HR1.out.2.2.2.1 HR1.out.2.2.2.2.1 HR1.out.2.2.2.2.2
          try unfold put4 at hwz
          have HZ := Lib.hid hwz
          have zz := HR.out.dcell (Below.refl _ _)
          obtain ⟨-, -, zz, -⟩ := zz
          obtain ⟨as2, has2⟩ : ∃ as2, as2 = aq := ⟨_, rfl⟩
          rw [← has2] at HR
          clear hwz hb5 hd6 HC2
          go_upto_region 20 with (fail)
          rw [← HZ.out]
          go_upto_region 31 with (fail)
          clear zz
          have HCE : Hid (∀ W, Below wz.heap.size wz W → (fun W : World => W.cell? ⟨D, 2, none⟩ = some (.int .i64 fl2) ∧ W.cell? ⟨D, 3, none⟩ = some (.int .i64 as2)) W) := fun W hW => by
            have e := HR.out.dcell hW
            exact ⟨e.2.2.1, e.2.2.2⟩
          have HFL : Hid (∀ W, Below wz.heap.size wz W → Calls Try.prog 16 #[.pointer (some ⟨H, 0, none⟩)] W fun r' w' => r' = .returned (.int .i64 fl2) ∧ Below W.heap.size W w') := fun W hW =>
            (flying_any H fl2 W (HR.out.1.below hW).cell.1).mono fun r' w' h => ⟨h.1, by rw [← h.2]; exact Below.refl _ _⟩
          have HAL : Hid (∀ W, Below wz.heap.size wz W → Calls Try.prog 17 #[.pointer (some ⟨H, 2, none⟩)] W fun r' w' => r' = .returned (.int .i64 as2) ∧ Below W.heap.size W w') := fun W hW =>
            (asked_any H as2 W (HR.out.1.below hW).cell.2.2.1).mono fun r' w' h => ⟨h.1, by rw [← h.2]; exact Below.refl _ _⟩
          have HBS : Hid (Below wz.heap.size wz wz) := Below.refl _ _
          go_upto_region 31 with (fail)
          have HDb : Hid (Below wz.heap.size wz wz.drew) := HBS.out.drew
          refine wp_region_held_drew (S := fun W : World => W.cell? ⟨D, 2, none⟩ = some (.int .i64 fl2) ∧ W.cell? ⟨D, 3, none⟩ = some (.int .i64 as2)) (by kernel_rfl) (HCE.out _ (HDb.out)) (fun hHeld => ?_)
          obtain ⟨Wb0, hW0⟩ : ∃ W0, W0 = wz.drew := ⟨_, rfl⟩
          rw [← hW0] at hHeld HDb ⊢
          clear hW0
          refine wpAnyH_take (i := 0) (oi := ?oi0b) (v := ?v0b) ?hi0b ?hs0b ?hf0b ?hr0b ?hQ0b ?hy0b ?hS0b ?h0b
          case hi0b => exact (by simp only [List.getElem?_toArray, List.getElem?_cons_zero]; rfl)
          case hs0b => kernel_rfl
          case hf0b => kernel_rfl
          case hr0b => kernel_rfl
          case hQ0b => exact fun _ _ _ h => h
          case hy0b =>
            refine Or.inl ⟨rfl, ?_⟩
            intro W hSw
            obtain ⟨y0, y1⟩ := hSw
            go_simp
            try with_reducible rfl
          case hS0b => assumption
          try simp only [Act.put, List.setIfInBounds_toArray, List.set_cons_zero, List.set_cons_succ]
          refine wpAnyH_take (i := 1) (oi := ?oi1b) (v := ?v1b) ?hi1b ?hs1b ?hf1b ?hr1b ?hQ1b ?hy1b ?hS1b ?h1b
          case hi1b => exact (by simp only [List.getElem?_toArray, List.getElem?_cons_succ, List.getElem?_cons_zero]; rfl)
          case hs1b => kernel_rfl
          case hf1b => kernel_rfl
          case hr1b => kernel_rfl
          case hQ1b => exact fun _ _ _ h => h
          case hy1b =>
            refine Or.inl ⟨rfl, ?_⟩
            intro W hSw
            obtain ⟨y0, y1⟩ := hSw
            go_simp
            try with_reducible rfl
          case hS1b => assumption
          try simp only [Act.put, List.setIfInBounds_toArray, List.set_cons_zero, List.set_cons_succ]
          refine wpAnyH_take (i := 2) (oi := ?oi2b) (v := ?v2b) ?hi2b ?hs2b ?hf2b ?hr2b ?hQ2b ?hy2b ?hS2b ?h2b
          case hi2b => exact (by simp only [List.getElem?_toArray, List.getElem?_cons_succ, List.getElem?_cons_zero]; rfl)
          case hs2b => kernel_rfl
          case hf2b => kernel_rfl
          case hr2b => kernel_rfl
          case hQ2b => exact fun _ _ _ h => h
          case hy2b =>
            refine Or.inl ⟨rfl, ?_⟩
            intro W hSw
            obtain ⟨y0, y1⟩ := hSw
            go_simp
            try with_reducible rfl
          case hS2b => assumption
          try simp only [Act.put, List.setIfInBounds_toArray, List.set_cons_zero, List.set_cons_succ]
          refine wpAnyH_take (i := 4) (oi := ?oi4b) (v := ?v4b) ?hi4b ?hs4b ?hf4b ?hr4b ?hQ4b ?hy4b ?hS4b ?h4b
          case hi4b => exact (by simp only [List.getElem?_toArray, List.getElem?_cons_succ, List.getElem?_cons_zero]; rfl)
          case hs4b => kernel_rfl
          case hf4b => kernel_rfl
          case hr4b => kernel_rfl
          case hQ4b => exact fun _ _ _ h => h
          case hy4b =>
            refine Or.inl ⟨rfl, ?_⟩
            intro W hSw
            obtain ⟨y0, y1⟩ := hSw
            go_simp
            try with_reducible rfl
          case hS4b => assumption
          try simp only [Act.put, List.setIfInBounds_toArray, List.set_cons_zero, List.set_cons_succ]
          refine wpAnyH_take (i := 5) (oi := ?oi5b) (v := ?v5b) ?hi5b ?hs5b ?hf5b ?hr5b ?hQ5b ?hy5b ?hS5b ?h5b
          case hi5b => exact (by simp only [List.getElem?_toArray, List.getElem?_cons_succ, List.getElem?_cons_zero]; rfl)
          case hs5b => kernel_rfl
          case hf5b => kernel_rfl
          case hr5b => kernel_rfl
          case hQ5b => exact fun _ _ _ h => h
          case hy5b =>
            refine Or.inl ⟨rfl, ?_⟩
            intro W hSw
            obtain ⟨y0, y1⟩ := hSw
            go_simp
            try with_reducible rfl
          case hS5b => assumption
          try simp only [Act.put, List.setIfInBounds_toArray, List.set_cons_zero, List.set_cons_succ]
          refine wpAnyH_ready (rs := [3]) (by kernel_rfl) (by simp) ?_
          refine AllReadyH.cons (o := _) rfl (fun K hK => ?_) AllReadyH.nil
          go_simp
          refine ((HFL.out Wb0 HDb.out)).mono ?_
          rintro r Wb1 ⟨rfl, hbq⟩
          have HBb1 := Lib.hid (HDb.out.trans (hbq.mono HDb.out.size))
          clear hbq
          refine hK.out _ _ (HCE.out _ (HBb1.out)) (fun hHeld => ?_)
          clear hK K
          try simp only [Act.put, List.setIfInBounds_toArray, List.set_cons_zero, List.set_cons_succ]
          refine wpAnyH_take (i := 6) (oi := ?oi6b) (v := (.bool false)) ?hi6b ?hs6b ?hf6b ?hr6b ?hQ6b ?hy6b ?hS6b ?h6b
          case hi6b => exact (by simp only [List.getElem?_toArray, List.getElem?_cons_succ, List.getElem?_cons_zero]; rfl)
          case hs6b => kernel_rfl
          case hf6b => kernel_rfl
          case hr6b => kernel_rfl
          case hQ6b => exact fun _ _ _ h => h
          case hy6b =>
            refine Or.inl ⟨rfl, ?_⟩
            intro W hSw
            obtain ⟨y0, y1⟩ := hSw
            go_simp
            try simp
          case hS6b => assumption
          try simp only [Act.put, List.setIfInBounds_toArray, List.set_cons_zero, List.set_cons_succ]
          refine wpAnyH_take (i := 7) (oi := ?oi7b) (v := ?v7b) ?hi7b ?hs7b ?hf7b ?hr7b ?hQ7b ?hy7b ?hS7b ?h7b
          case hi7b => exact (by simp only [List.getElem?_toArray, List.getElem?_cons_succ, List.getElem?_cons_zero]; rfl)
          case hs7b => kernel_rfl
          case hf7b => kernel_rfl
          case hr7b => kernel_rfl
          case hQ7b => exact fun _ _ _ h => h
          case hy7b =>
            refine Or.inl ⟨rfl, ?_⟩
            intro W hSw
            obtain ⟨y0, y1⟩ := hSw
            go_simp
            try with_reducible rfl
          case hS7b => assumption
          try simp only [Act.put, List.setIfInBounds_toArray, List.set_cons_zero, List.set_cons_succ]
          refine wpAnyH_take (i := 8) (oi := ?oi8b) (v := ?v8b) ?hi8b ?hs8b ?hf8b ?hr8b ?hQ8b ?hy8b ?hS8b ?h8b
          case hi8b => exact (by simp only [List.getElem?_toArray, List.getElem?_cons_succ, List.getElem?_cons_zero]; rfl)
          case hs8b => kernel_rfl
          case hf8b => kernel_rfl
          case hr8b => kernel_rfl
          case hQ8b => exact fun _ _ _ h => h
          case hy8b =>
            refine Or.inl ⟨rfl, ?_⟩
            intro W hSw
            obtain ⟨y0, y1⟩ := hSw
            go_simp
            try with_reducible rfl
          case hS8b => assumption
          try simp only [Act.put, List.setIfInBounds_toArray, List.set_cons_zero, List.set_cons_succ]
          refine wpAnyH_take (i := 9) (oi := ?oi9b) (v := ?v9b) ?hi9b ?hs9b ?hf9b ?hr9b ?hQ9b ?hy9b ?hS9b ?h9b
          case hi9b => exact (by simp only [List.getElem?_toArray, List.getElem?_cons_succ, List.getElem?_cons_zero]; rfl)
          case hs9b => kernel_rfl
          case hf9b => kernel_rfl
          case hr9b => kernel_rfl
          case hQ9b => exact fun _ _ _ h => h
          case hy9b =>
            refine Or.inl ⟨rfl, ?_⟩
            intro W hSw
            obtain ⟨y0, y1⟩ := hSw
            go_simp
            try with_reducible rfl
          case hS9b => assumption
          try simp only [Act.put, List.setIfInBounds_toArray, List.set_cons_zero, List.set_cons_succ]
          refine wpAnyH_take (i := 10) (oi := ?oi10b) (v := ?v10b) ?hi10b ?hs10b ?hf10b ?hr10b ?hQ10b ?hy10b ?hS10b ?h10b
          case hi10b => exact (by simp only [List.getElem?_toArray, List.getElem?_cons_succ, List.getElem?_cons_zero]; rfl)
          case hs10b => kernel_rfl
          case hf10b => kernel_rfl
          case hr10b => kernel_rfl
          case hQ10b => exact fun _ _ _ h => h
          case hy10b =>
            refine Or.inl ⟨rfl, ?_⟩
            intro W hSw
            obtain ⟨y0, y1⟩ := hSw
            go_simp
            try with_reducible rfl
          case hS10b => assumption
          try simp only [Act.put, List.setIfInBounds_toArray, List.set_cons_zero, List.set_cons_succ]
          refine wpAnyH_take (i := 12) (oi := ?oi12b) (v := ?v12b) ?hi12b ?hs12b ?hf12b ?hr12b ?hQ12b ?hy12b ?hS12b ?h12b
          case hi12b => exact (by simp only [List.getElem?_toArray, List.getElem?_cons_succ, List.getElem?_cons_zero]; rfl)
          case hs12b => kernel_rfl
          case hf12b => kernel_rfl
          case hr12b => kernel_rfl
          case hQ12b => exact fun _ _ _ h => h
          case hy12b =>
            refine Or.inl ⟨rfl, ?_⟩
            intro W hSw
            obtain ⟨y0, y1⟩ := hSw
            go_simp
            try with_reducible rfl
          case hS12b => assumption
          try simp only [Act.put, List.setIfInBounds_toArray, List.set_cons_zero, List.set_cons_succ]
          refine wpAnyH_take (i := 13) (oi := ?oi13b) (v := ?v13b) ?hi13b ?hs13b ?hf13b ?hr13b ?hQ13b ?hy13b ?hS13b ?h13b
          case hi13b => exact (by simp only [List.getElem?_toArray, List.getElem?_cons_succ, List.getElem?_cons_zero]; rfl)
          case hs13b => kernel_rfl
          case hf13b => kernel_rfl
          case hr13b => kernel_rfl
          case hQ13b => exact fun _ _ _ h => h
          case hy13b =>
            refine Or.inl ⟨rfl, ?_⟩
            intro W hSw
            obtain ⟨y0, y1⟩ := hSw
            go_simp
            try with_reducible rfl
          case hS13b => assumption
          try simp only [Act.put, List.setIfInBounds_toArray, List.set_cons_zero, List.set_cons_succ]
          refine wpAnyH_ready (rs := [11]) (by kernel_rfl) (by simp) ?_
          refine AllReadyH.cons (o := _) rfl (fun K hK => ?_) AllReadyH.nil
          go_simp
          refine ((HAL.out Wb1 HBb1.out)).mono ?_
          rintro r Wb2 ⟨rfl, hbq⟩
          have HBb2 := Lib.hid (HBb1.out.trans (hbq.mono HBb1.out.size))
          clear hbq
          refine hK.out _ _ (HCE.out _ (HBb2.out)) (fun hHeld => ?_)
          clear hK K
          try simp only [Act.put, List.setIfInBounds_toArray, List.set_cons_zero, List.set_cons_succ]
          refine wpAnyH_take (i := 14) (oi := ?oi14b) (v := (.bool false)) ?hi14b ?hs14b ?hf14b ?hr14b ?hQ14b ?hy14b ?hS14b ?h14b
          case hi14b => exact (by simp only [List.getElem?_toArray, List.getElem?_cons_succ, List.getElem?_cons_zero]; rfl)
          case hs14b => kernel_rfl
          case hf14b => kernel_rfl
          case hr14b => kernel_rfl
          case hQ14b => exact fun _ _ _ h => h
          case hy14b =>
            refine Or.inl ⟨rfl, ?_⟩
            intro W hSw
            obtain ⟨y0, y1⟩ := hSw
            go_simp
            try simp
          case hS14b => assumption
          try simp only [Act.put, List.setIfInBounds_toArray, List.set_cons_zero, List.set_cons_succ]
          refine wpAnyH_take (i := 15) (oi := ?oi15b) (v := ?v15b) ?hi15b ?hs15b ?hf15b ?hr15b ?hQ15b ?hy15b ?hS15b ?h15b
          case hi15b => exact (by simp only [List.getElem?_toArray, List.getElem?_cons_succ, List.getElem?_cons_zero]; rfl)
          case hs15b => kernel_rfl
          case hf15b => kernel_rfl
          case hr15b => kernel_rfl
          case hQ15b => exact fun _ _ _ h => h
          case hy15b =>
            refine Or.inl ⟨rfl, ?_⟩
            intro W hSw
            obtain ⟨y0, y1⟩ := hSw
            go_simp
            try with_reducible rfl
          case hS15b => assumption
          try simp only [Act.put, List.setIfInBounds_toArray, List.set_cons_zero, List.set_cons_succ]
          refine wpAnyH_done (by kernel_rfl) ?_ _
          have HFN := Lib.hid (HR.out.below HBb2.out)
          go_wp2_with fail
          go_roundw
          case rel => exact ⟨k + 1, fl2, as2, by omega, by go_num, HFN.out⟩
          case measure => simp [intOf] <;> omega
        by_cases c2 : d = 2
        · subst c2
          have HC := Lib.hid (ask_any (H := H) v1 HR1.out.1)
          obtain ⟨as2, has2⟩ : ∃ as2, as2 = if aq < r then aq + 1 else aq := ⟨_, rfl⟩
          rw [← has2] at HC
          obtain ⟨bb, hbb⟩ : ∃ bb, bb = decide (aq < r) := ⟨_, rfl⟩
          rw [← hbb] at HC
          go_wp2_with fail
          refine HC.out.mono ?_
          rintro r' w4 ⟨rfl, hf4, hk4⟩
          have hd4 := hk4.heap HR1.out.2.1 HR1.out.2.2.2.2.2
          have z0 := cell_of_row w4 D 0 _ _ _ hd4
          have z1 := cell_of_row w4 D 1 _ _ _ hd4
          have z2 := cell_of_row w4 D 2 _ _ _ hd4
          have z3 := cell_of_row w4 D 3 _ _ _ hd4
          have zf : ∀ i, w4.frozen? ⟨D, i, none⟩ = false := fun i => frozen_of_row w4 D i _ _ hd4
          simp at z0 z1 z2 z3
          have HC2 := Lib.hid (rask_any o r fl aq w4 HR1.out.1.as0 HR1.out.1.asr HR1.out.1.ra)
          rw [← has2, ← hbb] at HC2
          have HB4 := Lib.hid (kp_below HBW.out (Nat.le_refl _) hk4 HR1.out.2.2.2.1)
          have HF4 := Lib.hid hf4
          have HD4 := Lib.hid hd4
          clear hf4 hk4 hd4 HC has2 hbb
          go_wp2_with fail
          refine HC2.out.mono ?_
          rintro r' w5 ⟨rfl, hb5⟩
          obtain ⟨w6, hw6⟩ : ∃ w6, w6 = w5.alloc (.cells (fC o r fl as2) 27) := ⟨_, rfl⟩
          have hb6 : Below w5.heap.size w5 w6 := by rw [hw6]; exact (Below.refl _ _).alloc (Nat.le_refl _) _
          have hb46 := hb5.trans (hb6.mono hb5.size)
          have hd6 := (hb46.block _ (lt_of_block' HD4.out)).trans HD4.out
          have hy6 : w6.heap[w5.heap.size]? = some (.cells (fC o r fl as2) 27 (0, 0)) := by rw [hw6]; exact heap_alloc_new w5 _
          have y0 := cell_of_row w6 w5.heap.size 0 _ _ _ hy6
          have y1 := cell_of_row w6 w5.heap.size 1 _ _ _ hy6
          have y2 := cell_of_row w6 w5.heap.size 2 _ _ _ hy6
          have y3 := cell_of_row w6 w5.heap.size 3 _ _ _ hy6
          simp at y0 y1 y2 y3
          clear z0 z1 z2 z3 zf
          have z0 := cell_of_row w6 D 0 _ _ _ hd6
          have z1 := cell_of_row w6 D 1 _ _ _ hd6
          have z2 := cell_of_row w6 D 2 _ _ _ hd6
          have z3 := cell_of_row w6 D 3 _ _ _ hd6
          have zf : ∀ i, w6.frozen? ⟨D, i, none⟩ = false := fun i => frozen_of_row w6 D i _ _ hd6
          simp at z0 z1 z2 z3
          obtain ⟨wz, hwz⟩ : ∃ wz, wz = put4 w6 D o r fl as2 := ⟨_, rfl⟩
          have HR : Hid (RS w H D o r fl as2 wz) := by
            rw [hwz]
            exact RS.put HF4.out (kp_fin hb46) hd6 (HB4.out.trans (hb46.mono HB4.out.size)) HR1.out.2.2.2.1 HR1.out.2.2.2.2.1 HR1.out.2.2.2.2.2
          have H6 := Lib.hid hw6
          try unfold put4 at hwz
          have HZ := Lib.hid hwz
          obtain ⟨fl2, hfl2⟩ : ∃ fl2, fl2 = fl := ⟨_, rfl⟩
          rw [← hfl2] at HR
          clear hw6 hwz hb6 hb46 hd6 hy6 HC2 hb5
          go_upto_region 25 with (fail)
          rw [← H6.out]
          cases bb
          all_goals go_upto_region 31 with (fail)
          all_goals rw [← HZ.out]
          all_goals clear y0
          · skip
            have HCE : Hid (∀ W, Below wz.heap.size wz W → (fun W : World => W.cell? ⟨D, 2, none⟩ = some (.int .i64 fl2) ∧ W.cell? ⟨D, 3, none⟩ = some (.int .i64 as2)) W) := fun W hW => by
              have e := HR.out.dcell hW
              exact ⟨e.2.2.1, e.2.2.2⟩
            have HFL : Hid (∀ W, Below wz.heap.size wz W → Calls Try.prog 16 #[.pointer (some ⟨H, 0, none⟩)] W fun r' w' => r' = .returned (.int .i64 fl2) ∧ Below W.heap.size W w') := fun W hW =>
              (flying_any H fl2 W (HR.out.1.below hW).cell.1).mono fun r' w' h => ⟨h.1, by rw [← h.2]; exact Below.refl _ _⟩
            have HAL : Hid (∀ W, Below wz.heap.size wz W → Calls Try.prog 17 #[.pointer (some ⟨H, 2, none⟩)] W fun r' w' => r' = .returned (.int .i64 as2) ∧ Below W.heap.size W w') := fun W hW =>
              (asked_any H as2 W (HR.out.1.below hW).cell.2.2.1).mono fun r' w' h => ⟨h.1, by rw [← h.2]; exact Below.refl _ _⟩
            have HBS : Hid (Below wz.heap.size wz wz) := Below.refl _ _
            go_upto_region 31 with (fail)
            have HDc : Hid (Below wz.heap.size wz wz.drew) := HBS.out.drew
            refine wp_region_held_drew (S := fun W : World => W.cell? ⟨D, 2, none⟩ = some (.int .i64 fl2) ∧ W.cell? ⟨D, 3, none⟩ = some (.int .i64 as2)) (by kernel_rfl) (HCE.out _ (HDc.out)) (fun hHeld => ?_)
            obtain ⟨Wc0, hW0⟩ : ∃ W0, W0 = wz.drew := ⟨_, rfl⟩
            rw [← hW0] at hHeld HDc ⊢
            clear hW0
            refine wpAnyH_take (i := 0) (oi := ?oi0c) (v := ?v0c) ?hi0c ?hs0c ?hf0c ?hr0c ?hQ0c ?hy0c ?hS0c ?h0c
            case hi0c => exact (by simp only [List.getElem?_toArray, List.getElem?_cons_zero]; rfl)
            case hs0c => kernel_rfl
            case hf0c => kernel_rfl
            case hr0c => kernel_rfl
            case hQ0c => exact fun _ _ _ h => h
            case hy0c =>
              refine Or.inl ⟨rfl, ?_⟩
              intro W hSw
              obtain ⟨y0, y1⟩ := hSw
              go_simp
              try with_reducible rfl
            case hS0c => assumption
            try simp only [Act.put, List.setIfInBounds_toArray, List.set_cons_zero, List.set_cons_succ]
            refine wpAnyH_take (i := 1) (oi := ?oi1c) (v := ?v1c) ?hi1c ?hs1c ?hf1c ?hr1c ?hQ1c ?hy1c ?hS1c ?h1c
            case hi1c => exact (by simp only [List.getElem?_toArray, List.getElem?_cons_succ, List.getElem?_cons_zero]; rfl)
            case hs1c => kernel_rfl
            case hf1c => kernel_rfl
            case hr1c => kernel_rfl
            case hQ1c => exact fun _ _ _ h => h
            case hy1c =>
              refine Or.inl ⟨rfl, ?_⟩
              intro W hSw
              obtain ⟨y0, y1⟩ := hSw
              go_simp
              try with_reducible rfl
            case hS1c => assumption
            try simp only [Act.put, List.setIfInBounds_toArray, List.set_cons_zero, List.set_cons_succ]
            refine wpAnyH_take (i := 2) (oi := ?oi2c) (v := ?v2c) ?hi2c ?hs2c ?hf2c ?hr2c ?hQ2c ?hy2c ?hS2c ?h2c
            case hi2c => exact (by simp only [List.getElem?_toArray, List.getElem?_cons_succ, List.getElem?_cons_zero]; rfl)
            case hs2c => kernel_rfl
            case hf2c => kernel_rfl
            case hr2c => kernel_rfl
            case hQ2c => exact fun _ _ _ h => h
            case hy2c =>
              refine Or.inl ⟨rfl, ?_⟩
              intro W hSw
              obtain ⟨y0, y1⟩ := hSw
              go_simp
              try with_reducible rfl
            case hS2c => assumption
            try simp only [Act.put, List.setIfInBounds_toArray, List.set_cons_zero, List.set_cons_succ]
            refine wpAnyH_take (i := 4) (oi := ?oi4c) (v := ?v4c) ?hi4c ?hs4c ?hf4c ?hr4c ?hQ4c ?hy4c ?hS4c ?h4c
            case hi4c => exact (by simp only [List.getElem?_toArray, List.getElem?_cons_succ, List.getElem?_cons_zero]; rfl)
            case hs4c => kernel_rfl
            case hf4c => kernel_rfl
            case hr4c => kernel_rfl
            case hQ4c => exact fun _ _ _ h => h
            case hy4c =>
              refine Or.inl ⟨rfl, ?_⟩
              intro W hSw
              obtain ⟨y0, y1⟩ := hSw
              go_simp
              try with_reducible rfl
            case hS4c => assumption
            try simp only [Act.put, List.setIfInBounds_toArray, List.set_cons_zero, List.set_cons_succ]
            refine wpAnyH_take (i := 5) (oi := ?oi5c) (v := ?v5c) ?hi5c ?hs5c ?hf5c ?hr5c ?hQ5c ?hy5c ?hS5c ?h5c
            case hi5c => exact (by simp only [List.getElem?_toArray, List.getElem?_cons_succ, List.getElem?_cons_zero]; rfl)
            case hs5c => kernel_rfl
            case hf5c => kernel_rfl
            case hr5c => kernel_rfl
            case hQ5c => exact fun _ _ _ h => h
            case hy5c =>
              refine Or.inl ⟨rfl, ?_⟩
              intro W hSw
              obtain ⟨y0, y1⟩ := hSw
              go_simp
              try with_reducible rfl
            case hS5c => assumption
            try simp only [Act.put, List.setIfInBounds_toArray, List.set_cons_zero, List.set_cons_succ]
            refine wpAnyH_ready (rs := [3]) (by kernel_rfl) (by simp) ?_
            refine AllReadyH.cons (o := _) rfl (fun K hK => ?_) AllReadyH.nil
            go_simp
            refine ((HFL.out Wc0 HDc.out)).mono ?_
            rintro r Wc1 ⟨rfl, hbq⟩
            have HBc1 := Lib.hid (HDc.out.trans (hbq.mono HDc.out.size))
            clear hbq
            refine hK.out _ _ (HCE.out _ (HBc1.out)) (fun hHeld => ?_)
            clear hK K
            try simp only [Act.put, List.setIfInBounds_toArray, List.set_cons_zero, List.set_cons_succ]
            refine wpAnyH_take (i := 6) (oi := ?oi6c) (v := (.bool false)) ?hi6c ?hs6c ?hf6c ?hr6c ?hQ6c ?hy6c ?hS6c ?h6c
            case hi6c => exact (by simp only [List.getElem?_toArray, List.getElem?_cons_succ, List.getElem?_cons_zero]; rfl)
            case hs6c => kernel_rfl
            case hf6c => kernel_rfl
            case hr6c => kernel_rfl
            case hQ6c => exact fun _ _ _ h => h
            case hy6c =>
              refine Or.inl ⟨rfl, ?_⟩
              intro W hSw
              obtain ⟨y0, y1⟩ := hSw
              go_simp
              try simp
            case hS6c => assumption
            try simp only [Act.put, List.setIfInBounds_toArray, List.set_cons_zero, List.set_cons_succ]
            refine wpAnyH_take (i := 7) (oi := ?oi7c) (v := ?v7c) ?hi7c ?hs7c ?hf7c ?hr7c ?hQ7c ?hy7c ?hS7c ?h7c
            case hi7c => exact (by simp only [List.getElem?_toArray, List.getElem?_cons_succ, List.getElem?_cons_zero]; rfl)
            case hs7c => kernel_rfl
            case hf7c => kernel_rfl
            case hr7c => kernel_rfl
            case hQ7c => exact fun _ _ _ h => h
            case hy7c =>
              refine Or.inl ⟨rfl, ?_⟩
              intro W hSw
              obtain ⟨y0, y1⟩ := hSw
              go_simp
              try with_reducible rfl
            case hS7c => assumption
            try simp only [Act.put, List.setIfInBounds_toArray, List.set_cons_zero, List.set_cons_succ]
            refine wpAnyH_take (i := 8) (oi := ?oi8c) (v := ?v8c) ?hi8c ?hs8c ?hf8c ?hr8c ?hQ8c ?hy8c ?hS8c ?h8c
            case hi8c => exact (by simp only [List.getElem?_toArray, List.getElem?_cons_succ, List.getElem?_cons_zero]; rfl)
            case hs8c => kernel_rfl
            case hf8c => kernel_rfl
            case hr8c => kernel_rfl
            case hQ8c => exact fun _ _ _ h => h
            case hy8c =>
              refine Or.inl ⟨rfl, ?_⟩
              intro W hSw
              obtain ⟨y0, y1⟩ := hSw
              go_simp
              try with_reducible rfl
            case hS8c => assumption
            try simp only [Act.put, List.setIfInBounds_toArray, List.set_cons_zero, List.set_cons_succ]
            refine wpAnyH_take (i := 9) (oi := ?oi9c) (v := ?v9c) ?hi9c ?hs9c ?hf9c ?hr9c ?hQ9c ?hy9c ?hS9c ?h9c
            case hi9c => exact (by simp only [List.getElem?_toArray, List.getElem?_cons_succ, List.getElem?_cons_zero]; rfl)
            case hs9c => kernel_rfl
            case hf9c => kernel_rfl
            case hr9c => kernel_rfl
            case hQ9c => exact fun _ _ _ h => h
            case hy9c =>
              refine Or.inl ⟨rfl, ?_⟩
              intro W hSw
              obtain ⟨y0, y1⟩ := hSw
              go_simp
              try with_reducible rfl
            case hS9c => assumption
            try simp only [Act.put, List.setIfInBounds_toArray, List.set_cons_zero, List.set_cons_succ]
            refine wpAnyH_take (i := 10) (oi := ?oi10c) (v := ?v10c) ?hi10c ?hs10c ?hf10c ?hr10c ?hQ10c ?hy10c ?hS10c ?h10c
            case hi10c => exact (by simp only [List.getElem?_toArray, List.getElem?_cons_succ, List.getElem?_cons_zero]; rfl)
            case hs10c => kernel_rfl
            case hf10c => kernel_rfl
            case hr10c => kernel_rfl
            case hQ10c => exact fun _ _ _ h => h
            case hy10c =>
              refine Or.inl ⟨rfl, ?_⟩
              intro W hSw
              obtain ⟨y0, y1⟩ := hSw
              go_simp
              try with_reducible rfl
            case hS10c => assumption
            try simp only [Act.put, List.setIfInBounds_toArray, List.set_cons_zero, List.set_cons_succ]
            refine wpAnyH_take (i := 12) (oi := ?oi12c) (v := ?v12c) ?hi12c ?hs12c ?hf12c ?hr12c ?hQ12c ?hy12c ?hS12c ?h12c
            case hi12c => exact (by simp only [List.getElem?_toArray, List.getElem?_cons_succ, List.getElem?_cons_zero]; rfl)
            case hs12c => kernel_rfl
            case hf12c => kernel_rfl
            case hr12c => kernel_rfl
            case hQ12c => exact fun _ _ _ h => h
            case hy12c =>
              refine Or.inl ⟨rfl, ?_⟩
              intro W hSw
              obtain ⟨y0, y1⟩ := hSw
              go_simp
              try with_reducible rfl
            case hS12c => assumption
            try simp only [Act.put, List.setIfInBounds_toArray, List.set_cons_zero, List.set_cons_succ]
            refine wpAnyH_take (i := 13) (oi := ?oi13c) (v := ?v13c) ?hi13c ?hs13c ?hf13c ?hr13c ?hQ13c ?hy13c ?hS13c ?h13c
            case hi13c => exact (by simp only [List.getElem?_toArray, List.getElem?_cons_succ, List.getElem?_cons_zero]; rfl)
            case hs13c => kernel_rfl
            case hf13c => kernel_rfl
            case hr13c => kernel_rfl
            case hQ13c => exact fun _ _ _ h => h
            case hy13c =>
              refine Or.inl ⟨rfl, ?_⟩
              intro W hSw
              obtain ⟨y0, y1⟩ := hSw
              go_simp
              try with_reducible rfl
            case hS13c => assumption
            try simp only [Act.put, List.setIfInBounds_toArray, List.set_cons_zero, List.set_cons_succ]
            refine wpAnyH_ready (rs := [11]) (by kernel_rfl) (by simp) ?_
            refine AllReadyH.cons (o := _) rfl (fun K hK => ?_) AllReadyH.nil
            go_simp
            refine ((HAL.out Wc1 HBc1.out)).mono ?_
            rintro r Wc2 ⟨rfl, hbq⟩
            have HBc2 := Lib.hid (HBc1.out.trans (hbq.mono HBc1.out.size))
            clear hbq
            refine hK.out _ _ (HCE.out _ (HBc2.out)) (fun hHeld => ?_)
            clear hK K
            try simp only [Act.put, List.setIfInBounds_toArray, List.set_cons_zero, List.set_cons_succ]
            refine wpAnyH_take (i := 14) (oi := ?oi14c) (v := (.bool false)) ?hi14c ?hs14c ?hf14c ?hr14c ?hQ14c ?hy14c ?hS14c ?h14c
            case hi14c => exact (by simp only [List.getElem?_toArray, List.getElem?_cons_succ, List.getElem?_cons_zero]; rfl)
            case hs14c => kernel_rfl
            case hf14c => kernel_rfl
            case hr14c => kernel_rfl
            case hQ14c => exact fun _ _ _ h => h
            case hy14c =>
              refine Or.inl ⟨rfl, ?_⟩
              intro W hSw
              obtain ⟨y0, y1⟩ := hSw
              go_simp
              try simp
            case hS14c => assumption
            try simp only [Act.put, List.setIfInBounds_toArray, List.set_cons_zero, List.set_cons_succ]
            refine wpAnyH_take (i := 15) (oi := ?oi15c) (v := ?v15c) ?hi15c ?hs15c ?hf15c ?hr15c ?hQ15c ?hy15c ?hS15c ?h15c
            case hi15c => exact (by simp only [List.getElem?_toArray, List.getElem?_cons_succ, List.getElem?_cons_zero]; rfl)
            case hs15c => kernel_rfl
            case hf15c => kernel_rfl
            case hr15c => kernel_rfl
            case hQ15c => exact fun _ _ _ h => h
            case hy15c =>
              refine Or.inl ⟨rfl, ?_⟩
              intro W hSw
              obtain ⟨y0, y1⟩ := hSw
              go_simp
              try with_reducible rfl
            case hS15c => assumption
            try simp only [Act.put, List.setIfInBounds_toArray, List.set_cons_zero, List.set_cons_succ]
            refine wpAnyH_done (by kernel_rfl) ?_ _
            have HFN := Lib.hid (HR.out.below HBc2.out)
            go_wp2_with fail
            go_roundw
            case rel => exact ⟨k + 1, fl2, as2, by omega, by go_num, HFN.out⟩
            case measure => simp [intOf] <;> omega
          · skip
            have HCE : Hid (∀ W, Below wz.heap.size wz W → (fun W : World => W.cell? ⟨D, 2, none⟩ = some (.int .i64 fl2) ∧ W.cell? ⟨D, 3, none⟩ = some (.int .i64 as2)) W) := fun W hW => by
              have e := HR.out.dcell hW
              exact ⟨e.2.2.1, e.2.2.2⟩
            have HFL : Hid (∀ W, Below wz.heap.size wz W → Calls Try.prog 16 #[.pointer (some ⟨H, 0, none⟩)] W fun r' w' => r' = .returned (.int .i64 fl2) ∧ Below W.heap.size W w') := fun W hW =>
              (flying_any H fl2 W (HR.out.1.below hW).cell.1).mono fun r' w' h => ⟨h.1, by rw [← h.2]; exact Below.refl _ _⟩
            have HAL : Hid (∀ W, Below wz.heap.size wz W → Calls Try.prog 17 #[.pointer (some ⟨H, 2, none⟩)] W fun r' w' => r' = .returned (.int .i64 as2) ∧ Below W.heap.size W w') := fun W hW =>
              (asked_any H as2 W (HR.out.1.below hW).cell.2.2.1).mono fun r' w' h => ⟨h.1, by rw [← h.2]; exact Below.refl _ _⟩
            have HBS : Hid (Below wz.heap.size wz wz) := Below.refl _ _
            go_upto_region 31 with (fail)
            have HDe : Hid (Below wz.heap.size wz wz.drew) := HBS.out.drew
            refine wp_region_held_drew (S := fun W : World => W.cell? ⟨D, 2, none⟩ = some (.int .i64 fl2) ∧ W.cell? ⟨D, 3, none⟩ = some (.int .i64 as2)) (by kernel_rfl) (HCE.out _ (HDe.out)) (fun hHeld => ?_)
            obtain ⟨We0, hW0⟩ : ∃ W0, W0 = wz.drew := ⟨_, rfl⟩
            rw [← hW0] at hHeld HDe ⊢
            clear hW0
            refine wpAnyH_take (i := 0) (oi := ?oi0e) (v := ?v0e) ?hi0e ?hs0e ?hf0e ?hr0e ?hQ0e ?hy0e ?hS0e ?h0e
            case hi0e => exact (by simp only [List.getElem?_toArray, List.getElem?_cons_zero]; rfl)
            case hs0e => kernel_rfl
            case hf0e => kernel_rfl
            case hr0e => kernel_rfl
            case hQ0e => exact fun _ _ _ h => h
            case hy0e =>
              refine Or.inl ⟨rfl, ?_⟩
              intro W hSw
              obtain ⟨y0, y1⟩ := hSw
              go_simp
              try with_reducible rfl
            case hS0e => assumption
            try simp only [Act.put, List.setIfInBounds_toArray, List.set_cons_zero, List.set_cons_succ]
            refine wpAnyH_take (i := 1) (oi := ?oi1e) (v := ?v1e) ?hi1e ?hs1e ?hf1e ?hr1e ?hQ1e ?hy1e ?hS1e ?h1e
            case hi1e => exact (by simp only [List.getElem?_toArray, List.getElem?_cons_succ, List.getElem?_cons_zero]; rfl)
            case hs1e => kernel_rfl
            case hf1e => kernel_rfl
            case hr1e => kernel_rfl
            case hQ1e => exact fun _ _ _ h => h
            case hy1e =>
              refine Or.inl ⟨rfl, ?_⟩
              intro W hSw
              obtain ⟨y0, y1⟩ := hSw
              go_simp
              try with_reducible rfl
            case hS1e => assumption
            try simp only [Act.put, List.setIfInBounds_toArray, List.set_cons_zero, List.set_cons_succ]
            refine wpAnyH_take (i := 2) (oi := ?oi2e) (v := ?v2e) ?hi2e ?hs2e ?hf2e ?hr2e ?hQ2e ?hy2e ?hS2e ?h2e
            case hi2e => exact (by simp only [List.getElem?_toArray, List.getElem?_cons_succ, List.getElem?_cons_zero]; rfl)
            case hs2e => kernel_rfl
            case hf2e => kernel_rfl
            case hr2e => kernel_rfl
            case hQ2e => exact fun _ _ _ h => h
            case hy2e =>
              refine Or.inl ⟨rfl, ?_⟩
              intro W hSw
              obtain ⟨y0, y1⟩ := hSw
              go_simp
              try with_reducible rfl
            case hS2e => assumption
            try simp only [Act.put, List.setIfInBounds_toArray, List.set_cons_zero, List.set_cons_succ]
            refine wpAnyH_take (i := 4) (oi := ?oi4e) (v := ?v4e) ?hi4e ?hs4e ?hf4e ?hr4e ?hQ4e ?hy4e ?hS4e ?h4e
            case hi4e => exact (by simp only [List.getElem?_toArray, List.getElem?_cons_succ, List.getElem?_cons_zero]; rfl)
            case hs4e => kernel_rfl
            case hf4e => kernel_rfl
            case hr4e => kernel_rfl
            case hQ4e => exact fun _ _ _ h => h
            case hy4e =>
              refine Or.inl ⟨rfl, ?_⟩
              intro W hSw
              obtain ⟨y0, y1⟩ := hSw
              go_simp
              try with_reducible rfl
            case hS4e => assumption
            try simp only [Act.put, List.setIfInBounds_toArray, List.set_cons_zero, List.set_cons_succ]
            refine wpAnyH_take (i := 5) (oi := ?oi5e) (v := ?v5e) ?hi5e ?hs5e ?hf5e ?hr5e ?hQ5e ?hy5e ?hS5e ?h5e
            case hi5e => exact (by simp only [List.getElem?_toArray, List.getElem?_cons_succ, List.getElem?_cons_zero]; rfl)
            case hs5e => kernel_rfl
            case hf5e => kernel_rfl
            case hr5e => kernel_rfl
            case hQ5e => exact fun _ _ _ h => h
            case hy5e =>
              refine Or.inl ⟨rfl, ?_⟩
              intro W hSw
              obtain ⟨y0, y1⟩ := hSw
              go_simp
              try with_reducible rfl
            case hS5e => assumption
            try simp only [Act.put, List.setIfInBounds_toArray, List.set_cons_zero, List.set_cons_succ]
            refine wpAnyH_ready (rs := [3]) (by kernel_rfl) (by simp) ?_
            refine AllReadyH.cons (o := _) rfl (fun K hK => ?_) AllReadyH.nil
            go_simp
            refine ((HFL.out We0 HDe.out)).mono ?_
            rintro r We1 ⟨rfl, hbq⟩
            have HBe1 := Lib.hid (HDe.out.trans (hbq.mono HDe.out.size))
            clear hbq
            refine hK.out _ _ (HCE.out _ (HBe1.out)) (fun hHeld => ?_)
            clear hK K
            try simp only [Act.put, List.setIfInBounds_toArray, List.set_cons_zero, List.set_cons_succ]
            refine wpAnyH_take (i := 6) (oi := ?oi6e) (v := (.bool false)) ?hi6e ?hs6e ?hf6e ?hr6e ?hQ6e ?hy6e ?hS6e ?h6e
            case hi6e => exact (by simp only [List.getElem?_toArray, List.getElem?_cons_succ, List.getElem?_cons_zero]; rfl)
            case hs6e => kernel_rfl
            case hf6e => kernel_rfl
            case hr6e => kernel_rfl
            case hQ6e => exact fun _ _ _ h => h
            case hy6e =>
              refine Or.inl ⟨rfl, ?_⟩
              intro W hSw
              obtain ⟨y0, y1⟩ := hSw
              go_simp
              try simp
            case hS6e => assumption
            try simp only [Act.put, List.setIfInBounds_toArray, List.set_cons_zero, List.set_cons_succ]
            refine wpAnyH_take (i := 7) (oi := ?oi7e) (v := ?v7e) ?hi7e ?hs7e ?hf7e ?hr7e ?hQ7e ?hy7e ?hS7e ?h7e
            case hi7e => exact (by simp only [List.getElem?_toArray, List.getElem?_cons_succ, List.getElem?_cons_zero]; rfl)
            case hs7e => kernel_rfl
            case hf7e => kernel_rfl
            case hr7e => kernel_rfl
            case hQ7e => exact fun _ _ _ h => h
            case hy7e =>
              refine Or.inl ⟨rfl, ?_⟩
              intro W hSw
              obtain ⟨y0, y1⟩ := hSw
              go_simp
              try with_reducible rfl
            case hS7e => assumption
            try simp only [Act.put, List.setIfInBounds_toArray, List.set_cons_zero, List.set_cons_succ]
            refine wpAnyH_take (i := 8) (oi := ?oi8e) (v := ?v8e) ?hi8e ?hs8e ?hf8e ?hr8e ?hQ8e ?hy8e ?hS8e ?h8e
            case hi8e => exact (by simp only [List.getElem?_toArray, List.getElem?_cons_succ, List.getElem?_cons_zero]; rfl)
            case hs8e => kernel_rfl
            case hf8e => kernel_rfl
            case hr8e => kernel_rfl
            case hQ8e => exact fun _ _ _ h => h
            case hy8e =>
              refine Or.inl ⟨rfl, ?_⟩
              intro W hSw
              obtain ⟨y0, y1⟩ := hSw
              go_simp
              try with_reducible rfl
            case hS8e => assumption
            try simp only [Act.put, List.setIfInBounds_toArray, List.set_cons_zero, List.set_cons_succ]
            refine wpAnyH_take (i := 9) (oi := ?oi9e) (v := ?v9e) ?hi9e ?hs9e ?hf9e ?hr9e ?hQ9e ?hy9e ?hS9e ?h9e
            case hi9e => exact (by simp only [List.getElem?_toArray, List.getElem?_cons_succ, List.getElem?_cons_zero]; rfl)
            case hs9e => kernel_rfl
            case hf9e => kernel_rfl
            case hr9e => kernel_rfl
            case hQ9e => exact fun _ _ _ h => h
            case hy9e =>
              refine Or.inl ⟨rfl, ?_⟩
              intro W hSw
              obtain ⟨y0, y1⟩ := hSw
              go_simp
              try with_reducible rfl
            case hS9e => assumption
            try simp only [Act.put, List.setIfInBounds_toArray, List.set_cons_zero, List.set_cons_succ]
            refine wpAnyH_take (i := 10) (oi := ?oi10e) (v := ?v10e) ?hi10e ?hs10e ?hf10e ?hr10e ?hQ10e ?hy10e ?hS10e ?h10e
            case hi10e => exact (by simp only [List.getElem?_toArray, List.getElem?_cons_succ, List.getElem?_cons_zero]; rfl)
            case hs10e => kernel_rfl
            case hf10e => kernel_rfl
            case hr10e => kernel_rfl
            case hQ10e => exact fun _ _ _ h => h
            case hy10e =>
              refine Or.inl ⟨rfl, ?_⟩
              intro W hSw
              obtain ⟨y0, y1⟩ := hSw
              go_simp
              try with_reducible rfl
            case hS10e => assumption
            try simp only [Act.put, List.setIfInBounds_toArray, List.set_cons_zero, List.set_cons_succ]
            refine wpAnyH_take (i := 12) (oi := ?oi12e) (v := ?v12e) ?hi12e ?hs12e ?hf12e ?hr12e ?hQ12e ?hy12e ?hS12e ?h12e
            case hi12e => exact (by simp only [List.getElem?_toArray, List.getElem?_cons_succ, List.getElem?_cons_zero]; rfl)
            case hs12e => kernel_rfl
            case hf12e => kernel_rfl
            case hr12e => kernel_rfl
            case hQ12e => exact fun _ _ _ h => h
            case hy12e =>
              refine Or.inl ⟨rfl, ?_⟩
              intro W hSw
              obtain ⟨y0, y1⟩ := hSw
              go_simp
              try with_reducible rfl
            case hS12e => assumption
            try simp only [Act.put, List.setIfInBounds_toArray, List.set_cons_zero, List.set_cons_succ]
            refine wpAnyH_take (i := 13) (oi := ?oi13e) (v := ?v13e) ?hi13e ?hs13e ?hf13e ?hr13e ?hQ13e ?hy13e ?hS13e ?h13e
            case hi13e => exact (by simp only [List.getElem?_toArray, List.getElem?_cons_succ, List.getElem?_cons_zero]; rfl)
            case hs13e => kernel_rfl
            case hf13e => kernel_rfl
            case hr13e => kernel_rfl
            case hQ13e => exact fun _ _ _ h => h
            case hy13e =>
              refine Or.inl ⟨rfl, ?_⟩
              intro W hSw
              obtain ⟨y0, y1⟩ := hSw
              go_simp
              try with_reducible rfl
            case hS13e => assumption
            try simp only [Act.put, List.setIfInBounds_toArray, List.set_cons_zero, List.set_cons_succ]
            refine wpAnyH_ready (rs := [11]) (by kernel_rfl) (by simp) ?_
            refine AllReadyH.cons (o := _) rfl (fun K hK => ?_) AllReadyH.nil
            go_simp
            refine ((HAL.out We1 HBe1.out)).mono ?_
            rintro r We2 ⟨rfl, hbq⟩
            have HBe2 := Lib.hid (HBe1.out.trans (hbq.mono HBe1.out.size))
            clear hbq
            refine hK.out _ _ (HCE.out _ (HBe2.out)) (fun hHeld => ?_)
            clear hK K
            try simp only [Act.put, List.setIfInBounds_toArray, List.set_cons_zero, List.set_cons_succ]
            refine wpAnyH_take (i := 14) (oi := ?oi14e) (v := (.bool false)) ?hi14e ?hs14e ?hf14e ?hr14e ?hQ14e ?hy14e ?hS14e ?h14e
            case hi14e => exact (by simp only [List.getElem?_toArray, List.getElem?_cons_succ, List.getElem?_cons_zero]; rfl)
            case hs14e => kernel_rfl
            case hf14e => kernel_rfl
            case hr14e => kernel_rfl
            case hQ14e => exact fun _ _ _ h => h
            case hy14e =>
              refine Or.inl ⟨rfl, ?_⟩
              intro W hSw
              obtain ⟨y0, y1⟩ := hSw
              go_simp
              try simp
            case hS14e => assumption
            try simp only [Act.put, List.setIfInBounds_toArray, List.set_cons_zero, List.set_cons_succ]
            refine wpAnyH_take (i := 15) (oi := ?oi15e) (v := ?v15e) ?hi15e ?hs15e ?hf15e ?hr15e ?hQ15e ?hy15e ?hS15e ?h15e
            case hi15e => exact (by simp only [List.getElem?_toArray, List.getElem?_cons_succ, List.getElem?_cons_zero]; rfl)
            case hs15e => kernel_rfl
            case hf15e => kernel_rfl
            case hr15e => kernel_rfl
            case hQ15e => exact fun _ _ _ h => h
            case hy15e =>
              refine Or.inl ⟨rfl, ?_⟩
              intro W hSw
              obtain ⟨y0, y1⟩ := hSw
              go_simp
              try with_reducible rfl
            case hS15e => assumption
            try simp only [Act.put, List.setIfInBounds_toArray, List.set_cons_zero, List.set_cons_succ]
            refine wpAnyH_done (by kernel_rfl) ?_ _
            have HFN := Lib.hid (HR.out.below HBe2.out)
            go_wp2_with fail
            go_roundw
            case rel => exact ⟨k + 1, fl2, as2, by omega, by go_num, HFN.out⟩
            case measure => simp [intOf] <;> omega
        by_cases c3 : d = 3
        · subst c3
          have HC := Lib.hid (tick_any (H := H) v1 HR1.out.1)
          go_wp2_with fail
          refine HC.out.mono ?_
          rintro r' w4 ⟨rfl, hf4, hk4⟩
          have hd4 := hk4.heap HR1.out.2.1 HR1.out.2.2.2.2.2
          have z0 := cell_of_row w4 D 0 _ _ _ hd4
          have z1 := cell_of_row w4 D 1 _ _ _ hd4
          have z2 := cell_of_row w4 D 2 _ _ _ hd4
          have z3 := cell_of_row w4 D 3 _ _ _ hd4
          have zf : ∀ i, w4.frozen? ⟨D, i, none⟩ = false := fun i => frozen_of_row w4 D i _ _ hd4
          simp at z0 z1 z2 z3
          have HC2 := Lib.hid (rtick_any o r fl aq w4)
          have HB4 := Lib.hid (kp_below HBW.out (Nat.le_refl _) hk4 HR1.out.2.2.2.1)
          have HF4 := Lib.hid hf4
          have HD4 := Lib.hid hd4
          clear hf4 hk4 hd4 HC
          go_wp2_with fail
          refine HC2.out.mono ?_
          rintro r' w5 ⟨rfl, hb5⟩
          have hd6 := (hb5.block _ (lt_of_block' HD4.out)).trans HD4.out
          clear z0 z1 z2 z3 zf
          have z0 := cell_of_row w5 D 0 _ _ _ hd6
          have z1 := cell_of_row w5 D 1 _ _ _ hd6
          have z2 := cell_of_row w5 D 2 _ _ _ hd6
          have z3 := cell_of_row w5 D 3 _ _ _ hd6
          have zf : ∀ i, w5.frozen? ⟨D, i, none⟩ = false := fun i => frozen_of_row w5 D i _ _ hd6
          simp at z0 z1 z2 z3
          obtain ⟨wz, hwz⟩ : ∃ wz, wz = put4 w5 D o r fl 0 := ⟨_, rfl⟩
          have HR : Hid (RS w H D o r fl 0 wz) := by
            rw [hwz]
            exact RS.put HF4.out (kp_fin hb5) hd6 (HB4.out.trans (hb5.mono HB4.out.size)) HR1.out.2.2.2.1 HR1.out.2.2.2.2.1 HR1.out.2.2.2.2.2
          try unfold put4 at hwz
          have HZ := Lib.hid hwz
          obtain ⟨fl2, hfl2⟩ : ∃ fl2, fl2 = fl := ⟨_, rfl⟩
          obtain ⟨as2, has2⟩ : ∃ as2, as2 = (0 : Int) := ⟨_, rfl⟩
          rw [← hfl2, ← has2] at HR
          clear hwz hb5 hd6 HC2
          go_upto_region 31 with (fail)
          rw [← HZ.out]
          have HCE : Hid (∀ W, Below wz.heap.size wz W → (fun W : World => W.cell? ⟨D, 2, none⟩ = some (.int .i64 fl2) ∧ W.cell? ⟨D, 3, none⟩ = some (.int .i64 as2)) W) := fun W hW => by
            have e := HR.out.dcell hW
            exact ⟨e.2.2.1, e.2.2.2⟩
          have HFL : Hid (∀ W, Below wz.heap.size wz W → Calls Try.prog 16 #[.pointer (some ⟨H, 0, none⟩)] W fun r' w' => r' = .returned (.int .i64 fl2) ∧ Below W.heap.size W w') := fun W hW =>
            (flying_any H fl2 W (HR.out.1.below hW).cell.1).mono fun r' w' h => ⟨h.1, by rw [← h.2]; exact Below.refl _ _⟩
          have HAL : Hid (∀ W, Below wz.heap.size wz W → Calls Try.prog 17 #[.pointer (some ⟨H, 2, none⟩)] W fun r' w' => r' = .returned (.int .i64 as2) ∧ Below W.heap.size W w') := fun W hW =>
            (asked_any H as2 W (HR.out.1.below hW).cell.2.2.1).mono fun r' w' h => ⟨h.1, by rw [← h.2]; exact Below.refl _ _⟩
          have HBS : Hid (Below wz.heap.size wz wz) := Below.refl _ _
          go_upto_region 31 with (fail)
          have HDf : Hid (Below wz.heap.size wz wz.drew) := HBS.out.drew
          refine wp_region_held_drew (S := fun W : World => W.cell? ⟨D, 2, none⟩ = some (.int .i64 fl2) ∧ W.cell? ⟨D, 3, none⟩ = some (.int .i64 as2)) (by kernel_rfl) (HCE.out _ (HDf.out)) (fun hHeld => ?_)
          obtain ⟨Wf0, hW0⟩ : ∃ W0, W0 = wz.drew := ⟨_, rfl⟩
          rw [← hW0] at hHeld HDf ⊢
          clear hW0
          refine wpAnyH_take (i := 0) (oi := ?oi0f) (v := ?v0f) ?hi0f ?hs0f ?hf0f ?hr0f ?hQ0f ?hy0f ?hS0f ?h0f
          case hi0f => exact (by simp only [List.getElem?_toArray, List.getElem?_cons_zero]; rfl)
          case hs0f => kernel_rfl
          case hf0f => kernel_rfl
          case hr0f => kernel_rfl
          case hQ0f => exact fun _ _ _ h => h
          case hy0f =>
            refine Or.inl ⟨rfl, ?_⟩
            intro W hSw
            obtain ⟨y0, y1⟩ := hSw
            go_simp
            try with_reducible rfl
          case hS0f => assumption
          try simp only [Act.put, List.setIfInBounds_toArray, List.set_cons_zero, List.set_cons_succ]
          refine wpAnyH_take (i := 1) (oi := ?oi1f) (v := ?v1f) ?hi1f ?hs1f ?hf1f ?hr1f ?hQ1f ?hy1f ?hS1f ?h1f
          case hi1f => exact (by simp only [List.getElem?_toArray, List.getElem?_cons_succ, List.getElem?_cons_zero]; rfl)
          case hs1f => kernel_rfl
          case hf1f => kernel_rfl
          case hr1f => kernel_rfl
          case hQ1f => exact fun _ _ _ h => h
          case hy1f =>
            refine Or.inl ⟨rfl, ?_⟩
            intro W hSw
            obtain ⟨y0, y1⟩ := hSw
            go_simp
            try with_reducible rfl
          case hS1f => assumption
          try simp only [Act.put, List.setIfInBounds_toArray, List.set_cons_zero, List.set_cons_succ]
          refine wpAnyH_take (i := 2) (oi := ?oi2f) (v := ?v2f) ?hi2f ?hs2f ?hf2f ?hr2f ?hQ2f ?hy2f ?hS2f ?h2f
          case hi2f => exact (by simp only [List.getElem?_toArray, List.getElem?_cons_succ, List.getElem?_cons_zero]; rfl)
          case hs2f => kernel_rfl
          case hf2f => kernel_rfl
          case hr2f => kernel_rfl
          case hQ2f => exact fun _ _ _ h => h
          case hy2f =>
            refine Or.inl ⟨rfl, ?_⟩
            intro W hSw
            obtain ⟨y0, y1⟩ := hSw
            go_simp
            try with_reducible rfl
          case hS2f => assumption
          try simp only [Act.put, List.setIfInBounds_toArray, List.set_cons_zero, List.set_cons_succ]
          refine wpAnyH_take (i := 4) (oi := ?oi4f) (v := ?v4f) ?hi4f ?hs4f ?hf4f ?hr4f ?hQ4f ?hy4f ?hS4f ?h4f
          case hi4f => exact (by simp only [List.getElem?_toArray, List.getElem?_cons_succ, List.getElem?_cons_zero]; rfl)
          case hs4f => kernel_rfl
          case hf4f => kernel_rfl
          case hr4f => kernel_rfl
          case hQ4f => exact fun _ _ _ h => h
          case hy4f =>
            refine Or.inl ⟨rfl, ?_⟩
            intro W hSw
            obtain ⟨y0, y1⟩ := hSw
            go_simp
            try with_reducible rfl
          case hS4f => assumption
          try simp only [Act.put, List.setIfInBounds_toArray, List.set_cons_zero, List.set_cons_succ]
          refine wpAnyH_take (i := 5) (oi := ?oi5f) (v := ?v5f) ?hi5f ?hs5f ?hf5f ?hr5f ?hQ5f ?hy5f ?hS5f ?h5f
          case hi5f => exact (by simp only [List.getElem?_toArray, List.getElem?_cons_succ, List.getElem?_cons_zero]; rfl)
          case hs5f => kernel_rfl
          case hf5f => kernel_rfl
          case hr5f => kernel_rfl
          case hQ5f => exact fun _ _ _ h => h
          case hy5f =>
            refine Or.inl ⟨rfl, ?_⟩
            intro W hSw
            obtain ⟨y0, y1⟩ := hSw
            go_simp
            try with_reducible rfl
          case hS5f => assumption
          try simp only [Act.put, List.setIfInBounds_toArray, List.set_cons_zero, List.set_cons_succ]
          refine wpAnyH_ready (rs := [3]) (by kernel_rfl) (by simp) ?_
          refine AllReadyH.cons (o := _) rfl (fun K hK => ?_) AllReadyH.nil
          go_simp
          refine ((HFL.out Wf0 HDf.out)).mono ?_
          rintro r Wf1 ⟨rfl, hbq⟩
          have HBf1 := Lib.hid (HDf.out.trans (hbq.mono HDf.out.size))
          clear hbq
          refine hK.out _ _ (HCE.out _ (HBf1.out)) (fun hHeld => ?_)
          clear hK K
          try simp only [Act.put, List.setIfInBounds_toArray, List.set_cons_zero, List.set_cons_succ]
          refine wpAnyH_take (i := 6) (oi := ?oi6f) (v := (.bool false)) ?hi6f ?hs6f ?hf6f ?hr6f ?hQ6f ?hy6f ?hS6f ?h6f
          case hi6f => exact (by simp only [List.getElem?_toArray, List.getElem?_cons_succ, List.getElem?_cons_zero]; rfl)
          case hs6f => kernel_rfl
          case hf6f => kernel_rfl
          case hr6f => kernel_rfl
          case hQ6f => exact fun _ _ _ h => h
          case hy6f =>
            refine Or.inl ⟨rfl, ?_⟩
            intro W hSw
            obtain ⟨y0, y1⟩ := hSw
            go_simp
            try simp
          case hS6f => assumption
          try simp only [Act.put, List.setIfInBounds_toArray, List.set_cons_zero, List.set_cons_succ]
          refine wpAnyH_take (i := 7) (oi := ?oi7f) (v := ?v7f) ?hi7f ?hs7f ?hf7f ?hr7f ?hQ7f ?hy7f ?hS7f ?h7f
          case hi7f => exact (by simp only [List.getElem?_toArray, List.getElem?_cons_succ, List.getElem?_cons_zero]; rfl)
          case hs7f => kernel_rfl
          case hf7f => kernel_rfl
          case hr7f => kernel_rfl
          case hQ7f => exact fun _ _ _ h => h
          case hy7f =>
            refine Or.inl ⟨rfl, ?_⟩
            intro W hSw
            obtain ⟨y0, y1⟩ := hSw
            go_simp
            try with_reducible rfl
          case hS7f => assumption
          try simp only [Act.put, List.setIfInBounds_toArray, List.set_cons_zero, List.set_cons_succ]
          refine wpAnyH_take (i := 8) (oi := ?oi8f) (v := ?v8f) ?hi8f ?hs8f ?hf8f ?hr8f ?hQ8f ?hy8f ?hS8f ?h8f
          case hi8f => exact (by simp only [List.getElem?_toArray, List.getElem?_cons_succ, List.getElem?_cons_zero]; rfl)
          case hs8f => kernel_rfl
          case hf8f => kernel_rfl
          case hr8f => kernel_rfl
          case hQ8f => exact fun _ _ _ h => h
          case hy8f =>
            refine Or.inl ⟨rfl, ?_⟩
            intro W hSw
            obtain ⟨y0, y1⟩ := hSw
            go_simp
            try with_reducible rfl
          case hS8f => assumption
          try simp only [Act.put, List.setIfInBounds_toArray, List.set_cons_zero, List.set_cons_succ]
          refine wpAnyH_take (i := 9) (oi := ?oi9f) (v := ?v9f) ?hi9f ?hs9f ?hf9f ?hr9f ?hQ9f ?hy9f ?hS9f ?h9f
          case hi9f => exact (by simp only [List.getElem?_toArray, List.getElem?_cons_succ, List.getElem?_cons_zero]; rfl)
          case hs9f => kernel_rfl
          case hf9f => kernel_rfl
          case hr9f => kernel_rfl
          case hQ9f => exact fun _ _ _ h => h
          case hy9f =>
            refine Or.inl ⟨rfl, ?_⟩
            intro W hSw
            obtain ⟨y0, y1⟩ := hSw
            go_simp
            try with_reducible rfl
          case hS9f => assumption
          try simp only [Act.put, List.setIfInBounds_toArray, List.set_cons_zero, List.set_cons_succ]
          refine wpAnyH_take (i := 10) (oi := ?oi10f) (v := ?v10f) ?hi10f ?hs10f ?hf10f ?hr10f ?hQ10f ?hy10f ?hS10f ?h10f
          case hi10f => exact (by simp only [List.getElem?_toArray, List.getElem?_cons_succ, List.getElem?_cons_zero]; rfl)
          case hs10f => kernel_rfl
          case hf10f => kernel_rfl
          case hr10f => kernel_rfl
          case hQ10f => exact fun _ _ _ h => h
          case hy10f =>
            refine Or.inl ⟨rfl, ?_⟩
            intro W hSw
            obtain ⟨y0, y1⟩ := hSw
            go_simp
            try with_reducible rfl
          case hS10f => assumption
          try simp only [Act.put, List.setIfInBounds_toArray, List.set_cons_zero, List.set_cons_succ]
          refine wpAnyH_take (i := 12) (oi := ?oi12f) (v := ?v12f) ?hi12f ?hs12f ?hf12f ?hr12f ?hQ12f ?hy12f ?hS12f ?h12f
          case hi12f => exact (by simp only [List.getElem?_toArray, List.getElem?_cons_succ, List.getElem?_cons_zero]; rfl)
          case hs12f => kernel_rfl
          case hf12f => kernel_rfl
          case hr12f => kernel_rfl
          case hQ12f => exact fun _ _ _ h => h
          case hy12f =>
            refine Or.inl ⟨rfl, ?_⟩
            intro W hSw
            obtain ⟨y0, y1⟩ := hSw
            go_simp
            try with_reducible rfl
          case hS12f => assumption
          try simp only [Act.put, List.setIfInBounds_toArray, List.set_cons_zero, List.set_cons_succ]
          refine wpAnyH_take (i := 13) (oi := ?oi13f) (v := ?v13f) ?hi13f ?hs13f ?hf13f ?hr13f ?hQ13f ?hy13f ?hS13f ?h13f
          case hi13f => exact (by simp only [List.getElem?_toArray, List.getElem?_cons_succ, List.getElem?_cons_zero]; rfl)
          case hs13f => kernel_rfl
          case hf13f => kernel_rfl
          case hr13f => kernel_rfl
          case hQ13f => exact fun _ _ _ h => h
          case hy13f =>
            refine Or.inl ⟨rfl, ?_⟩
            intro W hSw
            obtain ⟨y0, y1⟩ := hSw
            go_simp
            try with_reducible rfl
          case hS13f => assumption
          try simp only [Act.put, List.setIfInBounds_toArray, List.set_cons_zero, List.set_cons_succ]
          refine wpAnyH_ready (rs := [11]) (by kernel_rfl) (by simp) ?_
          refine AllReadyH.cons (o := _) rfl (fun K hK => ?_) AllReadyH.nil
          go_simp
          refine ((HAL.out Wf1 HBf1.out)).mono ?_
          rintro r Wf2 ⟨rfl, hbq⟩
          have HBf2 := Lib.hid (HBf1.out.trans (hbq.mono HBf1.out.size))
          clear hbq
          refine hK.out _ _ (HCE.out _ (HBf2.out)) (fun hHeld => ?_)
          clear hK K
          try simp only [Act.put, List.setIfInBounds_toArray, List.set_cons_zero, List.set_cons_succ]
          refine wpAnyH_take (i := 14) (oi := ?oi14f) (v := (.bool false)) ?hi14f ?hs14f ?hf14f ?hr14f ?hQ14f ?hy14f ?hS14f ?h14f
          case hi14f => exact (by simp only [List.getElem?_toArray, List.getElem?_cons_succ, List.getElem?_cons_zero]; rfl)
          case hs14f => kernel_rfl
          case hf14f => kernel_rfl
          case hr14f => kernel_rfl
          case hQ14f => exact fun _ _ _ h => h
          case hy14f =>
            refine Or.inl ⟨rfl, ?_⟩
            intro W hSw
            obtain ⟨y0, y1⟩ := hSw
            go_simp
            try simp
          case hS14f => assumption
          try simp only [Act.put, List.setIfInBounds_toArray, List.set_cons_zero, List.set_cons_succ]
          refine wpAnyH_take (i := 15) (oi := ?oi15f) (v := ?v15f) ?hi15f ?hs15f ?hf15f ?hr15f ?hQ15f ?hy15f ?hS15f ?h15f
          case hi15f => exact (by simp only [List.getElem?_toArray, List.getElem?_cons_succ, List.getElem?_cons_zero]; rfl)
          case hs15f => kernel_rfl
          case hf15f => kernel_rfl
          case hr15f => kernel_rfl
          case hQ15f => exact fun _ _ _ h => h
          case hy15f =>
            refine Or.inl ⟨rfl, ?_⟩
            intro W hSw
            obtain ⟨y0, y1⟩ := hSw
            go_simp
            try with_reducible rfl
          case hS15f => assumption
          try simp only [Act.put, List.setIfInBounds_toArray, List.set_cons_zero, List.set_cons_succ]
          refine wpAnyH_done (by kernel_rfl) ?_ _
          have HFN := Lib.hid (HR.out.below HBf2.out)
          go_wp2_with fail
          go_roundw
          case rel => exact ⟨k + 1, fl2, as2, by omega, by go_num, HFN.out⟩
          case measure => simp [intOf] <;> omega
        · skip
          obtain ⟨wz, hwz⟩ : ∃ wz, wz = v1 := ⟨_, rfl⟩
          obtain ⟨fl2, hfl2⟩ : ∃ fl2, fl2 = fl := ⟨_, rfl⟩
          obtain ⟨as2, has2⟩ : ∃ as2, as2 = aq := ⟨_, rfl⟩
          have HR : Hid (RS w H D o r fl2 as2 wz) := by
            rw [hwz, hfl2, has2]
            exact HR1.out
          try unfold put4 at hwz
          have HZ := Lib.hid hwz
          clear hwz
          go_upto_region 31 with (fail)
          rw [← HZ.out]
          have HCE : Hid (∀ W, Below wz.heap.size wz W → (fun W : World => W.cell? ⟨D, 2, none⟩ = some (.int .i64 fl2) ∧ W.cell? ⟨D, 3, none⟩ = some (.int .i64 as2)) W) := fun W hW => by
            have e := HR.out.dcell hW
            exact ⟨e.2.2.1, e.2.2.2⟩
          have HFL : Hid (∀ W, Below wz.heap.size wz W → Calls Try.prog 16 #[.pointer (some ⟨H, 0, none⟩)] W fun r' w' => r' = .returned (.int .i64 fl2) ∧ Below W.heap.size W w') := fun W hW =>
            (flying_any H fl2 W (HR.out.1.below hW).cell.1).mono fun r' w' h => ⟨h.1, by rw [← h.2]; exact Below.refl _ _⟩
          have HAL : Hid (∀ W, Below wz.heap.size wz W → Calls Try.prog 17 #[.pointer (some ⟨H, 2, none⟩)] W fun r' w' => r' = .returned (.int .i64 as2) ∧ Below W.heap.size W w') := fun W hW =>
            (asked_any H as2 W (HR.out.1.below hW).cell.2.2.1).mono fun r' w' h => ⟨h.1, by rw [← h.2]; exact Below.refl _ _⟩
          have HBS : Hid (Below wz.heap.size wz wz) := Below.refl _ _
          go_upto_region 31 with (fail)
          have HDh : Hid (Below wz.heap.size wz wz.drew) := HBS.out.drew
          refine wp_region_held_drew (S := fun W : World => W.cell? ⟨D, 2, none⟩ = some (.int .i64 fl2) ∧ W.cell? ⟨D, 3, none⟩ = some (.int .i64 as2)) (by kernel_rfl) (HCE.out _ (HDh.out)) (fun hHeld => ?_)
          obtain ⟨Wh0, hW0⟩ : ∃ W0, W0 = wz.drew := ⟨_, rfl⟩
          rw [← hW0] at hHeld HDh ⊢
          clear hW0
          refine wpAnyH_take (i := 0) (oi := ?oi0h) (v := ?v0h) ?hi0h ?hs0h ?hf0h ?hr0h ?hQ0h ?hy0h ?hS0h ?h0h
          case hi0h => exact (by simp only [List.getElem?_toArray, List.getElem?_cons_zero]; rfl)
          case hs0h => kernel_rfl
          case hf0h => kernel_rfl
          case hr0h => kernel_rfl
          case hQ0h => exact fun _ _ _ h => h
          case hy0h =>
            refine Or.inl ⟨rfl, ?_⟩
            intro W hSw
            obtain ⟨y0, y1⟩ := hSw
            go_simp
            try with_reducible rfl
          case hS0h => assumption
          try simp only [Act.put, List.setIfInBounds_toArray, List.set_cons_zero, List.set_cons_succ]
          refine wpAnyH_take (i := 1) (oi := ?oi1h) (v := ?v1h) ?hi1h ?hs1h ?hf1h ?hr1h ?hQ1h ?hy1h ?hS1h ?h1h
          case hi1h => exact (by simp only [List.getElem?_toArray, List.getElem?_cons_succ, List.getElem?_cons_zero]; rfl)
          case hs1h => kernel_rfl
          case hf1h => kernel_rfl
          case hr1h => kernel_rfl
          case hQ1h => exact fun _ _ _ h => h
          case hy1h =>
            refine Or.inl ⟨rfl, ?_⟩
            intro W hSw
            obtain ⟨y0, y1⟩ := hSw
            go_simp
            try with_reducible rfl
          case hS1h => assumption
          try simp only [Act.put, List.setIfInBounds_toArray, List.set_cons_zero, List.set_cons_succ]
          refine wpAnyH_take (i := 2) (oi := ?oi2h) (v := ?v2h) ?hi2h ?hs2h ?hf2h ?hr2h ?hQ2h ?hy2h ?hS2h ?h2h
          case hi2h => exact (by simp only [List.getElem?_toArray, List.getElem?_cons_succ, List.getElem?_cons_zero]; rfl)
          case hs2h => kernel_rfl
          case hf2h => kernel_rfl
          case hr2h => kernel_rfl
          case hQ2h => exact fun _ _ _ h => h
          case hy2h =>
            refine Or.inl ⟨rfl, ?_⟩
            intro W hSw
            obtain ⟨y0, y1⟩ := hSw
            go_simp
            try with_reducible rfl
          case hS2h => assumption
          try simp only [Act.put, List.setIfInBounds_toArray, List.set_cons_zero, List.set_cons_succ]
          refine wpAnyH_take (i := 4) (oi := ?oi4h) (v := ?v4h) ?hi4h ?hs4h ?hf4h ?hr4h ?hQ4h ?hy4h ?hS4h ?h4h
          case hi4h => exact (by simp only [List.getElem?_toArray, List.getElem?_cons_succ, List.getElem?_cons_zero]; rfl)
          case hs4h => kernel_rfl
          case hf4h => kernel_rfl
          case hr4h => kernel_rfl
          case hQ4h => exact fun _ _ _ h => h
          case hy4h =>
            refine Or.inl ⟨rfl, ?_⟩
            intro W hSw
            obtain ⟨y0, y1⟩ := hSw
            go_simp
            try with_reducible rfl
          case hS4h => assumption
          try simp only [Act.put, List.setIfInBounds_toArray, List.set_cons_zero, List.set_cons_succ]
          refine wpAnyH_take (i := 5) (oi := ?oi5h) (v := ?v5h) ?hi5h ?hs5h ?hf5h ?hr5h ?hQ5h ?hy5h ?hS5h ?h5h
          case hi5h => exact (by simp only [List.getElem?_toArray, List.getElem?_cons_succ, List.getElem?_cons_zero]; rfl)
          case hs5h => kernel_rfl
          case hf5h => kernel_rfl
          case hr5h => kernel_rfl
          case hQ5h => exact fun _ _ _ h => h
          case hy5h =>
            refine Or.inl ⟨rfl, ?_⟩
            intro W hSw
            obtain ⟨y0, y1⟩ := hSw
            go_simp
            try with_reducible rfl
          case hS5h => assumption
          try simp only [Act.put, List.setIfInBounds_toArray, List.set_cons_zero, List.set_cons_succ]
          refine wpAnyH_ready (rs := [3]) (by kernel_rfl) (by simp) ?_
          refine AllReadyH.cons (o := _) rfl (fun K hK => ?_) AllReadyH.nil
          go_simp
          refine ((HFL.out Wh0 HDh.out)).mono ?_
          rintro r Wh1 ⟨rfl, hbq⟩
          have HBh1 := Lib.hid (HDh.out.trans (hbq.mono HDh.out.size))
          clear hbq
          refine hK.out _ _ (HCE.out _ (HBh1.out)) (fun hHeld => ?_)
          clear hK K
          try simp only [Act.put, List.setIfInBounds_toArray, List.set_cons_zero, List.set_cons_succ]
          refine wpAnyH_take (i := 6) (oi := ?oi6h) (v := (.bool false)) ?hi6h ?hs6h ?hf6h ?hr6h ?hQ6h ?hy6h ?hS6h ?h6h
          case hi6h => exact (by simp only [List.getElem?_toArray, List.getElem?_cons_succ, List.getElem?_cons_zero]; rfl)
          case hs6h => kernel_rfl
          case hf6h => kernel_rfl
          case hr6h => kernel_rfl
          case hQ6h => exact fun _ _ _ h => h
          case hy6h =>
            refine Or.inl ⟨rfl, ?_⟩
            intro W hSw
            obtain ⟨y0, y1⟩ := hSw
            go_simp
            try simp
          case hS6h => assumption
          try simp only [Act.put, List.setIfInBounds_toArray, List.set_cons_zero, List.set_cons_succ]
          refine wpAnyH_take (i := 7) (oi := ?oi7h) (v := ?v7h) ?hi7h ?hs7h ?hf7h ?hr7h ?hQ7h ?hy7h ?hS7h ?h7h
          case hi7h => exact (by simp only [List.getElem?_toArray, List.getElem?_cons_succ, List.getElem?_cons_zero]; rfl)
          case hs7h => kernel_rfl
          case hf7h => kernel_rfl
          case hr7h => kernel_rfl
          case hQ7h => exact fun _ _ _ h => h
          case hy7h =>
            refine Or.inl ⟨rfl, ?_⟩
            intro W hSw
            obtain ⟨y0, y1⟩ := hSw
            go_simp
            try with_reducible rfl
          case hS7h => assumption
          try simp only [Act.put, List.setIfInBounds_toArray, List.set_cons_zero, List.set_cons_succ]
          refine wpAnyH_take (i := 8) (oi := ?oi8h) (v := ?v8h) ?hi8h ?hs8h ?hf8h ?hr8h ?hQ8h ?hy8h ?hS8h ?h8h
          case hi8h => exact (by simp only [List.getElem?_toArray, List.getElem?_cons_succ, List.getElem?_cons_zero]; rfl)
          case hs8h => kernel_rfl
          case hf8h => kernel_rfl
          case hr8h => kernel_rfl
          case hQ8h => exact fun _ _ _ h => h
          case hy8h =>
            refine Or.inl ⟨rfl, ?_⟩
            intro W hSw
            obtain ⟨y0, y1⟩ := hSw
            go_simp
            try with_reducible rfl
          case hS8h => assumption
          try simp only [Act.put, List.setIfInBounds_toArray, List.set_cons_zero, List.set_cons_succ]
          refine wpAnyH_take (i := 9) (oi := ?oi9h) (v := ?v9h) ?hi9h ?hs9h ?hf9h ?hr9h ?hQ9h ?hy9h ?hS9h ?h9h
          case hi9h => exact (by simp only [List.getElem?_toArray, List.getElem?_cons_succ, List.getElem?_cons_zero]; rfl)
          case hs9h => kernel_rfl
          case hf9h => kernel_rfl
          case hr9h => kernel_rfl
          case hQ9h => exact fun _ _ _ h => h
          case hy9h =>
            refine Or.inl ⟨rfl, ?_⟩
            intro W hSw
            obtain ⟨y0, y1⟩ := hSw
            go_simp
            try with_reducible rfl
          case hS9h => assumption
          try simp only [Act.put, List.setIfInBounds_toArray, List.set_cons_zero, List.set_cons_succ]
          refine wpAnyH_take (i := 10) (oi := ?oi10h) (v := ?v10h) ?hi10h ?hs10h ?hf10h ?hr10h ?hQ10h ?hy10h ?hS10h ?h10h
          case hi10h => exact (by simp only [List.getElem?_toArray, List.getElem?_cons_succ, List.getElem?_cons_zero]; rfl)
          case hs10h => kernel_rfl
          case hf10h => kernel_rfl
          case hr10h => kernel_rfl
          case hQ10h => exact fun _ _ _ h => h
          case hy10h =>
            refine Or.inl ⟨rfl, ?_⟩
            intro W hSw
            obtain ⟨y0, y1⟩ := hSw
            go_simp
            try with_reducible rfl
          case hS10h => assumption
          try simp only [Act.put, List.setIfInBounds_toArray, List.set_cons_zero, List.set_cons_succ]
          refine wpAnyH_take (i := 12) (oi := ?oi12h) (v := ?v12h) ?hi12h ?hs12h ?hf12h ?hr12h ?hQ12h ?hy12h ?hS12h ?h12h
          case hi12h => exact (by simp only [List.getElem?_toArray, List.getElem?_cons_succ, List.getElem?_cons_zero]; rfl)
          case hs12h => kernel_rfl
          case hf12h => kernel_rfl
          case hr12h => kernel_rfl
          case hQ12h => exact fun _ _ _ h => h
          case hy12h =>
            refine Or.inl ⟨rfl, ?_⟩
            intro W hSw
            obtain ⟨y0, y1⟩ := hSw
            go_simp
            try with_reducible rfl
          case hS12h => assumption
          try simp only [Act.put, List.setIfInBounds_toArray, List.set_cons_zero, List.set_cons_succ]
          refine wpAnyH_take (i := 13) (oi := ?oi13h) (v := ?v13h) ?hi13h ?hs13h ?hf13h ?hr13h ?hQ13h ?hy13h ?hS13h ?h13h
          case hi13h => exact (by simp only [List.getElem?_toArray, List.getElem?_cons_succ, List.getElem?_cons_zero]; rfl)
          case hs13h => kernel_rfl
          case hf13h => kernel_rfl
          case hr13h => kernel_rfl
          case hQ13h => exact fun _ _ _ h => h
          case hy13h =>
            refine Or.inl ⟨rfl, ?_⟩
            intro W hSw
            obtain ⟨y0, y1⟩ := hSw
            go_simp
            try with_reducible rfl
          case hS13h => assumption
          try simp only [Act.put, List.setIfInBounds_toArray, List.set_cons_zero, List.set_cons_succ]
          refine wpAnyH_ready (rs := [11]) (by kernel_rfl) (by simp) ?_
          refine AllReadyH.cons (o := _) rfl (fun K hK => ?_) AllReadyH.nil
          go_simp
          refine ((HAL.out Wh1 HBh1.out)).mono ?_
          rintro r Wh2 ⟨rfl, hbq⟩
          have HBh2 := Lib.hid (HBh1.out.trans (hbq.mono HBh1.out.size))
          clear hbq
          refine hK.out _ _ (HCE.out _ (HBh2.out)) (fun hHeld => ?_)
          clear hK K
          try simp only [Act.put, List.setIfInBounds_toArray, List.set_cons_zero, List.set_cons_succ]
          refine wpAnyH_take (i := 14) (oi := ?oi14h) (v := (.bool false)) ?hi14h ?hs14h ?hf14h ?hr14h ?hQ14h ?hy14h ?hS14h ?h14h
          case hi14h => exact (by simp only [List.getElem?_toArray, List.getElem?_cons_succ, List.getElem?_cons_zero]; rfl)
          case hs14h => kernel_rfl
          case hf14h => kernel_rfl
          case hr14h => kernel_rfl
          case hQ14h => exact fun _ _ _ h => h
          case hy14h =>
            refine Or.inl ⟨rfl, ?_⟩
            intro W hSw
            obtain ⟨y0, y1⟩ := hSw
            go_simp
            try simp
          case hS14h => assumption
          try simp only [Act.put, List.setIfInBounds_toArray, List.set_cons_zero, List.set_cons_succ]
          refine wpAnyH_take (i := 15) (oi := ?oi15h) (v := ?v15h) ?hi15h ?hs15h ?hf15h ?hr15h ?hQ15h ?hy15h ?hS15h ?h15h
          case hi15h => exact (by simp only [List.getElem?_toArray, List.getElem?_cons_succ, List.getElem?_cons_zero]; rfl)
          case hs15h => kernel_rfl
          case hf15h => kernel_rfl
          case hr15h => kernel_rfl
          case hQ15h => exact fun _ _ _ h => h
          case hy15h =>
            refine Or.inl ⟨rfl, ?_⟩
            intro W hSw
            obtain ⟨y0, y1⟩ := hSw
            go_simp
            try with_reducible rfl
          case hS15h => assumption
          try simp only [Act.put, List.setIfInBounds_toArray, List.set_cons_zero, List.set_cons_succ]
          refine wpAnyH_done (by kernel_rfl) ?_ _
          have HFN := Lib.hid (HR.out.below HBh2.out)
          go_wp2_with fail
          go_roundw
          case rel => exact ⟨k + 1, fl2, as2, by omega, by go_num, HFN.out⟩
          case measure => simp [intOf] <;> omega
      · have hkn : k = n0 := by omega
        subst hkn
        have HBF := Lib.hid HM.out.2.2.1
        go_wp2_with fail
        refine (HAW.out wr).mono ?_
        rintro r' w8 ⟨rfl, hb8⟩
        have HB8 := Lib.hid (HBF.out.trans (hb8.mono HBF.out.size))
        clear hb8
        go_wp2_with fail
        go_ret
        exact ⟨rfl, HB8.out⟩
end Go.Proofs.Ytbahifbhjdnacaa
