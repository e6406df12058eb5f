/- Outbox: OutboxBound's walk. -/
import Derived.Test.YtbahifbhjdnacaaOC
namespace Go.Proofs.Ytbahifbhjdnacaa
open Go.RowKit
set_option maxRecDepth 20000
set_option linter.unusedVariables false
set_option linter.unusedSimpArgs false

/-- How things stand: the flow in block H; fl was sent, aq was asked. -/
def BS (w : World) (H : Nat) (o r fl aq : Int) (W : World) : Prop := Fw W H fl o aq r ∧ Below w.heap.size w W ∧ w.heap.size ≤ H
theorem BS.below {w W W' : World} {H : Nat} {o r fl aq : Int} (h : BS w H o r fl aq W) (hb : Below W.heap.size W W') : BS w H o r fl aq W' :=
  ⟨h.1.below hb, h.2.1.trans (hb.mono h.2.1.size), h.2.2⟩
set_option maxHeartbeats 16000000 in
theorem bound_any (out rate : Int) (p : Option Addr × Nat) (acts : List Ac) (w : World) (hout : out < 9223372036854775808) (hrate : rate < 9223372036854775808) (hA : As w w.heap.size p.1 acts) (hl : acts.length ≤ 9223372036854775807) (hRa : ∀ e ∈ acts, Ra w e) :
    Calls Try.prog 4 #[.int .i64 out, .int .i64 rate, .slice p.1 acts.length p.2] w fun r w' => r = .returned (.bool true) ∧ Below w.heap.size w w' := by
  obtain ⟨P, cp⟩ := p
  simp only at hA ⊢
  have HG := Lib.hid (great_any P cp acts w hA hl hRa)
  obtain ⟨gb, hgb⟩ : ∃ gb, gb = greatB acts := ⟨_, rfl⟩
  rw [← hgb] at HG
  obtain ⟨n0, hn⟩ : ∃ n, n = acts.length := ⟨_, rfl⟩
  rw [← hn] at hl HG ⊢
  have HA := Lib.hid hA
  have HRA := Lib.hid hRa
  have HN := Lib.hid hn
  have HGB := Lib.hid hgb
  have HAW : Hid (∀ W, Calls Try.prog 18 #[] W fun r w' => r = .returned (.bool true) ∧ Below W.heap.size W w') := fun W => awake_any W
  have HNW := Lib.hid (new_fw out rate w hout hrate)
  clear hA hRa hn hgb
  go_enter Try.func4, Try.ntmps4
  go_wp2_with fail
  refine HG.out.mono ?_
  rintro r w0 ⟨rfl, rfl⟩
  cases gb with
  | true =>
    go_wp2
    go_ret
    exact ⟨rfl, Below.refl _ _⟩
  | false =>
    have hsm : acts.length ≤ 60 ∧ ∀ e ∈ acts, Sm e := by
      have := HGB.out.symm
      unfold greatB at this
      rw [decide_eq_false_iff_not] at this
      exact Classical.not_not.1 this
    have HSM := Lib.hid hsm
    have hn60 : n0 ≤ 60 := by rw [HN.out]; exact hsm.1
    clear hsm
    obtain ⟨o, ho⟩ : ∃ o, o = max out 0 := ⟨_, rfl⟩
    obtain ⟨r, hr⟩ : ∃ r, r = max rate 0 := ⟨_, rfl⟩
    rw [← ho, ← hr] at HNW
    have HMX := Lib.hid ho.symm
    have HMR := Lib.hid hr.symm
    go_wp2_with fail
    refine HNW.out.mono ?_
    rintro r' w1 ⟨H, rfl, hH, hf1, hb1⟩
    have HM0 : Hid (BS w H o r 0 0 w1) := ⟨hf1, hb1, hH⟩
    clear hf1 hb1 hH ho hr
    go_wp2_with fail
    go_loopw [8, 9, 10] (fun s a i wr => ∃ (k : Nat) (fl aq : Int), k ≤ n0 ∧ s = .int .i64 fl ∧ a = .int .i64 aq ∧ i = .int .i64 (k : Int) ∧ Hid (BS w H o r fl aq wr)) (fun s a i _ => n0 - (intOf i).toNat)
    case atStart => exact ⟨0, 0, 0, Nat.zero_le _, rfl, rfl, rfl, HM0.out⟩
    case round =>
      obtain ⟨k, fl, aq, hk, rfl, rfl, rfl, HM⟩ := hrel
      by_cases hlt : k < n0
      · obtain ⟨⟨d, nn, fs, fp, fc⟩, hy⟩ : ∃ e, acts[k]? = some e := ⟨acts[k]'(by rw [← HN.out]; exact hlt), List.getElem?_eq_getElem _⟩
        obtain ⟨hd0, hnn, hps, hm63, hql⟩ := HRA.out _ (List.mem_of_getElem? hy)
        have hsm := HSM.out.2 _ (List.mem_of_getElem? hy)
        have hwl : (wrapP fs).length ≤ 900000 := by
          have h1 := wrapP_short (fs := fs) (fun q hq => by have := hsm.2 q hq; omega)
          have := hsm.1
          simp only at this
          omega
        obtain ⟨b1, o1, rfl, hb1, ha1⟩ := HA.out (by have := HN.out; omega)
        obtain ⟨e0, e1, e2⟩ := ha1 k _ hy
        have d0 := (HM.out.2.1.cell (p := ⟨b1, _, none⟩) hb1).trans e0
        have d1 := (HM.out.2.1.cell (p := ⟨b1, _, none⟩) hb1).trans e1
        have d2 := (HM.out.2.1.cell (p := ⟨b1, _, none⟩) hb1).trans e2
        simp only at d0 d1 d2 hps hm63 hql hnn hd0
        obtain ⟨m, hm⟩ : ∃ m, m = fs.length := ⟨_, rfl⟩
        rw [← hm] at d2 hps
        have HPX : Hid (∀ W, Below w.heap.size w W → Pbs W (.slice fp m fc) fs) := fun W hW => hps.below hW
        have HQL := Lib.hid hql
        have HWL := Lib.hid hwl
        obtain ⟨X, hX⟩ : ∃ X, X = wr.heap.size := ⟨_, rfl⟩
        obtain ⟨v1, hv1⟩ : ∃ v1, v1 = wr.alloc (.cells #[.int .u8 d, .int .i64 nn, .slice fp m fc] 31) := ⟨_, rfl⟩
        have hbv1 : Below wr.heap.size wr v1 := by rw [hv1]; exact (Below.refl _ _).alloc (Nat.le_refl _) _
        have hqv1 : v1.heap[X]? = some (.cells #[.int .u8 d, .int .i64 nn, .slice fp m fc] 31 (0, 0)) := by rw [hv1, hX]; exact heap_alloc_new wr _
        have HR1 : Hid (BS w H o r fl aq v1) := HM.out.below hbv1
        have HBW := Lib.hid HR1.out.2.1
        have HPV := Lib.hid (HPX.out v1 HBW.out)
        have HXH : Hid (X ≠ H) := by have := lt_of_block' HM.out.1.row; simp only [Hid]; omega
        have HX1 := Lib.hid hqv1
        have HV1 := Lib.hid hv1
        have HXX := Lib.hid hX
        have HOR : Hid (o < 9223372036854775808 ∧ r < 9223372036854775808) := ⟨HM.out.1.ou, HM.out.1.ra⟩
        have x0 := cell_of_row v1 X 0 _ _ _ hqv1
        have x1 := cell_of_row v1 X 1 _ _ _ hqv1
        have x2 := cell_of_row v1 X 2 _ _ _ hqv1
        simp at x0 x1 x2
        clear hy ha1 hb1 e0 e1 e2 hv1 hbv1 hqv1 hX hps hql hwl hsm hm
        go_upto_region 11 with (fail)
        rw [← HV1.out, ← HXX.out]
        clear d0 d1 d2
        by_cases c0 : d = 0
        · subst c0
          have HC := Lib.hid (send_any (H := H) (.slice fp m fc) fs v1 HR1.out.1 HPV.out hm63 HQL.out HWL.out)
          obtain ⟨er, her⟩ : ∃ er, er = sendE fl o fs := ⟨_, rfl⟩
          obtain ⟨X4, hX4⟩ : ∃ X4, X4 = sendB fl o fs := ⟨_, rfl⟩
          rw [← her, ← hX4] at HC
          have HX0 : Hid (er ≠ 0 → X4.length = 0) := fun h => by rw [hX4, sendB_no (by rw [← her]; exact h)]; rfl
          clear her hX4
          go_wp2_with fail
          refine HC.out.mono ?_
          rintro r' w4 ⟨A4, n4, c4, rfl, hp4, hf4, hk4⟩
          have e4 : n4 = X4.length := by
            obtain ⟨_, _, e, _⟩ := hp4.pb
            injection e
          obtain ⟨fl2, hfl2⟩ : ∃ fl2, fl2 = fl + (X4.length : Int) := ⟨_, rfl⟩
          rw [← hfl2] at hf4
          rw [← e4] at hfl2
          have HX5 : Hid (er ≠ 0 → n4 = 0) := by rw [e4]; exact HX0.out
          have HW4 : Hid (IntKind.i64.wrap (fl + (n4 : Int)) = fl2) := by
            simp only [Hid]
            rw [IntKind.wrap_i64]
            have := hf4.fl0
            have := hf4.flo
            have := hf4.ou
            omega
          have hFE := hfl2.symm
          obtain ⟨wz, hwz⟩ : ∃ wz, wz = w4 := ⟨_, rfl⟩
          rw [← hwz] at hf4 hk4 ⊢
          have HR : Hid (BS w H o r fl2 aq wz) := ⟨hf4, kp_below HBW.out (Nat.le_refl _) hk4 HR1.out.2.2, HR1.out.2.2⟩
          obtain ⟨as2, has2⟩ : ∃ as2, as2 = aq := ⟨_, rfl⟩
          rw [← has2] at HR ⊢
          have h63 : (n4 : Int) < 9223372036854775808 := by have := hf4.flo; have := hf4.ou; have := HR1.out.1.fl0; omega
          have h64 : fl + (n4 : Int) < 9223372036854775808 := by have := hf4.flo; have := hf4.ou; omega
          have h65 : 0 ≤ fl := HR1.out.1.fl0
          have HFE := Lib.hid hFE
          have HFL2 := Lib.hid hfl2
          clear hp4 hf4 hk4 HC e4 hwz HW4 HX0 x0 x1 x2 hFE hfl2 has2
          by_cases he0 : er = 0
          · subst he0
            clear HX5
            go_upto_region 28 with (fail)
            rw [HFE.out]
            clear h63 h64 h65
            have q1 : out < 0 → fl2 ≤ 0 := fun h => by have := HMX.out; have := HR.out.1.flo; omega
            have q2 : 0 ≤ out → fl2 ≤ out := fun h => by have := HMX.out; have := HR.out.1.flo; omega
            have q3 : rate < 0 → as2 ≤ 0 := fun h => by have := HMR.out; have := HR.out.1.asr; omega
            have q4 : 0 ≤ rate → as2 ≤ rate := fun h => by have := HMR.out; have := HR.out.1.asr; omega
            have HFL := Lib.hid (flying_any H fl2 wz HR.out.1.cell.1)
            have HAL := Lib.hid (asked_any H as2 wz HR.out.1.cell.2.2.1)
            go_wp2_with fail
            refine HFL.out.mono ?_
            rintro r' w' ⟨rfl, rfl⟩
            go_wp2_with fail
            all_goals
              refine HAL.out.mono ?_
              rintro r' w' ⟨rfl, rfl⟩
              go_wp2_with fail
              all_goals
                go_roundw
                case rel => exact ⟨k + 1, fl2, as2, by omega, rfl, rfl, by go_num, HR.out⟩
                case measure => simp [intOf] <;> omega
          · have hn0 : n4 = 0 := HX5.out he0
            subst hn0
            have hfe : fl2 = fl := by rw [HFL2.out]; simp
            subst hfe
            clear HFE HFL2 h64
            have h66 : fl2 < 9223372036854775808 := by have := HR.out.1.flo; have := HR.out.1.ou; omega
            go_upto_region 28 with (fail)
            clear h63 h65 h66 HX5 he0
            have q1 : out < 0 → fl2 ≤ 0 := fun h => by have := HMX.out; have := HR.out.1.flo; omega
            have q2 : 0 ≤ out → fl2 ≤ out := fun h => by have := HMX.out; have := HR.out.1.flo; omega
            have q3 : rate < 0 → as2 ≤ 0 := fun h => by have := HMR.out; have := HR.out.1.asr; omega
            have q4 : 0 ≤ rate → as2 ≤ rate := fun h => by have := HMR.out; have := HR.out.1.asr; omega
            have HFL := Lib.hid (flying_any H fl2 wz HR.out.1.cell.1)
            have HAL := Lib.hid (asked_any H as2 wz HR.out.1.cell.2.2.1)
            go_wp2_with fail
            refine HFL.out.mono ?_
            rintro r' w' ⟨rfl, rfl⟩
            go_wp2_with fail
            all_goals
              refine HAL.out.mono ?_
              rintro r' w' ⟨rfl, rfl⟩
              go_wp2_with fail
              all_goals
                go_roundw
                case rel => exact ⟨k + 1, fl2, as2, by omega, rfl, rfl, by go_num, HR.out⟩
                case measure => simp [intOf] <;> omega
        by_cases c1 : d = 1
        · subst c1
          have HBS1 : Hid (Below v1.heap.size v1 v1) := Below.refl _ _
          have HXC : Hid (∀ W, Below v1.heap.size v1 W → W.cell? ⟨X, 1, none⟩ = some (.int .i64 nn)) := fun W hW => cell_of_row W X 1 _ _ _ ((hW.block _ (lt_of_block' HX1.out)).trans HX1.out)
          go_upto_region 18 with (fail)
          have HDg : Hid (Below v1.heap.size v1 v1.drew) := HBS1.out.drew
          refine wp_region_held_drew (S := fun W : World => W.cell? ⟨X, 1, none⟩ = some (.int .i64 nn)) (by kernel_rfl) (HXC.out _ (HDg.out)) (fun hHeld => ?_)
          obtain ⟨Wg0, hW0⟩ : ∃ W0, W0 = v1.drew := ⟨_, rfl⟩
          rw [← hW0] at hHeld HDg ⊢
          clear hW0
          refine wpAnyH_take (i := 0) (oi := ?oi0g) (v := ?v0g) ?hi0g ?hs0g ?hf0g ?hr0g ?hQ0g ?hy0g ?hS0g ?h0g
          case hi0g => exact (by simp only [List.getElem?_toArray, List.getElem?_cons_zero]; rfl)
          case hs0g => kernel_rfl
          case hf0g => kernel_rfl
          case hr0g => kernel_rfl
          case hQ0g => exact fun _ _ _ h => h
          case hy0g =>
            refine Or.inl ⟨rfl, ?_⟩
            intro W hSw
            go_simp
            try with_reducible rfl
          case hS0g => assumption
          try simp only [Act.put, List.setIfInBounds_toArray, List.set_cons_zero, List.set_cons_succ]
          refine wpAnyH_take (i := 1) (oi := ?oi1g) (v := ?v1g) ?hi1g ?hs1g ?hf1g ?hr1g ?hQ1g ?hy1g ?hS1g ?h1g
          case hi1g => exact (by simp only [List.getElem?_toArray, List.getElem?_cons_succ, List.getElem?_cons_zero]; rfl)
          case hs1g => kernel_rfl
          case hf1g => kernel_rfl
          case hr1g => kernel_rfl
          case hQ1g => exact fun _ _ _ h => h
          case hy1g =>
            refine Or.inl ⟨rfl, ?_⟩
            intro W hSw
            go_simp
            try with_reducible rfl
          case hS1g => assumption
          try simp only [Act.put, List.setIfInBounds_toArray, List.set_cons_zero, List.set_cons_succ]
          refine wpAnyH_take (i := 2) (oi := ?oi2g) (v := ?v2g) ?hi2g ?hs2g ?hf2g ?hr2g ?hQ2g ?hy2g ?hS2g ?h2g
          case hi2g => exact (by simp only [List.getElem?_toArray, List.getElem?_cons_succ, List.getElem?_cons_zero]; rfl)
          case hs2g => kernel_rfl
          case hf2g => kernel_rfl
          case hr2g => kernel_rfl
          case hQ2g => exact fun _ _ _ h => h
          case hy2g =>
            refine Or.inl ⟨rfl, ?_⟩
            intro W hSw
            go_simp
            try with_reducible rfl
          case hS2g => assumption
          try simp only [Act.put, List.setIfInBounds_toArray, List.set_cons_zero, List.set_cons_succ]
          refine wpAnyH_take (i := 3) (oi := ?oi3g) (v := ?v3g) ?hi3g ?hs3g ?hf3g ?hr3g ?hQ3g ?hy3g ?hS3g ?h3g
          case hi3g => exact (by simp only [List.getElem?_toArray, List.getElem?_cons_succ, List.getElem?_cons_zero]; rfl)
          case hs3g => kernel_rfl
          case hf3g => kernel_rfl
          case hr3g => kernel_rfl
          case hQ3g => exact fun _ _ _ h => h
          case hy3g =>
            refine Or.inl ⟨rfl, ?_⟩
            intro W hSw
            go_simp
            try with_reducible rfl
          case hS3g => assumption
          try simp only [Act.put, List.setIfInBounds_toArray, List.set_cons_zero, List.set_cons_succ]
          refine wpAnyH_take (i := 4) (oi := ?oi4g) (v := ?v4g) ?hi4g ?hs4g ?hf4g ?hr4g ?hQ4g ?hy4g ?hS4g ?h4g
          case hi4g => exact (by simp only [List.getElem?_toArray, List.getElem?_cons_succ, List.getElem?_cons_zero]; rfl)
          case hs4g => kernel_rfl
          case hf4g => kernel_rfl
          case hr4g => kernel_rfl
          case hQ4g => exact fun _ _ _ h => h
          case hy4g =>
            refine Or.inl ⟨rfl, ?_⟩
            intro W hSw
            go_simp
            try with_reducible rfl
          case hS4g => assumption
          try simp only [Act.put, List.setIfInBounds_toArray, List.set_cons_zero, List.set_cons_succ]
          refine wpAnyH_ready (rs := [5]) (by kernel_rfl) (by simp) ?_
          refine AllReadyH.cons (o := _) rfl (fun K hK => ?_) AllReadyH.nil
          have hG := gone_any nn Wg0 (HR1.out.1.below HDg.out)
          go_simp
          refine hG.mono ?_
          rintro r' w4 ⟨rfl, hf4, hk4⟩
          have HF4 := Lib.hid hf4
          have HK4 := Lib.hid (Kp.trans (Kp.of_below (fun k => k = H) HDg.out) hk4 (fun i _ e => e))
          have hx4 := HK4.out.heap HX1.out HXH.out
          clear hG hf4 hk4
          refine hK.out _ _ ((cell_of_row _ X 1 _ _ _ hx4)) (fun hHeld => ?_)
          clear hK K
          try simp only [Act.put, List.setIfInBounds_toArray, List.set_cons_zero, List.set_cons_succ]
          refine wpAnyH_take (i := 6) (oi := ?oi6g) (v := ?v6g) ?hi6g ?hs6g ?hf6g ?hr6g ?hQ6g ?hy6g ?hS6g ?h6g
          case hi6g => exact (by simp only [List.getElem?_toArray, List.getElem?_cons_succ, List.getElem?_cons_zero]; rfl)
          case hs6g => kernel_rfl
          case hf6g => kernel_rfl
          case hr6g => kernel_rfl
          case hQ6g => exact fun _ _ _ h => h
          case hy6g =>
            refine Or.inl ⟨rfl, ?_⟩
            intro W hSw
            go_simp
            try with_reducible rfl
          case hS6g => assumption
          try simp only [Act.put, List.setIfInBounds_toArray, List.set_cons_zero, List.set_cons_succ]
          refine wpAnyH_done (by kernel_rfl) ?_ _
          clear x0 x1 x2
          have x0 := cell_of_row w4 X 0 _ _ _ hx4
          have x1 := cell_of_row w4 X 1 _ _ _ hx4
          have x2 := cell_of_row w4 X 2 _ _ _ hx4
          simp at x0 x1 x2
          obtain ⟨fl2, hfl2⟩ : ∃ fl2, fl2 = goneQ fl nn := ⟨_, rfl⟩
          rw [← hfl2] at HF4 ⊢
          obtain ⟨wz, hwz⟩ : ∃ wz, wz = w4 := ⟨_, rfl⟩
          rw [← hwz] at HF4 HK4 x0 x1 x2 ⊢
          have HR : Hid (BS w H o r fl2 aq wz) := ⟨HF4.out, kp_below HBW.out (Nat.le_refl _) HK4.out HR1.out.2.2, HR1.out.2.2⟩
          obtain ⟨as2, has2⟩ : ∃ as2, as2 = aq := ⟨_, rfl⟩
          rw [← has2] at HR ⊢
          have g0 := HR1.out.1.fl0
          unfold goneQ at hfl2
          have g1 : fl2 ≤ fl := by omega
          have g2 : nn ≤ 0 → fl2 = fl := by omega
          have g3 : nn ≥ fl → fl2 = 0 := by omega
          clear hx4 hwz hfl2 HF4 HK4 has2
          by_cases ha : nn ≤ 0
          · have hb : fl2 = fl := g2 ha
            subst hb
            by_cases hc : nn ≥ fl2
            · clear g2
              go_upto_region 28 with (fail)
              have q1 : out < 0 → fl2 ≤ 0 := fun h => by have := HMX.out; have := HR.out.1.flo; omega
              have q2 : 0 ≤ out → fl2 ≤ out := fun h => by have := HMX.out; have := HR.out.1.flo; omega
              have q3 : rate < 0 → as2 ≤ 0 := fun h => by have := HMR.out; have := HR.out.1.asr; omega
              have q4 : 0 ≤ rate → as2 ≤ rate := fun h => by have := HMR.out; have := HR.out.1.asr; omega
              have HFL := Lib.hid (flying_any H fl2 wz HR.out.1.cell.1)
              have HAL := Lib.hid (asked_any H as2 wz HR.out.1.cell.2.2.1)
              go_wp2_with fail
              refine HFL.out.mono ?_
              rintro r' w' ⟨rfl, rfl⟩
              go_wp2_with fail
              all_goals
                refine HAL.out.mono ?_
                rintro r' w' ⟨rfl, rfl⟩
                go_wp2_with fail
                all_goals
                  go_roundw
                  case rel => exact ⟨k + 1, fl2, as2, by omega, rfl, rfl, by go_num, HR.out⟩
                  case measure => simp [intOf] <;> omega
            · clear g2 g3
              go_upto_region 28 with (fail)
              have q1 : out < 0 → fl2 ≤ 0 := fun h => by have := HMX.out; have := HR.out.1.flo; omega
              have q2 : 0 ≤ out → fl2 ≤ out := fun h => by have := HMX.out; have := HR.out.1.flo; omega
              have q3 : rate < 0 → as2 ≤ 0 := fun h => by have := HMR.out; have := HR.out.1.asr; omega
              have q4 : 0 ≤ rate → as2 ≤ rate := fun h => by have := HMR.out; have := HR.out.1.asr; omega
              have HFL := Lib.hid (flying_any H fl2 wz HR.out.1.cell.1)
              have HAL := Lib.hid (asked_any H as2 wz HR.out.1.cell.2.2.1)
              go_wp2_with fail
              refine HFL.out.mono ?_
              rintro r' w' ⟨rfl, rfl⟩
              go_wp2_with fail
              all_goals
                refine HAL.out.mono ?_
                rintro r' w' ⟨rfl, rfl⟩
                go_wp2_with fail
                all_goals
                  go_roundw
                  case rel => exact ⟨k + 1, fl2, as2, by omega, rfl, rfl, by go_num, HR.out⟩
                  case measure => simp [intOf] <;> omega
          · clear g2
            by_cases hc : nn ≥ fl
            · have hd := g3 hc
              clear g3
              subst hd
              go_upto_region 28 with (fail)
              have q1 : out < 0 → 0 ≤ 0 := fun h => by have := HMX.out; have := HR.out.1.flo; omega
              have q2 : 0 ≤ out → 0 ≤ out := fun h => by have := HMX.out; have := HR.out.1.flo; omega
              have q3 : rate < 0 → as2 ≤ 0 := fun h => by have := HMR.out; have := HR.out.1.asr; omega
              have q4 : 0 ≤ rate → as2 ≤ rate := fun h => by have := HMR.out; have := HR.out.1.asr; omega
              have HFL := Lib.hid (flying_any H 0 wz HR.out.1.cell.1)
              have HAL := Lib.hid (asked_any H as2 wz HR.out.1.cell.2.2.1)
              go_wp2_with fail
              refine HFL.out.mono ?_
              rintro r' w' ⟨rfl, rfl⟩
              go_wp2_with fail
              all_goals
                refine HAL.out.mono ?_
                rintro r' w' ⟨rfl, rfl⟩
                go_wp2_with fail
                all_goals
                  go_roundw
                  case rel => exact ⟨k + 1, 0, as2, by omega, rfl, rfl, by go_num, HR.out⟩
                  case measure => simp [intOf] <;> omega
            · clear g3
              go_upto_region 28 with (fail)
              have q1 : out < 0 → fl2 ≤ 0 := fun h => by have := HMX.out; have := HR.out.1.flo; omega
              have q2 : 0 ≤ out → fl2 ≤ out := fun h => by have := HMX.out; have := HR.out.1.flo; omega
              have q3 : rate < 0 → as2 ≤ 0 := fun h => by have := HMR.out; have := HR.out.1.asr; omega
              have q4 : 0 ≤ rate → as2 ≤ rate := fun h => by have := HMR.out; have := HR.out.1.asr; omega
              have HFL := Lib.hid (flying_any H fl2 wz HR.out.1.cell.1)
              have HAL := Lib.hid (asked_any H as2 wz HR.out.1.cell.2.2.1)
              go_wp2_with fail
              refine HFL.out.mono ?_
              rintro r' w' ⟨rfl, rfl⟩
              go_wp2_with fail
              all_goals
                refine HAL.out.mono ?_
                rintro r' w' ⟨rfl, rfl⟩
                go_wp2_with fail
                all_goals
                  go_roundw
                  case rel => exact ⟨k + 1, fl2, as2, by omega, rfl, rfl, by go_num, HR.out⟩
                  case measure => simp [intOf] <;> omega
        by_cases c2 : d = 2
        · subst c2
          have HC := Lib.hid (ask_any (H := H) v1 HR1.out.1)
          have h1 := HR1.out.1.as0
          have h2 := HR1.out.1.asr
          have h3 := HR1.out.1.ra
          by_cases hy : aq < r
          · rw [if_pos hy, decide_eq_true hy] at HC
            go_wp2_with fail
            refine HC.out.mono ?_
            rintro r' wz ⟨rfl, hf4, hk4⟩
            have HR0 : Hid (BS w H o r fl (aq + 1) wz) := ⟨hf4, kp_below HBW.out (Nat.le_refl _) hk4 HR1.out.2.2, HR1.out.2.2⟩
            obtain ⟨fl2, hfl2⟩ : ∃ fl2, fl2 = fl := ⟨_, rfl⟩
            obtain ⟨as2, has2⟩ : ∃ as2, as2 = aq + 1 := ⟨_, rfl⟩
            have HR : Hid (BS w H o r fl2 as2 wz) := by rw [hfl2, has2]; exact HR0.out
            have HFE := Lib.hid has2.symm
            rw [← hfl2]
            clear HR0 hf4 hk4 hfl2 has2
            go_upto_region 28 with (fail)
            rw [HFE.out]
            clear h1 h2 h3 hy
            have q1 : out < 0 → fl2 ≤ 0 := fun h => by have := HMX.out; have := HR.out.1.flo; omega
            have q2 : 0 ≤ out → fl2 ≤ out := fun h => by have := HMX.out; have := HR.out.1.flo; omega
            have q3 : rate < 0 → as2 ≤ 0 := fun h => by have := HMR.out; have := HR.out.1.asr; omega
            have q4 : 0 ≤ rate → as2 ≤ rate := fun h => by have := HMR.out; have := HR.out.1.asr; omega
            have HFL := Lib.hid (flying_any H fl2 wz HR.out.1.cell.1)
            have HAL := Lib.hid (asked_any H as2 wz HR.out.1.cell.2.2.1)
            go_wp2_with fail
            refine HFL.out.mono ?_
            rintro r' w' ⟨rfl, rfl⟩
            go_wp2_with fail
            all_goals
              refine HAL.out.mono ?_
              rintro r' w' ⟨rfl, rfl⟩
              go_wp2_with fail
              all_goals
                go_roundw
                case rel => exact ⟨k + 1, fl2, as2, by omega, rfl, rfl, by go_num, HR.out⟩
                case measure => simp [intOf] <;> omega
          · rw [if_neg hy, decide_eq_false hy] at HC
            go_wp2_with fail
            refine HC.out.mono ?_
            rintro r' wz ⟨rfl, hf4, hk4⟩
            have HR0 : Hid (BS w H o r fl aq wz) := ⟨hf4, kp_below HBW.out (Nat.le_refl _) hk4 HR1.out.2.2, HR1.out.2.2⟩
            obtain ⟨fl2, hfl2⟩ : ∃ fl2, fl2 = fl := ⟨_, rfl⟩
            obtain ⟨as2, has2⟩ : ∃ as2, as2 = aq := ⟨_, rfl⟩
            have HR : Hid (BS w H o r fl2 as2 wz) := by rw [hfl2, has2]; exact HR0.out
            clear HR0 hf4 hk4 h1 h2 h3 hy
            rw [← hfl2, ← has2]
            clear hfl2 has2
            go_upto_region 28 with (fail)
            have q1 : out < 0 → fl2 ≤ 0 := fun h => by have := HMX.out; have := HR.out.1.flo; omega
            have q2 : 0 ≤ out → fl2 ≤ out := fun h => by have := HMX.out; have := HR.out.1.flo; omega
            have q3 : rate < 0 → as2 ≤ 0 := fun h => by have := HMR.out; have := HR.out.1.asr; omega
            have q4 : 0 ≤ rate → as2 ≤ rate := fun h => by have := HMR.out; have := HR.out.1.asr; omega
            have HFL := Lib.hid (flying_any H fl2 wz HR.out.1.cell.1)
            have HAL := Lib.hid (asked_any H as2 wz HR.out.1.cell.2.2.1)
            go_wp2_with fail
            refine HFL.out.mono ?_
            rintro r' w' ⟨rfl, rfl⟩
            go_wp2_with fail
            all_goals
              refine HAL.out.mono ?_
              rintro r' w' ⟨rfl, rfl⟩
              go_wp2_with fail
              all_goals
                go_roundw
                case rel => exact ⟨k + 1, fl2, as2, by omega, rfl, rfl, by go_num, HR.out⟩
                case measure => simp [intOf] <;> omega
        by_cases c3 : d = 3
        · subst c3
          have HC := Lib.hid (tick_any (H := H) v1 HR1.out.1)
          go_wp2_with fail
          refine HC.out.mono ?_
          rintro r' wz ⟨rfl, hf4, hk4⟩
          have HR0 : Hid (BS w H o r fl 0 wz) := ⟨hf4, kp_below HBW.out (Nat.le_refl _) hk4 HR1.out.2.2, HR1.out.2.2⟩
          obtain ⟨fl2, hfl2⟩ : ∃ fl2, fl2 = fl := ⟨_, rfl⟩
          have HR : Hid (BS w H o r fl2 0 wz) := by rw [hfl2]; exact HR0.out
          rw [← hfl2]
          clear HR0 hf4 hk4 hfl2
          go_upto_region 28 with (fail)
          have q1 : out < 0 → fl2 ≤ 0 := fun h => by have := HMX.out; have := HR.out.1.flo; omega
          have q2 : 0 ≤ out → fl2 ≤ out := fun h => by have := HMX.out; have := HR.out.1.flo; omega
          have q3 : rate < 0 → 0 ≤ 0 := fun h => by have := HMR.out; have := HR.out.1.asr; omega
          have q4 : 0 ≤ rate → 0 ≤ rate := fun h => by have := HMR.out; have := HR.out.1.asr; omega
          have HFL := Lib.hid (flying_any H fl2 wz HR.out.1.cell.1)
          have HAL := Lib.hid (asked_any H 0 wz HR.out.1.cell.2.2.1)
          go_wp2_with fail
          refine HFL.out.mono ?_
          rintro r' w' ⟨rfl, rfl⟩
          go_wp2_with fail
          all_goals
            refine HAL.out.mono ?_
            rintro r' w' ⟨rfl, rfl⟩
            go_wp2_with fail
            all_goals
              go_roundw
              case rel => exact ⟨k + 1, fl2, 0, by omega, rfl, rfl, by go_num, HR.out⟩
              case measure => simp [intOf] <;> omega
        · skip
          obtain ⟨wz, hwz⟩ : ∃ wz, wz = v1 := ⟨_, rfl⟩
          obtain ⟨fl2, hfl2⟩ : ∃ fl2, fl2 = fl := ⟨_, rfl⟩
          obtain ⟨as2, has2⟩ : ∃ as2, as2 = aq := ⟨_, rfl⟩
          have HR : Hid (BS w H o r fl2 as2 wz) := by
            rw [hwz, hfl2, has2]
            exact HR1.out
          rw [← hwz, ← hfl2, ← has2]
          rw [← hwz] at x0 x1 x2
          clear hwz hfl2 has2
          go_upto_region 28 with (fail)
          have q1 : out < 0 → fl2 ≤ 0 := fun h => by have := HMX.out; have := HR.out.1.flo; omega
          have q2 : 0 ≤ out → fl2 ≤ out := fun h => by have := HMX.out; have := HR.out.1.flo; omega
          have q3 : rate < 0 → as2 ≤ 0 := fun h => by have := HMR.out; have := HR.out.1.asr; omega
          have q4 : 0 ≤ rate → as2 ≤ rate := fun h => by have := HMR.out; have := HR.out.1.asr; omega
          have HFL := Lib.hid (flying_any H fl2 wz HR.out.1.cell.1)
          have HAL := Lib.hid (asked_any H as2 wz HR.out.1.cell.2.2.1)
          go_wp2_with fail
          refine HFL.out.mono ?_
          rintro r' w' ⟨rfl, rfl⟩
          go_wp2_with fail
          all_goals
            refine HAL.out.mono ?_
            rintro r' w' ⟨rfl, rfl⟩
            go_wp2_with fail
            all_goals
              go_roundw
              case rel => exact ⟨k + 1, fl2, as2, by omega, rfl, rfl, by go_num, HR.out⟩
              case measure => simp [intOf] <;> omega
      · have hkn : k = n0 := by omega
        subst hkn
        have HBF := Lib.hid HM.out.2.1
        go_wp2_with fail
        refine (HAW.out wr).mono ?_
        rintro r' w8 ⟨rfl, hb8⟩
        have HB8 := Lib.hid (HBF.out.trans (hb8.mono HBF.out.size))
        clear hb8
        go_wp2_with fail
        go_ret
        exact ⟨rfl, HB8.out⟩
end Go.Proofs.Ytbahifbhjdnacaa
