/- Party: PartyRefuses' walk. -/
import Derived.Test.YtjlpmdokmfmdiaaE8
namespace Go.Proofs.Ytjlpmdokmfmdiaa.P
open Go.RowKit
set_option maxRecDepth 20000
set_option linter.unusedVariables false
set_option linter.unusedSimpArgs false

set_option maxHeartbeats 16000000 in
theorem refuses_any (p : Option Addr × Nat) (acts : List Ac) (la : Ac) (w : World) (hA : As w w.heap.size p.1 acts) (hl : acts.length ≤ 9223372036854775807) (hR : ∀ e ∈ acts, Ra e) (hla : Ra la) :
    Calls Try.prog 6 #[.slice p.1 acts.length p.2, .agg (aC la)] w fun r w' => r = .returned (.bool true) ∧ Below w.heap.size w w' := by
  obtain ⟨P, cp⟩ := p
  obtain ⟨d1, a, b⟩ := la
  simp only at hA ⊢
  obtain ⟨n0, hn⟩ : ∃ n, n = acts.length := ⟨_, rfl⟩
  rw [← hn] at hl ⊢
  have HA := Lib.hid hA
  have HR := Lib.hid hR
  have HN := Lib.hid hn
  have HAW : Hid (∀ W, Calls Try.prog 18 #[] W fun r w' => r = .returned (.bool true) ∧ Below W.heap.size W w') := fun W => awake_any W
  obtain ⟨X, hX⟩ : ∃ X, X = w.heap.size := ⟨_, rfl⟩
  obtain ⟨w0, hw0⟩ : ∃ w0, w0 = w.alloc (.cells #[.int .u8 d1, .int .u32 (a : Int), .int .u32 (b : Int)] 28) := ⟨_, rfl⟩
  have hb0 : Below w.heap.size w w0 := by rw [hw0]; exact (Below.refl _ _).alloc (Nat.le_refl _) _
  have hq0 : w0.heap[X]? = some (.cells #[.int .u8 d1, .int .u32 (a : Int), .int .u32 (b : Int)] 28 (0, 0)) := by rw [hw0, hX]; exact heap_alloc_new w _
  have HNW := Lib.hid (new_bk 2 w0)
  have H0 := Lib.hid hw0
  have HB0 := Lib.hid hb0
  have HQ0 := Lib.hid hq0
  have HXX := Lib.hid hX
  clear hA hR hn hla hX hw0 hb0 hq0
  by_cases h60 : 60 < n0
  · go_enter Try.func6, Try.ntmps6
    go_upto_region 2 with (fail)
    rw [← H0.out]
    go_wp2
    go_ret
    exact ⟨rfl, HB0.out⟩
  go_enter Try.func6, Try.ntmps6
  go_upto_region 3 with (fail)
  rw [← H0.out, ← HXX.out]
  go_wp2_with fail
  refine HNW.out.mono ?_
  rintro r w1 ⟨B, rfl, hB, hbk, hb1⟩
  rw [show max (2 : Int) 0 = 2 from by decide] at hbk
  obtain ⟨R, hRR⟩ : ∃ R, R = w0.heap.size := ⟨_, rfl⟩
  have HRR := Lib.hid hRR
  have HS : Hid (PS w0 B 2 0 [] none 0 w1) := ⟨_, hbk, ⟨rfl, Dr.nil, hbk.ctx⟩, Inv.nil, Nat.le_refl _, hb1⟩
  clear hbk hb1 hRR
  go_wp2_with fail
  go_loopw [6, 7] (fun vl i wr => ∃ (k n c : Nat) (A : Option Addr) (L : List Pt), k ≤ n0 ∧ i = .int .i64 (k : Int) ∧ vl = .slice A n c ∧ Hid (PS w0 B 2 k L A n wr)) (fun _ i _ => n0 - (intOf i).toNat)
  case atStart => exact ⟨0, 0, 0, none, [], Nat.zero_le _, rfl, rfl, HS.out⟩
  case round =>
    obtain ⟨k, n, c, A, L, hk, rfl, rfl, HM⟩ := hrel
    by_cases hlt : k < n0
    · obtain ⟨⟨d, a', b'⟩, hy⟩ : ∃ e, acts[k]? = some e := ⟨acts[k]'(by rw [← HN.out]; exact hlt), List.getElem?_eq_getElem _⟩
      obtain ⟨b1, o1, rfl, hb1, ha1⟩ := HA.out (by have := HN.out; omega)
      obtain ⟨e0, e1, e2⟩ := ha1 k _ hy
      have hall := HB0.out.trans (HM.out.all.mono HB0.out.size)
      have d0 := (hall.cell (p := ⟨b1, _, none⟩) hb1).trans e0
      have d1 := (hall.cell (p := ⟨b1, _, none⟩) hb1).trans e1
      have d2 := (hall.cell (p := ⟨b1, _, none⟩) hb1).trans e2
      simp only at d0 d1 d2
      have HACT := Lib.hid (HM.out.act (c := c) (by omega) (by decide) d a' b')
      clear hy ha1 hb1 e0 e1 e2 hall
      go_wp2_with fail
      refine HACT.out.mono ?_
      rintro r w2 ⟨A2, n2, c2, rfl, hps, hkp⟩
      have HF2 := Lib.hid hps
      clear hps hkp d0 d1 d2
      go_wp2_with fail
      go_roundw
      case rel => exact ⟨k + 1, n2, c2, A2, _, by omega, by go_num, rfl, HF2.out⟩
      case measure => simp [intOf] <;> omega
    · have hkn : k = n0 := by omega
      subst hkn
      obtain ⟨vi, h1, h2, h3, h4, h5⟩ := HM.out
      rw [← HRR.out] at h1 h2
      have HXR : Hid (X < R) := by have h := lt_of_block HQ0.out; have := HRR.out; simp only [Hid]; omega
      have HBK := Lib.hid h1
      have HDD := Lib.hid h2
      have HIV := Lib.hid h3
      have HLN : Hid (L.length ≤ 90 ∧ n ≤ 90) := by have := h2.n; exact ⟨by omega, by omega⟩
      have HBL := Lib.hid h5
      have HRW : Hid (R ≤ wr.heap.size) := Nat.le_of_lt h1.ctx.1
      have HPA := Lib.hid (parties_any B R 2 vi L wr h1 (by have := HLN.out.1; omega))
      have hl100 : L.length ≤ 100 := by have := HLN.out.1; omega
      obtain ⟨L1, hL1⟩ : ∃ L1, L1 = L.map (·.id) := ⟨_, rfl⟩
      rw [← hL1] at HPA
      have HLL : Hid (L1.length ≤ 1000) := by simp only [Hid]; rw [hL1, List.length_map]; have := HLN.out.1; omega
      have HL1 := Lib.hid hL1
      clear hL1
      rcases lead_shape h3 a b with ⟨e, he, hS⟩ | ⟨L3, g3, hS, hN3, ho3, hg3, hld3, hS18⟩
      · have HLD : Hid (∀ W, Below wr.heap.size wr W → Calls Try.prog 26 #[bp B, .int .u32 (a : Int), .int .u32 (b : Int)] W fun r w' => r = .returned (.int .i64 e) ∧ PutP B R 2 vi L W w') := fun W hW => by
          have hh := lead_any B R 2 vi L a b W (HBK.out.after hW) HIV.out hl100
          rw [hS] at hh
          exact hh
        clear h1 h2 h3 h4 h5 hS
        go_wp2_with fail
        refine HPA.out.mono ?_
        rintro r w8 ⟨A8, n8, c8, rfl, ho8, hb8⟩
        have HFL : Hid (Fl w8 R vi ⟨A8, n8, c8⟩ L1) := Fl.fresh HBK.out.ctx (Nat.le_refl _) ho8
        have hq8 := ((HBL.out.trans (hb8.mono HBL.out.size)).block _ (lt_of_block HQ0.out)).trans HQ0.out
        have HQ8 := Lib.hid hq8
        have HB8 := Lib.hid hb8
        have t1 := cell_of_row w8 X 1 _ _ _ hq8
        have t2 := cell_of_row w8 X 2 _ _ _ hq8
        simp at t1 t2
        clear ho8 hb8 hq8
        go_wp2_with fail
        refine (HLD.out w8 HB8.out).mono ?_
        rintro r w9 ⟨rfl, vi9, hbk9, hst9⟩
        have HQ9 : Hid (w9.heap[X]? = some (.cells #[.int .u8 d1, .int .u32 (a : Int), .int .u32 (b : Int)] 28 (0, 0))) := (hst9.below.block _ HXR.out).trans HQ8.out
        have HF9 : Hid (Fl w9 R vi9 ⟨A8, n8, c8⟩ L1) := HFL.out.stp hst9
        have HD9 : Hid (Dd w9 R vi9 A n L) := (HDD.out.after HB8.out).stp hst9 hbk9.ctx
        have HBK9 := Lib.hid hbk9
        have HB9 : Hid (Below w.heap.size w w9) := by
          have q1 := HB0.out.trans (HBL.out.mono HB0.out.size)
          have q2 := q1.trans (HB8.out.mono q1.size)
          exact q2.trans (hst9.below.mono (by have := HRR.out; have := HB0.out.size; omega))
        have HLK9 : Hid (∀ W, Below w9.heap.size w9 W → Calls Try.prog 14 #[bp B, .slice A n c] W fun r w' => r = .returned (.bool true) ∧ Below W.heap.size W w') := fun W hW => like_any B R 2 vi9 L A n c W (HBK9.out.after hW) (HD9.out.after hW) HIV.out (by have := HLN.out.2; omega)
        have HPA9 : Hid (∀ W, Below w9.heap.size w9 W → Calls Try.prog 19 #[bp B] W fun r w' => ∃ A n c, r = .returned (.slice A n c) ∧ w'.ownsRow W.heap.size 26 1 (.slice A n c) n (un L1) ∧ Below W.heap.size W w') := fun W hW => by
          rw [HL1.out]
          exact parties_any B R 2 vi9 L W (HBK9.out.after hW) (by have := HLN.out.1; omega)
        clear t1 t2 hbk9 hst9
        go_wp2_with fail
        refine (HLK9.out w9 (Below.refl _ _)).mono ?_
        rintro r w10 ⟨rfl, hb10⟩
        have HB10 := Lib.hid hb10
        clear hb10
        go_wp2_with fail
        refine (HPA9.out w10 HB10.out).mono ?_
        rintro r w11 ⟨A11, n11, c11, rfl, ho11, hb11⟩
        have HS11 : Hid (S32 w11 (.slice A11 n11 c11) L1) := ⟨A11, c11, by rw [(Rn.of_own ho11).1], (Rn.of_own ho11).2⟩
        have HB11 : Hid (Below w9.heap.size w9 w11) := HB10.out.trans (hb11.mono HB10.out.size)
        have HS8 : Hid (S32 w11 (.slice A8 n8 c8) L1) := .of_fl (HF9.out.after HB11.out)
        clear ho11 hb11
        go_wp2_with fail
        refine (same_eq _ _ L1 w11 HLL.out HS8.out HS11.out).mono ?_
        rintro r w12 ⟨rfl, hb12⟩
        have HB12 : Hid (Below w9.heap.size w9 w12) := HB11.out.trans (hb12.mono HB11.out.size)
        have hq12 := (HB12.out.block _ (lt_of_block HQ9.out)).trans HQ9.out
        have HQ12 := Lib.hid hq12
        have t1 := cell_of_row w12 X 1 _ _ _ hq12
        have t2 := cell_of_row w12 X 2 _ _ _ hq12
        simp at t1 t2
        clear hb12 hq12
        rcases join_shape HIV.out a b with ⟨f, hf, hJ⟩ | ⟨L3, g3, hJ, hN3, ho3, hg3, hi3⟩
        · have HJC : Hid (Calls Try.prog 25 #[bp B, .int .u32 (b : Int), .int .u32 (a : Int)] w12 fun r w' => r = .returned (.int .i64 f) ∧ PutP B R 2 vi9 L w12 w') := by
            have hh := join_any B R 2 vi9 L b a w12 (HBK9.out.after HB12.out) HIV.out hl100
            rw [hJ] at hh
            exact hh
          clear hJ
          go_wp2_with fail
          refine HJC.out.mono ?_
          rintro r w13 ⟨rfl, vi13, hbk13, hst13⟩
          have HLK13 : Hid (Calls Try.prog 14 #[bp B, .slice A n c] w13 fun r w' => r = .returned (.bool true) ∧ Below w13.heap.size w13 w') := like_any B R 2 vi13 L A n c w13 hbk13 ((HD9.out.after HB12.out).stp hst13 hbk13.ctx) HIV.out (by have := HLN.out.2; omega)
          have HB13 : Hid (Below w.heap.size w w13) := by
            have q2 := HB9.out.trans (HB12.out.mono HB9.out.size)
            exact q2.trans (hst13.below.mono (by have := HRR.out; have := HB0.out.size; omega))
          clear hbk13 hst13 t1 t2
          go_wp2_with fail
          refine HLK13.out.mono ?_
          rintro r w14 ⟨rfl, hb14⟩
          have HB14 : Hid (Below w.heap.size w w14) := HB13.out.trans (hb14.mono HB13.out.size)
          clear hb14
          go_wp2_with fail
          refine (HAW.out w14).mono ?_
          rintro r w15 ⟨rfl, hb15⟩
          have HB15 : Hid (Below w.heap.size w w15) := HB14.out.trans (hb15.mono HB14.out.size)
          clear hb15
          go_wp2
          go_ret
          exact ⟨rfl, HB15.out⟩
        · have HJC : Hid (Calls Try.prog 25 #[bp B, .int .u32 (b : Int), .int .u32 (a : Int)] w12 fun r w' => r = .returned (.int .i64 0) ∧ PutP B R 2 vi9 L3 w12 w') := by
            have hh := join_any B R 2 vi9 L b a w12 (HBK9.out.after HB12.out) HIV.out hl100
            rw [hJ] at hh
            exact hh
          have HN3 := Lib.hid hN3
          have HO3 := Lib.hid ho3
          have HG3 := Lib.hid hg3
          have HI3 := Lib.hid hi3
          clear hJ hN3 ho3 hg3 hi3
          go_wp2_with fail
          refine HJC.out.mono ?_
          rintro r w13 ⟨rfl, vi13, hbk13, hst13⟩
          have HBK13 := Lib.hid hbk13
          have hl3 : L3.length ≤ 100 := by have := HN3.out.2; have := HLN.out.1; omega
          have HOB : Hid (∀ W, Below w13.heap.size w13 W → Calls Try.prog 15 #[bp B, .int .u32 (a : Int)] W fun r w' => r = .returned (.int .u32 (b : Int)) ∧ Below W.heap.size W w') := fun W hW => by
            have hh := of_any B R 2 vi13 L3 a W (HBK13.out.after hW) hl3 (fun e he => by have := (HN3.out.1.each e he).four; omega)
            rw [HO3.out] at hh
            exact hh
          have HJM : Hid (∀ W, Below w13.heap.size w13 W → Calls Try.prog 25 #[bp B, .int .u32 (b : Int), .int .u32 (a : Int)] W fun r w' => r = .returned (.int .i64 12) ∧ Below W.heap.size W w') := fun W hW => join_miss B R 2 vi13 L3 b a g3 W (HBK13.out.after hW) HN3.out.1 hl3 HG3.out HI3.out
          have hq13 := (hst13.below.block _ HXR.out).trans HQ12.out
          have HCE : Hid (∀ W, Below w13.heap.size w13 W → (fun W : World => W.cell? ⟨X, 1, none⟩ = some (.int .u32 (a : Int)) ∧ W.cell? ⟨X, 2, none⟩ = some (.int .u32 (b : Int))) W) := fun W hW => by
            have e := (hW.block _ (lt_of_block hq13)).trans hq13
            exact ⟨cell_of_row W _ 1 _ _ _ e, cell_of_row W _ 2 _ _ _ e⟩
          have HBS : Hid (Below w13.heap.size w13 w13) := Below.refl _ _
          have HB13 : Hid (Below w.heap.size w w13) := by
            have q2 := HB9.out.trans (HB12.out.mono HB9.out.size)
            exact q2.trans (hst13.below.mono (by have := HRR.out; have := HB0.out.size; omega))
          clear hbk13 hst13 t1 t2 hq13 hl3
          go_upto_region 19 with (fail)
          have HDz : Hid (Below w13.heap.size w13 w13.drew) := HBS.out.drew
          refine wp_region_held_drew (S := fun W : World => W.cell? ⟨X, 1, none⟩ = some (.int .u32 (a : Int)) ∧ W.cell? ⟨X, 2, none⟩ = some (.int .u32 (b : Int))) (by kernel_rfl) (HCE.out _ (HDz.out)) (fun hHeld => ?_)
          obtain ⟨Wz0, hW0⟩ : ∃ W0, W0 = w13.drew := ⟨_, rfl⟩
          rw [← hW0] at hHeld HDz ⊢
          clear hW0
          refine wpAnyH_take (i := 0) (oi := ?oi0z) (v := ?v0z) ?hi0z ?hs0z ?hf0z ?hr0z ?hQ0z ?hy0z ?hS0z ?h0z
          case hi0z => exact (by simp only [List.getElem?_toArray, List.getElem?_cons_zero]; rfl)
          case hs0z => kernel_rfl
          case hf0z => kernel_rfl
          case hr0z => kernel_rfl
          case hQ0z => exact fun _ _ _ h => h
          case hy0z =>
            refine Or.inl ⟨rfl, ?_⟩
            intro W hSw
            obtain ⟨y0, y1⟩ := hSw
            go_simp
            try with_reducible rfl
          case hS0z => assumption
          try simp only [Act.put, List.setIfInBounds_toArray, List.set_cons_zero, List.set_cons_succ]
          refine wpAnyH_take (i := 1) (oi := ?oi1z) (v := ?v1z) ?hi1z ?hs1z ?hf1z ?hr1z ?hQ1z ?hy1z ?hS1z ?h1z
          case hi1z => exact (by simp only [List.getElem?_toArray, List.getElem?_cons_succ, List.getElem?_cons_zero]; rfl)
          case hs1z => kernel_rfl
          case hf1z => kernel_rfl
          case hr1z => kernel_rfl
          case hQ1z => exact fun _ _ _ h => h
          case hy1z =>
            refine Or.inl ⟨rfl, ?_⟩
            intro W hSw
            obtain ⟨y0, y1⟩ := hSw
            go_simp
            try with_reducible rfl
          case hS1z => assumption
          try simp only [Act.put, List.setIfInBounds_toArray, List.set_cons_zero, List.set_cons_succ]
          refine wpAnyH_take (i := 2) (oi := ?oi2z) (v := ?v2z) ?hi2z ?hs2z ?hf2z ?hr2z ?hQ2z ?hy2z ?hS2z ?h2z
          case hi2z => exact (by simp only [List.getElem?_toArray, List.getElem?_cons_succ, List.getElem?_cons_zero]; rfl)
          case hs2z => kernel_rfl
          case hf2z => kernel_rfl
          case hr2z => kernel_rfl
          case hQ2z => exact fun _ _ _ h => h
          case hy2z =>
            refine Or.inl ⟨rfl, ?_⟩
            intro W hSw
            obtain ⟨y0, y1⟩ := hSw
            go_simp
            try with_reducible rfl
          case hS2z => assumption
          try simp only [Act.put, List.setIfInBounds_toArray, List.set_cons_zero, List.set_cons_succ]
          refine wpAnyH_take (i := 4) (oi := ?oi4z) (v := ?v4z) ?hi4z ?hs4z ?hf4z ?hr4z ?hQ4z ?hy4z ?hS4z ?h4z
          case hi4z => exact (by simp only [List.getElem?_toArray, List.getElem?_cons_succ, List.getElem?_cons_zero]; rfl)
          case hs4z => kernel_rfl
          case hf4z => kernel_rfl
          case hr4z => kernel_rfl
          case hQ4z => exact fun _ _ _ h => h
          case hy4z =>
            refine Or.inl ⟨rfl, ?_⟩
            intro W hSw
            obtain ⟨y0, y1⟩ := hSw
            go_simp
            try with_reducible rfl
          case hS4z => assumption
          try simp only [Act.put, List.setIfInBounds_toArray, List.set_cons_zero, List.set_cons_succ]
          refine wpAnyH_take (i := 5) (oi := ?oi5z) (v := ?v5z) ?hi5z ?hs5z ?hf5z ?hr5z ?hQ5z ?hy5z ?hS5z ?h5z
          case hi5z => exact (by simp only [List.getElem?_toArray, List.getElem?_cons_succ, List.getElem?_cons_zero]; rfl)
          case hs5z => kernel_rfl
          case hf5z => kernel_rfl
          case hr5z => kernel_rfl
          case hQ5z => exact fun _ _ _ h => h
          case hy5z =>
            refine Or.inl ⟨rfl, ?_⟩
            intro W hSw
            obtain ⟨y0, y1⟩ := hSw
            go_simp
            try with_reducible rfl
          case hS5z => assumption
          try simp only [Act.put, List.setIfInBounds_toArray, List.set_cons_zero, List.set_cons_succ]
          refine wpAnyH_ready (rs := [3]) (by kernel_rfl) (by simp) ?_
          refine AllReadyH.cons (o := _) rfl (fun K hK => ?_) AllReadyH.nil
          go_simp
          refine ((HOB.out Wz0 HDz.out)).mono ?_
          rintro r Wz1 ⟨rfl, hbq⟩
          have HBz1 := Lib.hid (HDz.out.trans (hbq.mono HDz.out.size))
          clear hbq
          refine hK.out _ _ (HCE.out _ (HBz1.out)) (fun hHeld => ?_)
          clear hK K
          try simp only [Act.put, List.setIfInBounds_toArray, List.set_cons_zero, List.set_cons_succ]
          refine wpAnyH_take (i := 6) (oi := ?oi6z) (v := (.bool true)) ?hi6z ?hs6z ?hf6z ?hr6z ?hQ6z ?hy6z ?hS6z ?h6z
          case hi6z => exact (by simp only [List.getElem?_toArray, List.getElem?_cons_succ, List.getElem?_cons_zero]; rfl)
          case hs6z => kernel_rfl
          case hf6z => kernel_rfl
          case hr6z => kernel_rfl
          case hQ6z => exact fun _ _ _ h => h
          case hy6z =>
            refine Or.inl ⟨rfl, ?_⟩
            intro W hSw
            obtain ⟨y0, y1⟩ := hSw
            go_simp
            try simp
          case hS6z => assumption
          try simp only [Act.put, List.setIfInBounds_toArray, List.set_cons_zero, List.set_cons_succ]
          refine wpAnyH_take (i := 7) (oi := ?oi7z) (v := ?v7z) ?hi7z ?hs7z ?hf7z ?hr7z ?hQ7z ?hy7z ?hS7z ?h7z
          case hi7z => exact (by simp only [List.getElem?_toArray, List.getElem?_cons_succ, List.getElem?_cons_zero]; rfl)
          case hs7z => kernel_rfl
          case hf7z => kernel_rfl
          case hr7z => kernel_rfl
          case hQ7z => exact fun _ _ _ h => h
          case hy7z =>
            refine Or.inl ⟨rfl, ?_⟩
            intro W hSw
            obtain ⟨y0, y1⟩ := hSw
            go_simp
            try with_reducible rfl
          case hS7z => assumption
          try simp only [Act.put, List.setIfInBounds_toArray, List.set_cons_zero, List.set_cons_succ]
          refine wpAnyH_take (i := 8) (oi := ?oi8z) (v := ?v8z) ?hi8z ?hs8z ?hf8z ?hr8z ?hQ8z ?hy8z ?hS8z ?h8z
          case hi8z => exact (by simp only [List.getElem?_toArray, List.getElem?_cons_succ, List.getElem?_cons_zero]; rfl)
          case hs8z => kernel_rfl
          case hf8z => kernel_rfl
          case hr8z => kernel_rfl
          case hQ8z => exact fun _ _ _ h => h
          case hy8z =>
            refine Or.inl ⟨rfl, ?_⟩
            intro W hSw
            obtain ⟨y0, y1⟩ := hSw
            go_simp
            try with_reducible rfl
          case hS8z => assumption
          try simp only [Act.put, List.setIfInBounds_toArray, List.set_cons_zero, List.set_cons_succ]
          refine wpAnyH_take (i := 9) (oi := ?oi9z) (v := ?v9z) ?hi9z ?hs9z ?hf9z ?hr9z ?hQ9z ?hy9z ?hS9z ?h9z
          case hi9z => exact (by simp only [List.getElem?_toArray, List.getElem?_cons_succ, List.getElem?_cons_zero]; rfl)
          case hs9z => kernel_rfl
          case hf9z => kernel_rfl
          case hr9z => kernel_rfl
          case hQ9z => exact fun _ _ _ h => h
          case hy9z =>
            refine Or.inl ⟨rfl, ?_⟩
            intro W hSw
            obtain ⟨y0, y1⟩ := hSw
            go_simp
            try with_reducible rfl
          case hS9z => assumption
          try simp only [Act.put, List.setIfInBounds_toArray, List.set_cons_zero, List.set_cons_succ]
          refine wpAnyH_take (i := 10) (oi := ?oi10z) (v := ?v10z) ?hi10z ?hs10z ?hf10z ?hr10z ?hQ10z ?hy10z ?hS10z ?h10z
          case hi10z => exact (by simp only [List.getElem?_toArray, List.getElem?_cons_succ, List.getElem?_cons_zero]; rfl)
          case hs10z => kernel_rfl
          case hf10z => kernel_rfl
          case hr10z => kernel_rfl
          case hQ10z => exact fun _ _ _ h => h
          case hy10z =>
            refine Or.inl ⟨rfl, ?_⟩
            intro W hSw
            obtain ⟨y0, y1⟩ := hSw
            go_simp
            try with_reducible rfl
          case hS10z => assumption
          try simp only [Act.put, List.setIfInBounds_toArray, List.set_cons_zero, List.set_cons_succ]
          refine wpAnyH_take (i := 11) (oi := ?oi11z) (v := ?v11z) ?hi11z ?hs11z ?hf11z ?hr11z ?hQ11z ?hy11z ?hS11z ?h11z
          case hi11z => exact (by simp only [List.getElem?_toArray, List.getElem?_cons_succ, List.getElem?_cons_zero]; rfl)
          case hs11z => kernel_rfl
          case hf11z => kernel_rfl
          case hr11z => kernel_rfl
          case hQ11z => exact fun _ _ _ h => h
          case hy11z =>
            refine Or.inl ⟨rfl, ?_⟩
            intro W hSw
            obtain ⟨y0, y1⟩ := hSw
            go_simp
            try with_reducible rfl
          case hS11z => assumption
          try simp only [Act.put, List.setIfInBounds_toArray, List.set_cons_zero, List.set_cons_succ]
          refine wpAnyH_take (i := 12) (oi := ?oi12z) (v := ?v12z) ?hi12z ?hs12z ?hf12z ?hr12z ?hQ12z ?hy12z ?hS12z ?h12z
          case hi12z => exact (by simp only [List.getElem?_toArray, List.getElem?_cons_succ, List.getElem?_cons_zero]; rfl)
          case hs12z => kernel_rfl
          case hf12z => kernel_rfl
          case hr12z => kernel_rfl
          case hQ12z => exact fun _ _ _ h => h
          case hy12z =>
            refine Or.inl ⟨rfl, ?_⟩
            intro W hSw
            obtain ⟨y0, y1⟩ := hSw
            go_simp
            try with_reducible rfl
          case hS12z => assumption
          try simp only [Act.put, List.setIfInBounds_toArray, List.set_cons_zero, List.set_cons_succ]
          refine wpAnyH_ready (rs := [13]) (by kernel_rfl) (by simp) ?_
          refine AllReadyH.cons (o := _) rfl (fun K hK => ?_) AllReadyH.nil
          go_simp
          refine ((HJM.out Wz1 HBz1.out)).mono ?_
          rintro r Wz2 ⟨rfl, hbq⟩
          have HBz2 := Lib.hid (HBz1.out.trans (hbq.mono HBz1.out.size))
          clear hbq
          refine hK.out _ _ (HCE.out _ (HBz2.out)) (fun hHeld => ?_)
          clear hK K
          try simp only [Act.put, List.setIfInBounds_toArray, List.set_cons_zero, List.set_cons_succ]
          refine wpAnyH_take (i := 14) (oi := ?oi14z) (v := (.bool true)) ?hi14z ?hs14z ?hf14z ?hr14z ?hQ14z ?hy14z ?hS14z ?h14z
          case hi14z => exact (by simp only [List.getElem?_toArray, List.getElem?_cons_succ, List.getElem?_cons_zero]; rfl)
          case hs14z => kernel_rfl
          case hf14z => kernel_rfl
          case hr14z => kernel_rfl
          case hQ14z => exact fun _ _ _ h => h
          case hy14z =>
            refine Or.inl ⟨rfl, ?_⟩
            intro W hSw
            obtain ⟨y0, y1⟩ := hSw
            go_simp
            try simp
          case hS14z => assumption
          try simp only [Act.put, List.setIfInBounds_toArray, List.set_cons_zero, List.set_cons_succ]
          refine wpAnyH_take (i := 15) (oi := ?oi15z) (v := ?v15z) ?hi15z ?hs15z ?hf15z ?hr15z ?hQ15z ?hy15z ?hS15z ?h15z
          case hi15z => exact (by simp only [List.getElem?_toArray, List.getElem?_cons_succ, List.getElem?_cons_zero]; rfl)
          case hs15z => kernel_rfl
          case hf15z => kernel_rfl
          case hr15z => kernel_rfl
          case hQ15z => exact fun _ _ _ h => h
          case hy15z =>
            refine Or.inl ⟨rfl, ?_⟩
            intro W hSw
            obtain ⟨y0, y1⟩ := hSw
            go_simp
            try with_reducible rfl
          case hS15z => assumption
          try simp only [Act.put, List.setIfInBounds_toArray, List.set_cons_zero, List.set_cons_succ]
          refine wpAnyH_take (i := 16) (oi := ?oi16z) (v := ?v16z) ?hi16z ?hs16z ?hf16z ?hr16z ?hQ16z ?hy16z ?hS16z ?h16z
          case hi16z => exact (by simp only [List.getElem?_toArray, List.getElem?_cons_succ, List.getElem?_cons_zero]; rfl)
          case hs16z => kernel_rfl
          case hf16z => kernel_rfl
          case hr16z => kernel_rfl
          case hQ16z => exact fun _ _ _ h => h
          case hy16z =>
            refine Or.inl ⟨rfl, ?_⟩
            intro W hSw
            obtain ⟨y0, y1⟩ := hSw
            go_simp
            try with_reducible rfl
          case hS16z => assumption
          try simp only [Act.put, List.setIfInBounds_toArray, List.set_cons_zero, List.set_cons_succ]
          refine wpAnyH_ready (rs := [17]) (by kernel_rfl) (by simp) ?_
          refine AllReadyH.cons (o := _) rfl (fun K hK => ?_) AllReadyH.nil
          go_simp
          refine ((HAW.out Wz2)).mono ?_
          rintro r Wz3 ⟨rfl, hbq⟩
          have HBz3 := Lib.hid (HBz2.out.trans (hbq.mono HBz2.out.size))
          clear hbq
          refine hK.out _ _ (HCE.out _ (HBz3.out)) (fun hHeld => ?_)
          clear hK K
          try simp only [Act.put, List.setIfInBounds_toArray, List.set_cons_zero, List.set_cons_succ]
          refine wpAnyH_take (i := 18) (oi := ?oi18z) (v := ?v18z) ?hi18z ?hs18z ?hf18z ?hr18z ?hQ18z ?hy18z ?hS18z ?h18z
          case hi18z => exact (by simp only [List.getElem?_toArray, List.getElem?_cons_succ, List.getElem?_cons_zero]; rfl)
          case hs18z => kernel_rfl
          case hf18z => kernel_rfl
          case hr18z => kernel_rfl
          case hQ18z => exact fun _ _ _ h => h
          case hy18z =>
            refine Or.inl ⟨rfl, ?_⟩
            intro W hSw
            obtain ⟨y0, y1⟩ := hSw
            go_simp
            try with_reducible rfl
          case hS18z => assumption
          try simp only [Act.put, List.setIfInBounds_toArray, List.set_cons_zero, List.set_cons_succ]
          refine wpAnyH_take (i := 19) (oi := ?oi19z) (v := ?v19z) ?hi19z ?hs19z ?hf19z ?hr19z ?hQ19z ?hy19z ?hS19z ?h19z
          case hi19z => exact (by simp only [List.getElem?_toArray, List.getElem?_cons_succ, List.getElem?_cons_zero]; rfl)
          case hs19z => kernel_rfl
          case hf19z => kernel_rfl
          case hr19z => kernel_rfl
          case hQ19z => exact fun _ _ _ h => h
          case hy19z =>
            refine Or.inl ⟨rfl, ?_⟩
            intro W hSw
            obtain ⟨y0, y1⟩ := hSw
            go_simp
            try with_reducible rfl
          case hS19z => assumption
          try simp only [Act.put, List.setIfInBounds_toArray, List.set_cons_zero, List.set_cons_succ]
          refine wpAnyH_done (by kernel_rfl) ?_ _
          have HB15 : Hid (Below w.heap.size w Wz3) := HB13.out.trans (HBz3.out.mono HB13.out.size)
          go_wp2
          go_ret
          exact ⟨rfl, HB15.out⟩
      · obtain ⟨x3, hx3⟩ : ∃ x, x = g3.id := ⟨_, rfl⟩
        rw [← hx3] at ho3 hg3
        have HLD : Hid (∀ W, Below wr.heap.size wr W → Calls Try.prog 26 #[bp B, .int .u32 (a : Int), .int .u32 (b : Int)] W fun r w' => r = .returned (.int .i64 0) ∧ PutP B R 2 vi L3 W w') := fun W hW => by
          have hh := lead_any B R 2 vi L a b W (HBK.out.after hW) HIV.out hl100
          rw [hS] at hh
          exact hh
        have HN3 := Lib.hid hN3
        have HO3 := Lib.hid ho3
        have HG3 := Lib.hid hg3
        have HLB := Lib.hid hld3
        have HS18 := Lib.hid hS18
        clear h1 h2 h3 h4 h5 hS hN3 ho3 hg3 hld3 hS18 hx3
        go_wp2_with fail
        refine HPA.out.mono ?_
        rintro r w8 ⟨A8, n8, c8, rfl, ho8, hb8⟩
        have hq8 := ((HBL.out.trans (hb8.mono HBL.out.size)).block _ (lt_of_block HQ0.out)).trans HQ0.out
        have HQ8 := Lib.hid hq8
        have HB8 := Lib.hid hb8
        have t1 := cell_of_row w8 X 1 _ _ _ hq8
        have t2 := cell_of_row w8 X 2 _ _ _ hq8
        simp at t1 t2
        clear ho8 hb8 hq8
        go_wp2_with fail
        refine (HLD.out w8 HB8.out).mono ?_
        rintro r w9 ⟨rfl, vi9, hbk9, hst9⟩
        have hq9 : w9.heap[X]? = some (.cells #[.int .u8 d1, .int .u32 (a : Int), .int .u32 (b : Int)] 28 (0, 0)) := (hst9.below.block _ HXR.out).trans HQ8.out
        have HQ9 := Lib.hid hq9
        have HBK9 := Lib.hid hbk9
        have HB9 : Hid (Below w.heap.size w w9) := by
          have q1 := HB0.out.trans (HBL.out.mono HB0.out.size)
          have q2 := q1.trans (HB8.out.mono q1.size)
          exact q2.trans (hst9.below.mono (by have := HRR.out; have := HB0.out.size; omega))
        have hl3 : L3.length ≤ 100 := by have := HN3.out.2; have := HLN.out.1; omega
        have HOB : Hid (Calls Try.prog 15 #[bp B, .int .u32 (a : Int)] w9 fun r w' => r = .returned (.int .u32 (x3 : Int)) ∧ Below w9.heap.size w9 w') := by
          have hh := of_any B R 2 vi9 L3 a w9 HBK9.out hl3 (fun e he => by have := (HN3.out.1.each e he).four; omega)
          rw [HO3.out] at hh
          exact hh
        have HPT : Hid (∀ W, Below w9.heap.size w9 W → Calls Try.prog 17 #[bp B, .int .u32 (x3 : Int)] W fun r w' => PtP R vi9 x3 g3 W r w') := fun W hW => party_some B R 2 vi9 L3 x3 g3 W (HBK9.out.after hW) hl3 HG3.out (HN3.out.1.each g3 (get_some HG3.out).1)
        have HLD2 : Hid (∀ W, Below w9.heap.size w9 W → Calls Try.prog 26 #[bp B, .int .u32 (a : Int), .int .u32 (b : Int)] W fun r w' => r = .returned (.int .i64 18) ∧ PutP B R 2 vi9 L3 W w') := fun W hW => by
          have hh := lead_any B R 2 vi9 L3 a b W (HBK9.out.after hW) HN3.out.1 hl3
          rw [HS18.out] at hh
          exact hh
        clear t1 t2
        have t1 := cell_of_row w9 X 1 _ _ _ hq9
        have t2 := cell_of_row w9 X 2 _ _ _ hq9
        simp at t1 t2
        clear hbk9 hst9 hq9 hl3
        go_wp2_with fail
        refine HOB.out.mono ?_
        rintro r w10 ⟨rfl, hb10⟩
        have HB10 := Lib.hid hb10
        clear hb10
        go_wp2_with fail
        refine (HPT.out w10 HB10.out).mono ?_
        rintro r w11 ⟨m, v, rfl, -, -, hb11⟩
        rw [HLB.out]
        obtain ⟨G, hG⟩ : ∃ G, G = w11.heap.size := ⟨_, rfl⟩
        obtain ⟨w12, hw12⟩ : ∃ W, W = w11.alloc (.cells #[.int .u32 (x3 : Int), .int .u32 (b : Int), .slice m.a m.n m.c, .slice v.a v.n v.c] 36) := ⟨_, rfl⟩
        have hq : w12.heap[G]? = some (.cells #[.int .u32 (x3 : Int), .int .u32 (b : Int), .slice m.a m.n m.c, .slice v.a v.n v.c] 36 (0, 0)) := by rw [hw12, hG]; exact heap_alloc_new w11 _
        have hb12 : Below w11.heap.size w11 w12 := by rw [hw12]; exact (Below.refl _ _).alloc (Nat.le_refl _) _
        have HB12 : Hid (Below w9.heap.size w9 w12) := HB10.out.trans ((hb11.trans (hb12.mono hb11.size)).mono HB10.out.size)
        have hqx := (HB12.out.block _ (lt_of_block HQ9.out)).trans HQ9.out
        have z1 := cell_of_row w12 G 1 _ _ _ hq
        simp at z1
        clear t1 t2
        have t1 := cell_of_row w12 X 1 _ _ _ hqx
        have t2 := cell_of_row w12 X 2 _ _ _ hqx
        simp at t1 t2
        have H12 := Lib.hid hw12
        have HGG := Lib.hid hG
        clear hw12 hG hq hb12 hb11 hqx
        go_upto_region 15 with (fail)
        rw [← H12.out, ← HGG.out]
        go_wp2_with fail
        refine (HLD2.out w12 HB12.out).mono ?_
        rintro r w13 ⟨rfl, vi13, hbk13, hst13⟩
        have HB13 : Hid (Below w.heap.size w w13) := by
          have q2 := HB9.out.trans (HB12.out.mono HB9.out.size)
          exact q2.trans (hst13.below.mono (by have := HRR.out; have := HB0.out.size; omega))
        clear hbk13 hst13 t1 t2 z1
        go_wp2_with fail
        refine (HAW.out w13).mono ?_
        rintro r w14 ⟨rfl, hb14⟩
        have HB14 : Hid (Below w.heap.size w w14) := HB13.out.trans (hb14.mono HB13.out.size)
        clear hb14
        go_wp2
        go_ret
        exact ⟨rfl, HB14.out⟩
end Go.Proofs.Ytjlpmdokmfmdiaa.P
