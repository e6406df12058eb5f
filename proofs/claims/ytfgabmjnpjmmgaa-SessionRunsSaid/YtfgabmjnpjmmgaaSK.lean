/- Session: SessionOne's walk. -/
import Derived.Test.YtfgabmjnpjmmgaaSJ
import Derived.Deep.CutBlock
namespace Go.Proofs.Ytfgabmjnpjmmgaa
open Go.RowKit Go.ChangeShapes
open Go.Joins
set_option maxRecDepth 20000
set_option linter.unusedVariables false
set_option linter.unusedSimpArgs false

/-- How things stand: a table for 20. -/
def OSt (w0 : World) (T : Nat) (wr : World) : Prop := ∃ L : List Lk, TbL wr w0.heap.size T 5 20 L ∧ Nd L ∧ L.length ≤ 20 ∧ Below w0.heap.size w0 wr
theorem ost_step {w0 W W' : World} {T : Nat} {L : List Lk} (h1 : TbL W' w0.heap.size T 5 20 L) (h2 : Nd L) (h3 : L.length ≤ 20) (h4 : Below w0.heap.size w0 W) (h5 : Below w0.heap.size W W') : OSt w0 T W' := ⟨L, h1, h2, h3, h4.trans h5⟩
theorem OSt.below {w0 W W' : World} {T : Nat} (h : OSt w0 T W) (hb : Below W.heap.size W W') : OSt w0 T W' := by
  obtain ⟨L, h1, h2, h3, h4⟩ := h
  exact ⟨L, h1.after hb, h2, h3, h4.trans (hb.mono h4.size)⟩
theorem OSt.drewN {w0 W : World} {T n : Nat} (h : OSt w0 T W) : OSt w0 T (W.drewN n) := by
  obtain ⟨L, h1, h2, h3, h4⟩ := h
  exact ⟨L, h1.after ⟨rfl, rfl, rfl, Nat.le_refl _, fun _ _ => rfl⟩, h2, h3, ⟨h4.os, h4.tape, h4.output, h4.size, h4.block⟩⟩
theorem delS_len (x : Nat) (L : List Lk) : (delS x L).length ≤ L.length := List.length_filter_le _ _
theorem setS_len (x : Nat) (z : Mk) (L : List Lk) : (setS x z L).length = L.length := by unfold setS; simp
theorem login_len (x pl : Nat) (now : Int) (L : List Lk) : (loginS x pl now L).2.2.length ≤ L.length := by
  unfold loginS
  split
  · exact Nat.le_refl _
  · split
    · exact Nat.le_refl _
    · split
      · exact Nat.le_refl _
      · simp only [setS_len]
        split
        · exact Nat.le_refl _
        · exact delS_len _ _
theorem logout_len (x : Nat) (L : List Lk) : (logoutS x L).2.2.length ≤ L.length := by
  unfold logoutS
  split
  · exact Nat.le_refl _
  · split
    · exact Nat.le_refl _
    · simp only [setS_len]; exact Nat.le_refl _
theorem close_len (x : Nat) (L : List Lk) : (closeS x L).2.2.length ≤ L.length := by
  unfold closeS
  split
  · exact Nat.le_refl _
  · exact delS_len _ _
theorem touch_len (x : Nat) (now : Int) (L : List Lk) : (touchS x now L).2.length ≤ L.length := by
  unfold touchS
  split
  · exact Nat.le_refl _
  · simp only [setS_len]; exact Nat.le_refl _
set_option maxHeartbeats 16000000 in
theorem one_walk (u : Option Addr × Nat) (l : List Ac) (w : World) (hA : As w w.heap.size u.1 l) (hl : l.length ≤ 9223372036854775807) (hR : ∀ e ∈ l, Ra e) :
    Calls Try.prog 4 #[.slice u.1 l.length u.2] w fun r w' => r = .returned (.bool true) ∧ Below w.heap.size w w' := by
  obtain ⟨A, c⟩ := u
  simp only at hA ⊢
  obtain ⟨n, hn⟩ : ∃ n, n = l.length := ⟨_, rfl⟩
  rw [← hn] at hl ⊢
  have HA := Lib.hid hA
  have HR := Lib.hid hR
  have HN := Lib.hid hn
  have HNW : Hid (Calls Try.prog 7 #[.int .i64 20, .int .i64 5] w fun r w' => ∃ T, r = .returned (.pointer (some ⟨T, 0, none⟩)) ∧ Tb w' w.heap.size T 5 20 [] [] ∧ Below w.heap.size w w') := tnew_any 20 5 w
  have HAW : Hid (∀ W, Calls Try.prog 19 #[] W fun r w' => r = .returned (.bool true) ∧ Below W.heap.size W w') := fun W => sawake W
  clear hA hR hn
  by_cases h60 : 60 < n
  · go_enter Try.func4, Try.ntmps4
    go_wp2
    go_ret
    exact ⟨rfl, Below.refl _ _⟩
  go_enter Try.func4, Try.ntmps4
  go_wp2_with fail
  refine HNW.out.mono ?_
  rintro r w1 ⟨T, rfl, h1, hb1⟩
  have HS : Hid (OSt w T w1) := ⟨[], h1, ⟨List.Pairwise.nil, by simp⟩, by simp, hb1⟩
  clear h1 hb1
  go_wp2_with fail
  go_loopw [4] (fun i wr => ∃ k : Nat, k ≤ n ∧ i = .int .i64 (k : Int) ∧ Hid (OSt w T wr)) (fun i _ => n - (intOf i).toNat)
  case atStart => exact ⟨0, Nat.zero_le _, rfl, HS.out⟩
  case round =>
    obtain ⟨k, hk, rfl, HM⟩ := hrel
    by_cases hlt : k < n
    · obtain ⟨⟨d, x, y, now⟩, hy⟩ : ∃ e, l[k]? = some e := ⟨l[k]'(by rw [← HN.out]; exact hlt), List.getElem?_eq_getElem _⟩
      obtain ⟨hd, hx, -, hnow⟩ := HR.out _ (List.mem_of_getElem? hy)
      simp only at hd hx hnow
      obtain ⟨b1, o1, rfl, hb1, ha1⟩ := HA.out (by have := HN.out; omega)
      obtain ⟨e0, e1, e2, e3⟩ := ha1 k _ hy
      obtain ⟨L, hT, hND, hLE, hBw⟩ := HM.out
      have d0 := (hBw.cell (p := ⟨b1, _, none⟩) hb1).trans e0
      have d1 := (hBw.cell (p := ⟨b1, _, none⟩) hb1).trans e1
      have d2 := (hBw.cell (p := ⟨b1, _, none⟩) hb1).trans e2
      have d3 := (hBw.cell (p := ⟨b1, _, none⟩) hb1).trans e3
      simp only at d0 d1 d2 d3
      obtain ⟨v1, hv1⟩ : ∃ v1, v1 = wr.alloc (.cells #[.int .u8 d, .int .u32 (x : Int), .int .u32 (y : Int), .int .i64 now] 30) := ⟨_, rfl⟩
      have hbv1 : Below wr.heap.size wr v1 := by rw [hv1]; exact (Below.refl _ _).alloc (Nat.le_refl _) _
      have hqv1 : v1.heap[wr.heap.size]? = some (.cells #[.int .u8 d, .int .u32 (x : Int), .int .u32 (y : Int), .int .i64 now] 30 (0, 0)) := by rw [hv1]; exact heap_alloc_new wr _
      have HV1 := Lib.hid hv1
      have HQV1 := Lib.hid hqv1
      have HT1 : Hid (TbL v1 w.heap.size T 5 20 L) := hT.after hbv1
      have HBW1 : Hid (Below w.heap.size w v1) := hBw.trans (hbv1.mono hBw.size)
      have HND := Lib.hid hND
      have HLE := Lib.hid hLE
      have HNOW := Lib.hid hnow
      have t0 := cell_of_row v1 wr.heap.size 0 _ _ _ hqv1
      have t1 := cell_of_row v1 wr.heap.size 1 _ _ _ hqv1
      have t2 := cell_of_row v1 wr.heap.size 2 _ _ _ hqv1
      have t3 := cell_of_row v1 wr.heap.size 3 _ _ _ hqv1
      simp at t0 t1 t2 t3
      clear hy ha1 hb1 e0 e1 e2 e3 hT hND hLE hBw hv1 hbv1 hqv1 hnow hx
      go_upto_region 8 with (fail)
      rw [← HV1.out]
      clear d0 d1 d2 d3
      go_upto_block 2 with (fail)
      go_cut [7] (fun _ wx => Hid (OSt w T wx))
      case first =>
        have hcs : d = 0 ∨ d = 1 ∨ d = 2 ∨ d = 3 ∨ d = 4 ∨ 5 ≤ d := by omega
        have HL9 : Hid (L.length < 900) := by have := HLE.out; simp only [Hid]; omega
        rcases hcs with rfl | rfl | rfl | rfl | rfl | h5
        · have HC := Lib.hid (sopen_act w.heap.size T 5 20 L x now v1 HT1.out HND.out HL9.out HBW1.out.size)
          go_wp2_with fail
          refine HC.out.mono ?_
          rintro r v2 ⟨rfl, ht2, hb2⟩
          have HO := Lib.hid (ost_step ht2 (nd_open HND.out HNOW.out) (by have := open_len (most := 20) (M := 20) (x := x) (now := now) (L := L) (by have := HLE.out; omega) (by decide); omega) HBW1.out hb2.below)
          clear ht2 hb2
          go_wp2_with fail
          go_meet
          exact HO.out
        · have HC := Lib.hid (login_act w.heap.size T 5 20 L x y now v1 HT1.out HND.out HL9.out HBW1.out.size)
          obtain ⟨L2, hL2⟩ : ∃ L2, L2 = (loginS x y now L).2.2 := ⟨_, rfl⟩
          obtain ⟨er, her⟩ : ∃ er, er = (loginS x y now L).1 := ⟨_, rfl⟩
          obtain ⟨hd, hhd⟩ : ∃ hd : Nat, hd = (loginS x y now L).2.1 := ⟨_, rfl⟩
          have hnd2 := nd_login (x := x) (pl := y) (now := now) HND.out HNOW.out
          have hln2 := login_len x y now L
          have hok := login_ok (x := x) (pl := y) (now := now) HND.out HNOW.out
          rw [← her, ← hL2] at hok
          rw [← hL2] at hnd2 hln2
          rw [← her, ← hL2, ← hhd] at HC
          have HOK := Lib.hid hok
          have HND2 := Lib.hid hnd2
          have HLE2 : Hid (L2.length ≤ 20) := Nat.le_trans hln2 HLE.out
          clear hok hnd2 hln2 her hL2 hhd
          go_wp2_with fail
          refine HC.out.mono ?_
          rintro r v2 ⟨rfl, ht2, hb2⟩
          have HT2 := Lib.hid ht2
          have HO := Lib.hid (ost_step ht2 HND2.out HLE2.out HBW1.out hb2.below)
          have HQA : Hid (v2.heap[wr.heap.size]? = some (.cells #[.int .u8 1, .int .u32 (x : Int), .int .u32 (y : Int), .int .i64 now] 30 (0, 0))) := hb2.keep _ _ 30 (by decide) (by decide) (by decide) HQV1.out
          clear hb2 ht2 t0 t1 t2 t3
          have HCAB : Hid (∀ W, Below v2.heap.size v2 W → W.cell? ⟨wr.heap.size, 0, none⟩ = some (.int .u8 1) ∧ W.cell? ⟨wr.heap.size, 1, none⟩ = some (.int .u32 (x : Int)) ∧ W.cell? ⟨wr.heap.size, 2, none⟩ = some (.int .u32 (y : Int)) ∧ W.cell? ⟨wr.heap.size, 3, none⟩ = some (.int .i64 now)) := fun W hW => by
            have e := (hW.block _ (lt_of_block HQA.out)).trans HQA.out
            exact ⟨cell_of_row W _ 0 _ _ _ e, cell_of_row W _ 1 _ _ _ e, cell_of_row W _ 2 _ _ _ e, cell_of_row W _ 3 _ _ _ e⟩
          have HBV2 : Hid (Below v2.heap.size v2 v2) := Below.refl _ _
          have HL92 : Hid (L2.length < 900) := by have := HLE2.out; simp only [Hid]; omega
          by_cases h0 : er = 0
          · subst h0
            obtain ⟨⟨k1, hk1⟩, hq1, hy0⟩ := HOK.out rfl
            have HCN : Hid (∀ W, Below v2.heap.size v2 W → Calls Try.prog 20 #[.pointer (some ⟨T, 0, none⟩), .int .u32 (y : Int)] W fun r w' => r = .returned (.int .u32 (x : Int)) ∧ Below W.heap.size W w') := fun W hW => by
              have := connL w.heap.size T 5 20 L2 (y : Int) W (HT2.out.after hW) HL92.out hy0
              rw [hq1] at this
              exact this
            have HPN : Hid (∀ W, Below v2.heap.size v2 W → Calls Try.prog 21 #[.pointer (some ⟨T, 0, none⟩), .int .u32 (x : Int)] W fun r w' => r = .returned (.int .u32 (y : Int)) ∧ Below W.heap.size W w') := fun W hW => player_at w.heap.size T 5 20 L2 k1 x (now, (y : Int)) W (HT2.out.after hW) HND2.out HL92.out hk1
            clear hk1 hq1 hy0
            go_upto_region 13 with (fail)
            have HD : Hid (Below v2.heap.size v2 v2.drew) := HBV2.out.drew
            refine wp_region_held_drew (S := fun W : World => W.cell? ⟨wr.heap.size, 0, none⟩ = some (.int .u8 1) ∧ W.cell? ⟨wr.heap.size, 1, none⟩ = some (.int .u32 (x : Int)) ∧ W.cell? ⟨wr.heap.size, 2, none⟩ = some (.int .u32 (y : Int)) ∧ W.cell? ⟨wr.heap.size, 3, none⟩ = some (.int .i64 now)) (by kernel_rfl) (HCAB.out _ (HD.out)) (fun hHeld => ?_)
            obtain ⟨W0, hW0⟩ : ∃ W0, W0 = v2.drew := ⟨_, rfl⟩
            rw [← hW0] at hHeld HD ⊢
            clear hW0
            refine wpAnyH_take (i := 0) (oi := ?oi0) (v := ?v0) ?hi0 ?hs0 ?hf0 ?hr0 ?hQ0 ?hy0 ?hS0 ?h0
            case hi0 => exact (by simp only [List.getElem?_toArray, List.getElem?_cons_zero]; rfl)
            case hs0 => kernel_rfl
            case hf0 => kernel_rfl
            case hr0 => kernel_rfl
            case hQ0 => exact fun _ _ _ h => h
            case hy0 =>
              refine Or.inl ⟨rfl, ?_⟩
              intro W hSw
              obtain ⟨y0, y1, y2, y3⟩ := hSw
              go_simp
              try with_reducible rfl
            case hS0 => assumption
            try simp only [Act.put, List.setIfInBounds_toArray, List.set_cons_zero, List.set_cons_succ]
            refine wpAnyH_take (i := 1) (oi := ?oi1) (v := ?v1) ?hi1 ?hs1 ?hf1 ?hr1 ?hQ1 ?hy1 ?hS1 ?h1
            case hi1 => exact (by simp only [List.getElem?_toArray, List.getElem?_cons_succ, List.getElem?_cons_zero]; rfl)
            case hs1 => kernel_rfl
            case hf1 => kernel_rfl
            case hr1 => kernel_rfl
            case hQ1 => exact fun _ _ _ h => h
            case hy1 =>
              refine Or.inl ⟨rfl, ?_⟩
              intro W hSw
              obtain ⟨y0, y1, y2, y3⟩ := hSw
              go_simp
              try with_reducible rfl
            case hS1 => assumption
            try simp only [Act.put, List.setIfInBounds_toArray, List.set_cons_zero, List.set_cons_succ]
            refine wpAnyH_take (i := 2) (oi := ?oi2) (v := ?v2) ?hi2 ?hs2 ?hf2 ?hr2 ?hQ2 ?hy2 ?hS2 ?h2
            case hi2 => exact (by simp only [List.getElem?_toArray, List.getElem?_cons_succ, List.getElem?_cons_zero]; rfl)
            case hs2 => kernel_rfl
            case hf2 => kernel_rfl
            case hr2 => kernel_rfl
            case hQ2 => exact fun _ _ _ h => h
            case hy2 =>
              refine Or.inl ⟨rfl, ?_⟩
              intro W hSw
              obtain ⟨y0, y1, y2, y3⟩ := hSw
              go_simp
              try with_reducible rfl
            case hS2 => assumption
            try simp only [Act.put, List.setIfInBounds_toArray, List.set_cons_zero, List.set_cons_succ]
            refine wpAnyH_take (i := 3) (oi := ?oi3) (v := ?v3) ?hi3 ?hs3 ?hf3 ?hr3 ?hQ3 ?hy3 ?hS3 ?h3
            case hi3 => exact (by simp only [List.getElem?_toArray, List.getElem?_cons_succ, List.getElem?_cons_zero]; rfl)
            case hs3 => kernel_rfl
            case hf3 => kernel_rfl
            case hr3 => kernel_rfl
            case hQ3 => exact fun _ _ _ h => h
            case hy3 =>
              refine Or.inl ⟨rfl, ?_⟩
              intro W hSw
              obtain ⟨y0, y1, y2, y3⟩ := hSw
              go_simp
              try with_reducible rfl
            case hS3 => assumption
            try simp only [Act.put, List.setIfInBounds_toArray, List.set_cons_zero, List.set_cons_succ]
            refine wpAnyH_take (i := 4) (oi := ?oi4) (v := ?v4) ?hi4 ?hs4 ?hf4 ?hr4 ?hQ4 ?hy4 ?hS4 ?h4
            case hi4 => exact (by simp only [List.getElem?_toArray, List.getElem?_cons_succ, List.getElem?_cons_zero]; rfl)
            case hs4 => kernel_rfl
            case hf4 => kernel_rfl
            case hr4 => kernel_rfl
            case hQ4 => exact fun _ _ _ h => h
            case hy4 =>
              refine Or.inl ⟨rfl, ?_⟩
              intro W hSw
              obtain ⟨y0, y1, y2, y3⟩ := hSw
              go_simp
              try with_reducible rfl
            case hS4 => assumption
            try simp only [Act.put, List.setIfInBounds_toArray, List.set_cons_zero, List.set_cons_succ]
            refine wpAnyH_take (i := 5) (oi := ?oi5) (v := ?v5) ?hi5 ?hs5 ?hf5 ?hr5 ?hQ5 ?hy5 ?hS5 ?h5
            case hi5 => exact (by simp only [List.getElem?_toArray, List.getElem?_cons_succ, List.getElem?_cons_zero]; rfl)
            case hs5 => kernel_rfl
            case hf5 => kernel_rfl
            case hr5 => kernel_rfl
            case hQ5 => exact fun _ _ _ h => h
            case hy5 =>
              refine Or.inl ⟨rfl, ?_⟩
              intro W hSw
              obtain ⟨y0, y1, y2, y3⟩ := hSw
              go_simp
              try with_reducible rfl
            case hS5 => assumption
            try simp only [Act.put, List.setIfInBounds_toArray, List.set_cons_zero, List.set_cons_succ]
            refine wpAnyH_take (i := 7) (oi := ?oi7) (v := ?v7) ?hi7 ?hs7 ?hf7 ?hr7 ?hQ7 ?hy7 ?hS7 ?h7
            case hi7 => exact (by simp only [List.getElem?_toArray, List.getElem?_cons_succ, List.getElem?_cons_zero]; rfl)
            case hs7 => kernel_rfl
            case hf7 => kernel_rfl
            case hr7 => kernel_rfl
            case hQ7 => exact fun _ _ _ h => h
            case hy7 =>
              refine Or.inl ⟨rfl, ?_⟩
              intro W hSw
              obtain ⟨y0, y1, y2, y3⟩ := hSw
              go_simp
              try with_reducible rfl
            case hS7 => assumption
            try simp only [Act.put, List.setIfInBounds_toArray, List.set_cons_zero, List.set_cons_succ]
            refine wpAnyH_take (i := 8) (oi := ?oi8) (v := ?v8) ?hi8 ?hs8 ?hf8 ?hr8 ?hQ8 ?hy8 ?hS8 ?h8
            case hi8 => exact (by simp only [List.getElem?_toArray, List.getElem?_cons_succ, List.getElem?_cons_zero]; rfl)
            case hs8 => kernel_rfl
            case hf8 => kernel_rfl
            case hr8 => kernel_rfl
            case hQ8 => exact fun _ _ _ h => h
            case hy8 =>
              refine Or.inl ⟨rfl, ?_⟩
              intro W hSw
              obtain ⟨y0, y1, y2, y3⟩ := hSw
              go_simp
              try with_reducible rfl
            case hS8 => assumption
            try simp only [Act.put, List.setIfInBounds_toArray, List.set_cons_zero, List.set_cons_succ]
            refine wpAnyH_ready (rs := [6]) (by kernel_rfl) (by simp) ?_
            refine AllReadyH.cons (o := _) rfl (fun K hK => ?_) AllReadyH.nil
            go_simp
            refine ((HCN.out W0 HD.out)).mono ?_
            rintro r W1 ⟨rfl, hbq⟩
            have HB1 := Lib.hid (HD.out.trans (hbq.mono HD.out.size))
            clear hbq
            refine hK.out _ _ (HCAB.out _ (HB1.out)) (fun hHeld => ?_)
            clear hK K
            try simp only [Act.put, List.setIfInBounds_toArray, List.set_cons_zero, List.set_cons_succ]
            refine wpAnyH_take (i := 9) (oi := ?oi9) (v := (.bool false)) ?hi9 ?hs9 ?hf9 ?hr9 ?hQ9 ?hy9 ?hS9 ?h9
            case hi9 => exact (by simp only [List.getElem?_toArray, List.getElem?_cons_succ, List.getElem?_cons_zero]; rfl)
            case hs9 => kernel_rfl
            case hf9 => kernel_rfl
            case hr9 => kernel_rfl
            case hQ9 => exact fun _ _ _ h => h
            case hy9 =>
              refine Or.inl ⟨rfl, ?_⟩
              intro W hSw
              obtain ⟨y0, y1, y2, y3⟩ := hSw
              go_simp
              try simp
            case hS9 => assumption
            try simp only [Act.put, List.setIfInBounds_toArray, List.set_cons_zero, List.set_cons_succ]
            refine wpAnyH_take (i := 10) (oi := ?oi10) (v := ?v10) ?hi10 ?hs10 ?hf10 ?hr10 ?hQ10 ?hy10 ?hS10 ?h10
            case hi10 => exact (by simp only [List.getElem?_toArray, List.getElem?_cons_succ, List.getElem?_cons_zero]; rfl)
            case hs10 => kernel_rfl
            case hf10 => kernel_rfl
            case hr10 => kernel_rfl
            case hQ10 => exact fun _ _ _ h => h
            case hy10 =>
              refine Or.inl ⟨rfl, ?_⟩
              intro W hSw
              obtain ⟨y0, y1, y2, y3⟩ := hSw
              go_simp
              try with_reducible rfl
            case hS10 => assumption
            try simp only [Act.put, List.setIfInBounds_toArray, List.set_cons_zero, List.set_cons_succ]
            refine wpAnyH_take (i := 11) (oi := ?oi11) (v := ?v11) ?hi11 ?hs11 ?hf11 ?hr11 ?hQ11 ?hy11 ?hS11 ?h11
            case hi11 => exact (by simp only [List.getElem?_toArray, List.getElem?_cons_succ, List.getElem?_cons_zero]; rfl)
            case hs11 => kernel_rfl
            case hf11 => kernel_rfl
            case hr11 => kernel_rfl
            case hQ11 => exact fun _ _ _ h => h
            case hy11 =>
              refine Or.inl ⟨rfl, ?_⟩
              intro W hSw
              obtain ⟨y0, y1, y2, y3⟩ := hSw
              go_simp
              try with_reducible rfl
            case hS11 => assumption
            try simp only [Act.put, List.setIfInBounds_toArray, List.set_cons_zero, List.set_cons_succ]
            refine wpAnyH_take (i := 12) (oi := ?oi12) (v := ?v12) ?hi12 ?hs12 ?hf12 ?hr12 ?hQ12 ?hy12 ?hS12 ?h12
            case hi12 => exact (by simp only [List.getElem?_toArray, List.getElem?_cons_succ, List.getElem?_cons_zero]; rfl)
            case hs12 => kernel_rfl
            case hf12 => kernel_rfl
            case hr12 => kernel_rfl
            case hQ12 => exact fun _ _ _ h => h
            case hy12 =>
              refine Or.inl ⟨rfl, ?_⟩
              intro W hSw
              obtain ⟨y0, y1, y2, y3⟩ := hSw
              go_simp
              try with_reducible rfl
            case hS12 => assumption
            try simp only [Act.put, List.setIfInBounds_toArray, List.set_cons_zero, List.set_cons_succ]
            refine wpAnyH_take (i := 13) (oi := ?oi13) (v := ?v13) ?hi13 ?hs13 ?hf13 ?hr13 ?hQ13 ?hy13 ?hS13 ?h13
            case hi13 => exact (by simp only [List.getElem?_toArray, List.getElem?_cons_succ, List.getElem?_cons_zero]; rfl)
            case hs13 => kernel_rfl
            case hf13 => kernel_rfl
            case hr13 => kernel_rfl
            case hQ13 => exact fun _ _ _ h => h
            case hy13 =>
              refine Or.inl ⟨rfl, ?_⟩
              intro W hSw
              obtain ⟨y0, y1, y2, y3⟩ := hSw
              go_simp
              try with_reducible rfl
            case hS13 => assumption
            try simp only [Act.put, List.setIfInBounds_toArray, List.set_cons_zero, List.set_cons_succ]
            refine wpAnyH_take (i := 15) (oi := ?oi15) (v := ?v15) ?hi15 ?hs15 ?hf15 ?hr15 ?hQ15 ?hy15 ?hS15 ?h15
            case hi15 => exact (by simp only [List.getElem?_toArray, List.getElem?_cons_succ, List.getElem?_cons_zero]; rfl)
            case hs15 => kernel_rfl
            case hf15 => kernel_rfl
            case hr15 => kernel_rfl
            case hQ15 => exact fun _ _ _ h => h
            case hy15 =>
              refine Or.inl ⟨rfl, ?_⟩
              intro W hSw
              obtain ⟨y0, y1, y2, y3⟩ := hSw
              go_simp
              try with_reducible rfl
            case hS15 => assumption
            try simp only [Act.put, List.setIfInBounds_toArray, List.set_cons_zero, List.set_cons_succ]
            refine wpAnyH_take (i := 16) (oi := ?oi16) (v := ?v16) ?hi16 ?hs16 ?hf16 ?hr16 ?hQ16 ?hy16 ?hS16 ?h16
            case hi16 => exact (by simp only [List.getElem?_toArray, List.getElem?_cons_succ, List.getElem?_cons_zero]; rfl)
            case hs16 => kernel_rfl
            case hf16 => kernel_rfl
            case hr16 => kernel_rfl
            case hQ16 => exact fun _ _ _ h => h
            case hy16 =>
              refine Or.inl ⟨rfl, ?_⟩
              intro W hSw
              obtain ⟨y0, y1, y2, y3⟩ := hSw
              go_simp
              try with_reducible rfl
            case hS16 => assumption
            try simp only [Act.put, List.setIfInBounds_toArray, List.set_cons_zero, List.set_cons_succ]
            refine wpAnyH_ready (rs := [14]) (by kernel_rfl) (by simp) ?_
            refine AllReadyH.cons (o := _) rfl (fun K hK => ?_) AllReadyH.nil
            go_simp
            refine ((HPN.out W1 HB1.out)).mono ?_
            rintro r W2 ⟨rfl, hbq⟩
            have HB2 := Lib.hid (HB1.out.trans (hbq.mono HB1.out.size))
            clear hbq
            refine hK.out _ _ (HCAB.out _ (HB2.out)) (fun hHeld => ?_)
            clear hK K
            try simp only [Act.put, List.setIfInBounds_toArray, List.set_cons_zero, List.set_cons_succ]
            refine wpAnyH_take (i := 17) (oi := ?oi17) (v := (.bool false)) ?hi17 ?hs17 ?hf17 ?hr17 ?hQ17 ?hy17 ?hS17 ?h17
            case hi17 => exact (by simp only [List.getElem?_toArray, List.getElem?_cons_succ, List.getElem?_cons_zero]; rfl)
            case hs17 => kernel_rfl
            case hf17 => kernel_rfl
            case hr17 => kernel_rfl
            case hQ17 => exact fun _ _ _ h => h
            case hy17 =>
              refine Or.inl ⟨rfl, ?_⟩
              intro W hSw
              obtain ⟨y0, y1, y2, y3⟩ := hSw
              go_simp
              try simp
            case hS17 => assumption
            try simp only [Act.put, List.setIfInBounds_toArray, List.set_cons_zero, List.set_cons_succ]
            refine wpAnyH_take (i := 18) (oi := ?oi18) (v := ?v18) ?hi18 ?hs18 ?hf18 ?hr18 ?hQ18 ?hy18 ?hS18 ?h18
            case hi18 => exact (by simp only [List.getElem?_toArray, List.getElem?_cons_succ, List.getElem?_cons_zero]; rfl)
            case hs18 => kernel_rfl
            case hf18 => kernel_rfl
            case hr18 => kernel_rfl
            case hQ18 => exact fun _ _ _ h => h
            case hy18 =>
              refine Or.inl ⟨rfl, ?_⟩
              intro W hSw
              obtain ⟨y0, y1, y2, y3⟩ := hSw
              go_simp
              try with_reducible rfl
            case hS18 => assumption
            try simp only [Act.put, List.setIfInBounds_toArray, List.set_cons_zero, List.set_cons_succ]
            refine wpAnyH_take (i := 19) (oi := ?oi19) (v := ?v19) ?hi19 ?hs19 ?hf19 ?hr19 ?hQ19 ?hy19 ?hS19 ?h19
            case hi19 => exact (by simp only [List.getElem?_toArray, List.getElem?_cons_succ, List.getElem?_cons_zero]; rfl)
            case hs19 => kernel_rfl
            case hf19 => kernel_rfl
            case hr19 => kernel_rfl
            case hQ19 => exact fun _ _ _ h => h
            case hy19 =>
              refine Or.inl ⟨rfl, ?_⟩
              intro W hSw
              obtain ⟨y0, y1, y2, y3⟩ := hSw
              go_simp
              try with_reducible rfl
            case hS19 => assumption
            try simp only [Act.put, List.setIfInBounds_toArray, List.set_cons_zero, List.set_cons_succ]
            refine wpAnyH_done (by kernel_rfl) ?_ _
            go_wp2_with fail
            go_meet
            exact OSt.below HO.out HB2.out
          · have hb0 : (er == 0) = false := by simp [h0]
            have HHT : Hid ((er == 0) = false) := hb0
            go_upto_region 13 with (fail)
            have HDe : Hid (Below v2.heap.size v2 v2.drew) := HBV2.out.drew
            refine wp_region_held_drew (S := fun W : World => W.cell? ⟨wr.heap.size, 0, none⟩ = some (.int .u8 1) ∧ W.cell? ⟨wr.heap.size, 1, none⟩ = some (.int .u32 (x : Int)) ∧ W.cell? ⟨wr.heap.size, 2, none⟩ = some (.int .u32 (y : Int)) ∧ W.cell? ⟨wr.heap.size, 3, none⟩ = some (.int .i64 now)) (by kernel_rfl) (HCAB.out _ (HDe.out)) (fun hHeld => ?_)
            obtain ⟨We0, hW0⟩ : ∃ W0, W0 = v2.drew := ⟨_, rfl⟩
            rw [← hW0] at hHeld HDe ⊢
            clear hW0
            refine wpAnyH_take (i := 0) (oi := ?oi0e) (v := ?v0e) ?hi0e ?hs0e ?hf0e ?hr0e ?hQ0e ?hy0e ?hS0e ?h0e
            case hi0e => exact (by simp only [List.getElem?_toArray, List.getElem?_cons_zero]; rfl)
            case hs0e => kernel_rfl
            case hf0e => kernel_rfl
            case hr0e => kernel_rfl
            case hQ0e => exact fun _ _ _ h => h
            case hy0e =>
              refine Or.inl ⟨rfl, ?_⟩
              intro W hSw
              obtain ⟨y0, y1, y2, y3⟩ := hSw
              go_simp
              try with_reducible rfl
            case hS0e => assumption
            try simp only [Act.put, List.setIfInBounds_toArray, List.set_cons_zero, List.set_cons_succ]
            refine wpAnyH_take (i := 1) (oi := ?oi1e) (v := (.bool false)) ?hi1e ?hs1e ?hf1e ?hr1e ?hQ1e ?hy1e ?hS1e ?h1e
            case hi1e => exact (by simp only [List.getElem?_toArray, List.getElem?_cons_succ, List.getElem?_cons_zero]; rfl)
            case hs1e => kernel_rfl
            case hf1e => kernel_rfl
            case hr1e => kernel_rfl
            case hQ1e => exact fun _ _ _ h => h
            case hy1e =>
              refine Or.inl ⟨rfl, ?_⟩
              intro W hSw
              obtain ⟨y0, y1, y2, y3⟩ := hSw
              have z0 := HHT.out
              go_simp
              try simp
            case hS1e => assumption
            try simp only [Act.put, List.setIfInBounds_toArray, List.set_cons_zero, List.set_cons_succ]
            refine wpAnyH_take (i := 2) (oi := ?oi2e) (v := ?v2e) ?hi2e ?hs2e ?hf2e ?hr2e ?hQ2e ?hy2e ?hS2e ?h2e
            case hi2e => exact (by simp only [List.getElem?_toArray, List.getElem?_cons_succ, List.getElem?_cons_zero]; rfl)
            case hs2e => kernel_rfl
            case hf2e => kernel_rfl
            case hr2e => kernel_rfl
            case hQ2e => exact fun _ _ _ h => h
            case hy2e =>
              refine Or.inl ⟨rfl, ?_⟩
              intro W hSw
              obtain ⟨y0, y1, y2, y3⟩ := hSw
              go_simp
              try with_reducible rfl
            case hS2e => assumption
            try simp only [Act.put, List.setIfInBounds_toArray, List.set_cons_zero, List.set_cons_succ]
            refine wpAnyH_take (i := 3) (oi := ?oi3e) (v := undef) ?hi3e ?hs3e ?hf3e ?hr3e ?hQ3e ?hy3e ?hS3e ?h3e
            case hi3e => exact (by simp only [List.getElem?_toArray, List.getElem?_cons_succ, List.getElem?_cons_zero]; rfl)
            case hs3e => kernel_rfl
            case hf3e => kernel_rfl
            case hr3e => kernel_rfl
            case hQ3e => exact fun _ _ _ h => h
            case hy3e =>
              exact Or.inr ⟨rfl, rfl⟩
            case hS3e => assumption
            try simp only [Act.put, List.setIfInBounds_toArray, List.set_cons_zero, List.set_cons_succ]
            refine wpAnyH_take (i := 4) (oi := ?oi4e) (v := undef) ?hi4e ?hs4e ?hf4e ?hr4e ?hQ4e ?hy4e ?hS4e ?h4e
            case hi4e => exact (by simp only [List.getElem?_toArray, List.getElem?_cons_succ, List.getElem?_cons_zero]; rfl)
            case hs4e => kernel_rfl
            case hf4e => kernel_rfl
            case hr4e => kernel_rfl
            case hQ4e => exact fun _ _ _ h => h
            case hy4e =>
              exact Or.inr ⟨rfl, rfl⟩
            case hS4e => assumption
            try simp only [Act.put, List.setIfInBounds_toArray, List.set_cons_zero, List.set_cons_succ]
            refine wpAnyH_take (i := 5) (oi := ?oi5e) (v := undef) ?hi5e ?hs5e ?hf5e ?hr5e ?hQ5e ?hy5e ?hS5e ?h5e
            case hi5e => exact (by simp only [List.getElem?_toArray, List.getElem?_cons_succ, List.getElem?_cons_zero]; rfl)
            case hs5e => kernel_rfl
            case hf5e => kernel_rfl
            case hr5e => kernel_rfl
            case hQ5e => exact fun _ _ _ h => h
            case hy5e =>
              exact Or.inr ⟨rfl, rfl⟩
            case hS5e => assumption
            try simp only [Act.put, List.setIfInBounds_toArray, List.set_cons_zero, List.set_cons_succ]
            refine wpAnyH_take (i := 6) (oi := ?oi6e) (v := undef) ?hi6e ?hs6e ?hf6e ?hr6e ?hQ6e ?hy6e ?hS6e ?h6e
            case hi6e => exact (by simp only [List.getElem?_toArray, List.getElem?_cons_succ, List.getElem?_cons_zero]; rfl)
            case hs6e => kernel_rfl
            case hf6e => kernel_rfl
            case hr6e => kernel_rfl
            case hQ6e => exact fun _ _ _ h => h
            case hy6e =>
              exact Or.inr ⟨rfl, rfl⟩
            case hS6e => assumption
            try simp only [Act.put, List.setIfInBounds_toArray, List.set_cons_zero, List.set_cons_succ]
            refine wpAnyH_take (i := 7) (oi := ?oi7e) (v := undef) ?hi7e ?hs7e ?hf7e ?hr7e ?hQ7e ?hy7e ?hS7e ?h7e
            case hi7e => exact (by simp only [List.getElem?_toArray, List.getElem?_cons_succ, List.getElem?_cons_zero]; rfl)
            case hs7e => kernel_rfl
            case hf7e => kernel_rfl
            case hr7e => kernel_rfl
            case hQ7e => exact fun _ _ _ h => h
            case hy7e =>
              exact Or.inr ⟨rfl, rfl⟩
            case hS7e => assumption
            try simp only [Act.put, List.setIfInBounds_toArray, List.set_cons_zero, List.set_cons_succ]
            refine wpAnyH_take (i := 8) (oi := ?oi8e) (v := undef) ?hi8e ?hs8e ?hf8e ?hr8e ?hQ8e ?hy8e ?hS8e ?h8e
            case hi8e => exact (by simp only [List.getElem?_toArray, List.getElem?_cons_succ, List.getElem?_cons_zero]; rfl)
            case hs8e => kernel_rfl
            case hf8e => kernel_rfl
            case hr8e => kernel_rfl
            case hQ8e => exact fun _ _ _ h => h
            case hy8e =>
              exact Or.inr ⟨rfl, rfl⟩
            case hS8e => assumption
            try simp only [Act.put, List.setIfInBounds_toArray, List.set_cons_zero, List.set_cons_succ]
            refine wpAnyH_take (i := 9) (oi := ?oi9e) (v := undef) ?hi9e ?hs9e ?hf9e ?hr9e ?hQ9e ?hy9e ?hS9e ?h9e
            case hi9e => exact (by simp only [List.getElem?_toArray, List.getElem?_cons_succ, List.getElem?_cons_zero]; rfl)
            case hs9e => kernel_rfl
            case hf9e => kernel_rfl
            case hr9e => kernel_rfl
            case hQ9e => exact fun _ _ _ h => h
            case hy9e =>
              exact Or.inr ⟨rfl, rfl⟩
            case hS9e => assumption
            try simp only [Act.put, List.setIfInBounds_toArray, List.set_cons_zero, List.set_cons_succ]
            refine wpAnyH_take (i := 10) (oi := ?oi10e) (v := undef) ?hi10e ?hs10e ?hf10e ?hr10e ?hQ10e ?hy10e ?hS10e ?h10e
            case hi10e => exact (by simp only [List.getElem?_toArray, List.getElem?_cons_succ, List.getElem?_cons_zero]; rfl)
            case hs10e => kernel_rfl
            case hf10e => kernel_rfl
            case hr10e => kernel_rfl
            case hQ10e => exact fun _ _ _ h => h
            case hy10e =>
              exact Or.inr ⟨rfl, rfl⟩
            case hS10e => assumption
            try simp only [Act.put, List.setIfInBounds_toArray, List.set_cons_zero, List.set_cons_succ]
            refine wpAnyH_take (i := 11) (oi := ?oi11e) (v := undef) ?hi11e ?hs11e ?hf11e ?hr11e ?hQ11e ?hy11e ?hS11e ?h11e
            case hi11e => exact (by simp only [List.getElem?_toArray, List.getElem?_cons_succ, List.getElem?_cons_zero]; rfl)
            case hs11e => kernel_rfl
            case hf11e => kernel_rfl
            case hr11e => kernel_rfl
            case hQ11e => exact fun _ _ _ h => h
            case hy11e =>
              exact Or.inr ⟨rfl, rfl⟩
            case hS11e => assumption
            try simp only [Act.put, List.setIfInBounds_toArray, List.set_cons_zero, List.set_cons_succ]
            refine wpAnyH_take (i := 12) (oi := ?oi12e) (v := undef) ?hi12e ?hs12e ?hf12e ?hr12e ?hQ12e ?hy12e ?hS12e ?h12e
            case hi12e => exact (by simp only [List.getElem?_toArray, List.getElem?_cons_succ, List.getElem?_cons_zero]; rfl)
            case hs12e => kernel_rfl
            case hf12e => kernel_rfl
            case hr12e => kernel_rfl
            case hQ12e => exact fun _ _ _ h => h
            case hy12e =>
              exact Or.inr ⟨rfl, rfl⟩
            case hS12e => assumption
            try simp only [Act.put, List.setIfInBounds_toArray, List.set_cons_zero, List.set_cons_succ]
            refine wpAnyH_take (i := 13) (oi := ?oi13e) (v := undef) ?hi13e ?hs13e ?hf13e ?hr13e ?hQ13e ?hy13e ?hS13e ?h13e
            case hi13e => exact (by simp only [List.getElem?_toArray, List.getElem?_cons_succ, List.getElem?_cons_zero]; rfl)
            case hs13e => kernel_rfl
            case hf13e => kernel_rfl
            case hr13e => kernel_rfl
            case hQ13e => exact fun _ _ _ h => h
            case hy13e =>
              exact Or.inr ⟨rfl, rfl⟩
            case hS13e => assumption
            try simp only [Act.put, List.setIfInBounds_toArray, List.set_cons_zero, List.set_cons_succ]
            refine wpAnyH_take (i := 14) (oi := ?oi14e) (v := undef) ?hi14e ?hs14e ?hf14e ?hr14e ?hQ14e ?hy14e ?hS14e ?h14e
            case hi14e => exact (by simp only [List.getElem?_toArray, List.getElem?_cons_succ, List.getElem?_cons_zero]; rfl)
            case hs14e => kernel_rfl
            case hf14e => kernel_rfl
            case hr14e => kernel_rfl
            case hQ14e => exact fun _ _ _ h => h
            case hy14e =>
              exact Or.inr ⟨rfl, rfl⟩
            case hS14e => assumption
            try simp only [Act.put, List.setIfInBounds_toArray, List.set_cons_zero, List.set_cons_succ]
            refine wpAnyH_take (i := 15) (oi := ?oi15e) (v := undef) ?hi15e ?hs15e ?hf15e ?hr15e ?hQ15e ?hy15e ?hS15e ?h15e
            case hi15e => exact (by simp only [List.getElem?_toArray, List.getElem?_cons_succ, List.getElem?_cons_zero]; rfl)
            case hs15e => kernel_rfl
            case hf15e => kernel_rfl
            case hr15e => kernel_rfl
            case hQ15e => exact fun _ _ _ h => h
            case hy15e =>
              exact Or.inr ⟨rfl, rfl⟩
            case hS15e => assumption
            try simp only [Act.put, List.setIfInBounds_toArray, List.set_cons_zero, List.set_cons_succ]
            refine wpAnyH_take (i := 16) (oi := ?oi16e) (v := undef) ?hi16e ?hs16e ?hf16e ?hr16e ?hQ16e ?hy16e ?hS16e ?h16e
            case hi16e => exact (by simp only [List.getElem?_toArray, List.getElem?_cons_succ, List.getElem?_cons_zero]; rfl)
            case hs16e => kernel_rfl
            case hf16e => kernel_rfl
            case hr16e => kernel_rfl
            case hQ16e => exact fun _ _ _ h => h
            case hy16e =>
              exact Or.inr ⟨rfl, rfl⟩
            case hS16e => assumption
            try simp only [Act.put, List.setIfInBounds_toArray, List.set_cons_zero, List.set_cons_succ]
            refine wpAnyH_take (i := 17) (oi := ?oi17e) (v := undef) ?hi17e ?hs17e ?hf17e ?hr17e ?hQ17e ?hy17e ?hS17e ?h17e
            case hi17e => exact (by simp only [List.getElem?_toArray, List.getElem?_cons_succ, List.getElem?_cons_zero]; rfl)
            case hs17e => kernel_rfl
            case hf17e => kernel_rfl
            case hr17e => kernel_rfl
            case hQ17e => exact fun _ _ _ h => h
            case hy17e =>
              exact Or.inr ⟨rfl, rfl⟩
            case hS17e => assumption
            try simp only [Act.put, List.setIfInBounds_toArray, List.set_cons_zero, List.set_cons_succ]
            refine wpAnyH_take (i := 18) (oi := ?oi18e) (v := undef) ?hi18e ?hs18e ?hf18e ?hr18e ?hQ18e ?hy18e ?hS18e ?h18e
            case hi18e => exact (by simp only [List.getElem?_toArray, List.getElem?_cons_succ, List.getElem?_cons_zero]; rfl)
            case hs18e => kernel_rfl
            case hf18e => kernel_rfl
            case hr18e => kernel_rfl
            case hQ18e => exact fun _ _ _ h => h
            case hy18e =>
              exact Or.inr ⟨rfl, rfl⟩
            case hS18e => assumption
            try simp only [Act.put, List.setIfInBounds_toArray, List.set_cons_zero, List.set_cons_succ]
            refine wpAnyH_take (i := 19) (oi := ?oi19e) (v := ?v19e) ?hi19e ?hs19e ?hf19e ?hr19e ?hQ19e ?hy19e ?hS19e ?h19e
            case hi19e => exact (by simp only [List.getElem?_toArray, List.getElem?_cons_succ, List.getElem?_cons_zero]; rfl)
            case hs19e => kernel_rfl
            case hf19e => kernel_rfl
            case hr19e => kernel_rfl
            case hQ19e => exact fun _ _ _ h => h
            case hy19e =>
              refine Or.inl ⟨rfl, ?_⟩
              intro W hSw
              obtain ⟨y0, y1, y2, y3⟩ := hSw
              go_simp
              try with_reducible rfl
            case hS19e => assumption
            try simp only [Act.put, List.setIfInBounds_toArray, List.set_cons_zero, List.set_cons_succ]
            refine wpAnyH_done (by kernel_rfl) ?_ _
            go_wp2_with fail
            go_meet
            exact OSt.below HO.out HDe.out
        · have HC := Lib.hid (logout_act w.heap.size T 5 20 L x v1 HT1.out HND.out HL9.out HBW1.out.size)
          go_wp2_with fail
          refine HC.out.mono ?_
          rintro r v2 ⟨rfl, ht2, hb2⟩
          have HO := Lib.hid (ost_step ht2 (nd_logout HND.out) (Nat.le_trans (logout_len x L) HLE.out) HBW1.out hb2.below)
          clear ht2 hb2
          go_wp2_with fail
          go_meet
          exact HO.out
        · have HC := Lib.hid (close_act w.heap.size T 5 20 L x v1 HT1.out HND.out HL9.out HBW1.out.size)
          go_wp2_with fail
          refine HC.out.mono ?_
          rintro r v2 ⟨rfl, ht2, hb2⟩
          have HO := Lib.hid (ost_step ht2 (nd_close HND.out) (Nat.le_trans (close_len x L) HLE.out) HBW1.out hb2.below)
          clear ht2 hb2
          go_wp2_with fail
          go_meet
          exact HO.out
        · have HC := Lib.hid (touch_act w.heap.size T 5 20 L x now v1 HT1.out HND.out HL9.out HBW1.out.size)
          go_wp2_with fail
          refine HC.out.mono ?_
          rintro r v2 ⟨rfl, ht2, hb2⟩
          have HO := Lib.hid (ost_step ht2 (nd_touch HND.out HNOW.out) (Nat.le_trans (touch_len x now L) HLE.out) HBW1.out hb2.below)
          clear ht2 hb2
          go_wp2_with fail
          go_meet
          exact HO.out
        · have HO : Hid (OSt w T v1) := ⟨L, HT1.out, HND.out, HLE.out, HBW1.out⟩
          have n0 : ¬ d = 0 := by omega
          have n1 : ¬ d = 1 := by omega
          have n2 : ¬ d = 2 := by omega
          have n3 : ¬ d = 3 := by omega
          have n4 : ¬ d = 4 := by omega
          go_wp2_with fail
          go_meet
          exact HO.out
      case rest =>
        obtain ⟨L2, hT2, hND2, hLE2, hB2⟩ := hcut.out
        clear hcut
        obtain ⟨ko, hko⟩ : ∃ ko, ko = k := ⟨_, rfl⟩
        subst hko
        have HT2 := Lib.hid hT2
        have HND2 := Lib.hid hND2
        have HB2 := Lib.hid hB2
        have HPL : Hid (Calls Try.prog 22 #[.pointer (some ⟨T, 0, none⟩)] wc fun r w' => ∃ v', r = .returned v' ∧ S32 w' v' (sortedN (playersQ L2)) ∧ Below wc.heap.size wc w') :=
          (players_any w.heap.size T 5 20 _ _ wc hT2 (by simp; omega) (fun y hy => by
            obtain ⟨e, he, rfl⟩ := List.mem_map.1 hy
            have := (hND2.2 e he).2.2
            omega)).mono fun r w' ⟨v', e, ho, hb⟩ => ⟨v', e, S32.of_own (by rw [sortedN_len]; rw [zipL] at ho; exact ho), hb⟩
        have HCO : Hid (∀ W, Below wc.heap.size wc W → Calls Try.prog 23 #[.pointer (some ⟨T, 0, none⟩)] W fun r w' => ∃ v', r = .returned v' ∧ S32 w' v' (L2.map Prod.fst) ∧ Below W.heap.size W w') := fun W hW =>
          (conns_any w.heap.size T 5 20 _ _ W (hT2.after hW) (by simp; omega)).mono fun r w' ⟨v', e, ho, hb⟩ => ⟨v', e, S32.of_own ho, hb⟩
        obtain ⟨np, hnp⟩ : ∃ np, np = (sortedN (playersQ L2)).length := ⟨_, rfl⟩
        obtain ⟨nc, hnc⟩ : ∃ nc, nc = (L2.map Prod.fst).length := ⟨_, rfl⟩
        have hnp2 : np = cntQ L2 := by rw [hnp, sortedN_len, cntQ_players]
        have hncl : nc = L2.length := by rw [hnc]; simp
        have h20 : nc ≤ 20 := by omega
        have hpc : np ≤ nc := by rw [hnp2, hncl]; exact cntQ_le L2
        have hdc1 : decide ((20 : Int) < (nc : Int)) = false := by simp; omega
        have hdc2 : decide (nc < np) = false := by simp; omega
        have HNP := Lib.hid hnp
        have HNC := Lib.hid hnc
        have HNP2 := Lib.hid hnp2
        have HNCL := Lib.hid hncl
        have HL9 : Hid (L2.length < 900) := by simp only [Hid]; omega
        clear hT2 hND2 hLE2 hB2 hnp hnc hnp2 hncl
        go_wp2_with fail
        refine HPL.out.mono ?_
        rintro r u1 ⟨vp, rfl, hsp, hbp⟩
        obtain ⟨Ap, cp, rfl, hsp2⟩ := id hsp
        rw [← HNP.out]
        have HSP : Hid (0 < np → ∃ b o, Ap = some ⟨b, o, none⟩ ∧ b < u1.heap.size ∧ At32 u1 b o (sortedN (playersQ L2))) := by simp only [Hid]; rw [HNP.out]; exact hsp2
        have HBP := Lib.hid hbp
        clear hsp hsp2 hbp
        go_wp2_with fail
        refine (HCO.out u1 HBP.out).mono ?_
        rintro r u2 ⟨vc, rfl, hsc, hbc⟩
        obtain ⟨Ac_, cc, rfl, hsc2⟩ := id hsc
        rw [← HNC.out]
        have HSC : Hid (0 < nc → ∃ b o, Ac_ = some ⟨b, o, none⟩ ∧ b < u2.heap.size ∧ At32 u2 b o (L2.map Prod.fst)) := by simp only [Hid]; rw [HNC.out]; exact hsc2
        have HSP2 : Hid (0 < np → ∃ b o, Ap = some ⟨b, o, none⟩ ∧ b < u2.heap.size ∧ At32 u2 b o (sortedN (playersQ L2))) := fun h => by
          obtain ⟨b, o, e1, e2, e3⟩ := HSP.out h
          exact ⟨b, o, e1, Nat.lt_of_lt_of_le e2 hbc.size, fun j x hj => (hbc.cell (p := ⟨b, _, none⟩) e2).trans (e3 j x hj)⟩
        have HBC : Hid (Below wc.heap.size wc u2) := HBP.out.trans (hbc.mono HBP.out.size)
        clear hsc hsc2 hbc
        have HPA : Hid (∀ W, Below u2.heap.size u2 W → ∀ (j : Nat) e, L2[j]? = some e → Calls Try.prog 21 #[.pointer (some ⟨T, 0, none⟩), .int .u32 (e.1 : Int)] W fun r w' => r = .returned (.int .u32 e.2.2) ∧ Below W.heap.size W w') := fun W hW j e he => player_at w.heap.size T 5 20 L2 j e.1 e.2 W (HT2.out.after (HBC.out.trans (hW.mono HBC.out.size))) HND2.out HL9.out he
        have HCA2 : Hid (∀ W, Below u2.heap.size u2 W → ∀ p : Int, ¬ p = 0 → Calls Try.prog 20 #[.pointer (some ⟨T, 0, none⟩), .int .u32 p] W fun r w' => r = .returned (.int .u32 (connQ p L2 : Nat)) ∧ Below W.heap.size W w') := fun W hW p hp => connL w.heap.size T 5 20 L2 p W (HT2.out.after (HBC.out.trans (hW.mono HBC.out.size))) HL9.out hp
        have HBU : Hid (Below u2.heap.size u2 u2) := Below.refl _ _
        go_wp2_with fail
        go_loopw [10, 11] (fun m i wq => ∃ (j c : Nat), j ≤ nc ∧ c ≤ j ∧ i = .int .i64 (j : Int) ∧ m = .int .i64 (c : Int) ∧ Hid (c = cntQ (L2.take j)) ∧ Hid (Below u2.heap.size u2 wq)) (fun _ i _ => nc - (intOf i).toNat)
        case atStart => exact ⟨0, 0, by omega, by omega, rfl, rfl, rfl, HBU.out⟩
        case round =>
          obtain ⟨j, cq, hj, hcj, rfl, rfl, HC1, HV⟩ := hrel
          by_cases hjn : j < nc
          · obtain ⟨e, he⟩ : ∃ e, L2[j]? = some e := ⟨L2[j]'(by rw [← HNCL.out]; exact hjn), List.getElem?_eq_getElem _⟩
            obtain ⟨b2, o2, rfl, hb2, hat2⟩ := HSC.out (by omega)
            have q0 := (HV.out.cell (p := ⟨b2, _, none⟩) hb2).trans (hat2 j e.1 (by rw [List.getElem?_map, he]; rfl))
            have HCALL := Lib.hid (HPA.out _ HV.out j e he)
            have HSN := Lib.hid (cntQ_snoc he)
            obtain ⟨xe, ze, pe⟩ := e
            simp only at q0
            clear he hb2 hat2
            go_wp2_with fail
            refine HCALL.out.mono ?_
            rintro r wq2 ⟨rfl, hbq⟩
            have HV2 := Lib.hid (HV.out.trans (hbq.mono HV.out.size))
            clear hbq q0
            by_cases hp0 : pe = 0
            · subst hp0
              go_wp2_with fail
              go_roundw
              case rel => first | exact ⟨j + 1, cq, by omega, by omega, by go_num, rfl, by simp only [Hid]; rw [HSN.out, ← HC1.out]; rfl, HV2.out⟩ | ((repeat apply Exists.intro); exact ⟨⟨j + 1, cq, by omega, by omega, by go_num, rfl, by simp only [Hid]; rw [HSN.out, ← HC1.out]; rfl, HV2.out⟩, rfl⟩)
              case measure => simp [intOf] <;> omega
            · go_wp2_with fail
              go_roundw
              case rel => first | exact ⟨j + 1, cq + 1, by omega, by omega, by go_num, by go_num, by simp only [Hid]; rw [HSN.out, ← HC1.out]; simp [hp0], HV2.out⟩ | ((repeat apply Exists.intro); exact ⟨⟨j + 1, cq + 1, by omega, by omega, by go_num, by go_num, by simp only [Hid]; rw [HSN.out, ← HC1.out]; simp [hp0], HV2.out⟩, rfl⟩)
              case measure => simp [intOf] <;> omega
          · obtain rfl : j = nc := by omega
            have hcn : cq = np := by rw [HC1.out, HNP2.out, List.take_of_length_le (by rw [← HNCL.out]; exact Nat.le_refl _)]
            subst hcn
            go_wp2_with fail
            go_loopw [12] (fun i wz => ∃ k : Nat, k ≤ cq ∧ i = .int .i64 (k : Int) ∧ Hid (Below u2.heap.size u2 wz)) (fun i _ => cq - (intOf i).toNat)
            case atStart => exact ⟨0, Nat.zero_le _, rfl, HV.out⟩
            case round =>
              obtain ⟨k2, hk2, rfl, HV3⟩ := hrel
              obtain ⟨k, hkk⟩ : ∃ k, k = k2 := ⟨_, rfl⟩
              subst hkk
              by_cases hkn : k < cq
              · obtain ⟨pk, hpk⟩ : ∃ p, (sortedN (playersQ L2))[k]? = some p := ⟨(sortedN (playersQ L2))[k]'(by rw [← HNP.out]; exact hkn), List.getElem?_eq_getElem _⟩
                obtain ⟨hpk0, qk, ek, hqk, hek, hcq⟩ := playersQ_at HND2.out ((sortedN_mem _ _).1 (List.mem_of_getElem? hpk))
                obtain ⟨bp, op, rfl, hbp, hatp⟩ := HSP2.out (by omega)
                obtain ⟨X, hX⟩ : ∃ X, X = ek.1 := ⟨_, rfl⟩
                have HC33 : Hid (∀ W, Below wr.heap.size wr W → Calls Try.prog 20 #[.pointer (some ⟨T, 0, none⟩), .int .u32 (pk : Int)] W fun r w' => r = .returned (.int .u32 (X : Int)) ∧ Below W.heap.size W w') := fun W hW => by
                  have := HCA2.out W (HV3.out.trans (hW.mono HV3.out.size)) (pk : Int) hpk0
                  rw [hcq, ← hX] at this
                  exact this
                have HP33 : Hid (∀ W, Below wr.heap.size wr W → Calls Try.prog 21 #[.pointer (some ⟨T, 0, none⟩), .int .u32 (X : Int)] W fun r w' => r = .returned (.int .u32 (pk : Int)) ∧ Below W.heap.size W w') := fun W hW => by
                  have := HPA.out W (HV3.out.trans (hW.mono HV3.out.size)) qk ek hqk
                  rw [hek, ← hX] at this
                  exact this
                have HBS2 : Hid (Below wr.heap.size wr wr) := Below.refl _ _
                have HCK : Hid (∀ (j x : Nat), (sortedN (playersQ L2))[j]? = some x → ∀ W, Below wr.heap.size wr W → W.cell? ⟨bp, op + j, none⟩ = some (.int .u32 (x : Int))) := fun j x hj W hW =>
                  ((HV3.out.trans (hW.mono HV3.out.size)).cell (p := ⟨bp, _, none⟩) hbp).trans (hatp j x hj)
                by_cases hk0 : k = 0
                · have HKZ : Hid (¬ 0 < (k : Int)) := by simp only [Hid]; omega
                  have HS33 : Hid (∀ W, Below wr.heap.size wr W → W.cell? ⟨bp, op + k, none⟩ = some (.int .u32 (pk : Int)) ∧ W.cell? ⟨bp, op + k, none⟩ = some (.int .u32 (pk : Int))) := fun W hW => ⟨HCK.out k pk hpk W hW, HCK.out k pk hpk W hW⟩
                  clear hpk0 hqk hek hcq hX hbp hatp hpk hk0
                  go_upto_region 33 with (fail)
                  have HDa : Hid (Below wr.heap.size wr wr.drew) := HBS2.out.drew
                  refine wp_region_held_drew (S := fun W : World => W.cell? ⟨bp, op + k, none⟩ = some (.int .u32 (pk : Int)) ∧ W.cell? ⟨bp, op + k, none⟩ = some (.int .u32 (pk : Int))) (by kernel_rfl) (HS33.out _ (HDa.out)) (fun hHeld => ?_)
                  obtain ⟨Wa0, hW0⟩ : ∃ W0, W0 = wr.drew := ⟨_, rfl⟩
                  rw [← hW0] at hHeld HDa ⊢
                  clear hW0
                  refine wpAnyH_take (i := 0) (oi := ?oi0a) (v := ?v0a) ?hi0a ?hs0a ?hf0a ?hr0a ?hQ0a ?hy0a ?hS0a ?h0a
                  case hi0a => exact (by simp only [List.getElem?_toArray, List.getElem?_cons_zero]; rfl)
                  case hs0a => kernel_rfl
                  case hf0a => kernel_rfl
                  case hr0a => kernel_rfl
                  case hQ0a => exact fun _ _ _ h => h
                  case hy0a =>
                    refine Or.inl ⟨rfl, ?_⟩
                    intro W hSw
                    obtain ⟨y0, y1⟩ := hSw
                    go_simp
                    try with_reducible rfl
                  case hS0a => assumption
                  try simp only [Act.put, List.setIfInBounds_toArray, List.set_cons_zero, List.set_cons_succ]
                  refine wpAnyH_take (i := 1) (oi := ?oi1a) (v := ?v1a) ?hi1a ?hs1a ?hf1a ?hr1a ?hQ1a ?hy1a ?hS1a ?h1a
                  case hi1a => exact (by simp only [List.getElem?_toArray, List.getElem?_cons_succ, List.getElem?_cons_zero]; rfl)
                  case hs1a => kernel_rfl
                  case hf1a => kernel_rfl
                  case hr1a => kernel_rfl
                  case hQ1a => exact fun _ _ _ h => h
                  case hy1a =>
                    refine Or.inl ⟨rfl, ?_⟩
                    intro W hSw
                    obtain ⟨y0, y1⟩ := hSw
                    go_simp
                    try with_reducible rfl
                  case hS1a => assumption
                  try simp only [Act.put, List.setIfInBounds_toArray, List.set_cons_zero, List.set_cons_succ]
                  refine wpAnyH_take (i := 2) (oi := ?oi2a) (v := ?v2a) ?hi2a ?hs2a ?hf2a ?hr2a ?hQ2a ?hy2a ?hS2a ?h2a
                  case hi2a => exact (by simp only [List.getElem?_toArray, List.getElem?_cons_succ, List.getElem?_cons_zero]; rfl)
                  case hs2a => kernel_rfl
                  case hf2a => kernel_rfl
                  case hr2a => kernel_rfl
                  case hQ2a => exact fun _ _ _ h => h
                  case hy2a =>
                    refine Or.inl ⟨rfl, ?_⟩
                    intro W hSw
                    obtain ⟨y0, y1⟩ := hSw
                    go_simp
                    try with_reducible rfl
                  case hS2a => assumption
                  try simp only [Act.put, List.setIfInBounds_toArray, List.set_cons_zero, List.set_cons_succ]
                  refine wpAnyH_take (i := 3) (oi := ?oi3a) (v := ?v3a) ?hi3a ?hs3a ?hf3a ?hr3a ?hQ3a ?hy3a ?hS3a ?h3a
                  case hi3a => exact (by simp only [List.getElem?_toArray, List.getElem?_cons_succ, List.getElem?_cons_zero]; rfl)
                  case hs3a => kernel_rfl
                  case hf3a => kernel_rfl
                  case hr3a => kernel_rfl
                  case hQ3a => exact fun _ _ _ h => h
                  case hy3a =>
                    refine Or.inl ⟨rfl, ?_⟩
                    intro W hSw
                    obtain ⟨y0, y1⟩ := hSw
                    go_simp
                    try with_reducible rfl
                  case hS3a => assumption
                  try simp only [Act.put, List.setIfInBounds_toArray, List.set_cons_zero, List.set_cons_succ]
                  refine wpAnyH_take (i := 4) (oi := ?oi4a) (v := ?v4a) ?hi4a ?hs4a ?hf4a ?hr4a ?hQ4a ?hy4a ?hS4a ?h4a
                  case hi4a => exact (by simp only [List.getElem?_toArray, List.getElem?_cons_succ, List.getElem?_cons_zero]; rfl)
                  case hs4a => kernel_rfl
                  case hf4a => kernel_rfl
                  case hr4a => kernel_rfl
                  case hQ4a => exact fun _ _ _ h => h
                  case hy4a =>
                    refine Or.inl ⟨rfl, ?_⟩
                    intro W hSw
                    obtain ⟨y0, y1⟩ := hSw
                    go_simp
                    try with_reducible rfl
                  case hS4a => assumption
                  try simp only [Act.put, List.setIfInBounds_toArray, List.set_cons_zero, List.set_cons_succ]
                  refine wpAnyH_take (i := 5) (oi := ?oi5a) (v := ?v5a) ?hi5a ?hs5a ?hf5a ?hr5a ?hQ5a ?hy5a ?hS5a ?h5a
                  case hi5a => exact (by simp only [List.getElem?_toArray, List.getElem?_cons_succ, List.getElem?_cons_zero]; rfl)
                  case hs5a => kernel_rfl
                  case hf5a => kernel_rfl
                  case hr5a => kernel_rfl
                  case hQ5a => exact fun _ _ _ h => h
                  case hy5a =>
                    refine Or.inl ⟨rfl, ?_⟩
                    intro W hSw
                    obtain ⟨y0, y1⟩ := hSw
                    go_simp
                    try with_reducible rfl
                  case hS5a => assumption
                  try simp only [Act.put, List.setIfInBounds_toArray, List.set_cons_zero, List.set_cons_succ]
                  refine wpAnyH_take (i := 8) (oi := ?oi8a) (v := ?v8a) ?hi8a ?hs8a ?hf8a ?hr8a ?hQ8a ?hy8a ?hS8a ?h8a
                  case hi8a => exact (by simp only [List.getElem?_toArray, List.getElem?_cons_succ, List.getElem?_cons_zero]; rfl)
                  case hs8a => kernel_rfl
                  case hf8a => kernel_rfl
                  case hr8a => kernel_rfl
                  case hQ8a => exact fun _ _ _ h => h
                  case hy8a =>
                    refine Or.inl ⟨rfl, ?_⟩
                    intro W hSw
                    obtain ⟨y0, y1⟩ := hSw
                    go_simp
                    try with_reducible rfl
                  case hS8a => assumption
                  try simp only [Act.put, List.setIfInBounds_toArray, List.set_cons_zero, List.set_cons_succ]
                  refine wpAnyH_take (i := 9) (oi := ?oi9a) (v := ?v9a) ?hi9a ?hs9a ?hf9a ?hr9a ?hQ9a ?hy9a ?hS9a ?h9a
                  case hi9a => exact (by simp only [List.getElem?_toArray, List.getElem?_cons_succ, List.getElem?_cons_zero]; rfl)
                  case hs9a => kernel_rfl
                  case hf9a => kernel_rfl
                  case hr9a => kernel_rfl
                  case hQ9a => exact fun _ _ _ h => h
                  case hy9a =>
                    refine Or.inl ⟨rfl, ?_⟩
                    intro W hSw
                    obtain ⟨y0, y1⟩ := hSw
                    go_simp
                    try with_reducible rfl
                  case hS9a => assumption
                  try simp only [Act.put, List.setIfInBounds_toArray, List.set_cons_zero, List.set_cons_succ]
                  refine wpAnyH_take (i := 10) (oi := ?oi10a) (v := ?v10a) ?hi10a ?hs10a ?hf10a ?hr10a ?hQ10a ?hy10a ?hS10a ?h10a
                  case hi10a => exact (by simp only [List.getElem?_toArray, List.getElem?_cons_succ, List.getElem?_cons_zero]; rfl)
                  case hs10a => kernel_rfl
                  case hf10a => kernel_rfl
                  case hr10a => kernel_rfl
                  case hQ10a => exact fun _ _ _ h => h
                  case hy10a =>
                    refine Or.inl ⟨rfl, ?_⟩
                    intro W hSw
                    obtain ⟨y0, y1⟩ := hSw
                    go_simp
                    try with_reducible rfl
                  case hS10a => assumption
                  try simp only [Act.put, List.setIfInBounds_toArray, List.set_cons_zero, List.set_cons_succ]
                  refine wpAnyH_take (i := 11) (oi := ?oi11a) (v := ?v11a) ?hi11a ?hs11a ?hf11a ?hr11a ?hQ11a ?hy11a ?hS11a ?h11a
                  case hi11a => exact (by simp only [List.getElem?_toArray, List.getElem?_cons_succ, List.getElem?_cons_zero]; rfl)
                  case hs11a => kernel_rfl
                  case hf11a => kernel_rfl
                  case hr11a => kernel_rfl
                  case hQ11a => exact fun _ _ _ h => h
                  case hy11a =>
                    refine Or.inl ⟨rfl, ?_⟩
                    intro W hSw
                    obtain ⟨y0, y1⟩ := hSw
                    go_simp
                    try with_reducible rfl
                  case hS11a => assumption
                  try simp only [Act.put, List.setIfInBounds_toArray, List.set_cons_zero, List.set_cons_succ]
                  refine wpAnyH_ready (rs := [6]) (by kernel_rfl) (by simp) ?_
                  refine AllReadyH.cons (o := _) rfl (fun K hK => ?_) AllReadyH.nil
                  go_simp
                  refine ((HC33.out Wa0 HDa.out)).mono ?_
                  rintro r Wa1 ⟨rfl, hbq⟩
                  have HBa1 := Lib.hid (HDa.out.trans (hbq.mono HDa.out.size))
                  clear hbq
                  refine hK.out _ _ (HS33.out _ (HBa1.out)) (fun hHeld => ?_)
                  clear hK K
                  try simp only [Act.put, List.setIfInBounds_toArray, List.set_cons_zero, List.set_cons_succ]
                  refine wpAnyH_ready (rs := [7]) (by kernel_rfl) (by simp) ?_
                  refine AllReadyH.cons (o := _) rfl (fun K hK => ?_) AllReadyH.nil
                  go_simp
                  refine ((HP33.out Wa1 HBa1.out)).mono ?_
                  rintro r Wa2 ⟨rfl, hbq⟩
                  have HBa2 := Lib.hid (HBa1.out.trans (hbq.mono HBa1.out.size))
                  clear hbq
                  refine hK.out _ _ (HS33.out _ (HBa2.out)) (fun hHeld => ?_)
                  clear hK K
                  try simp only [Act.put, List.setIfInBounds_toArray, List.set_cons_zero, List.set_cons_succ]
                  refine wpAnyH_take (i := 12) (oi := ?oi12a) (v := (.bool false)) ?hi12a ?hs12a ?hf12a ?hr12a ?hQ12a ?hy12a ?hS12a ?h12a
                  case hi12a => exact (by simp only [List.getElem?_toArray, List.getElem?_cons_succ, List.getElem?_cons_zero]; rfl)
                  case hs12a => kernel_rfl
                  case hf12a => kernel_rfl
                  case hr12a => kernel_rfl
                  case hQ12a => exact fun _ _ _ h => h
                  case hy12a =>
                    refine Or.inl ⟨rfl, ?_⟩
                    intro W hSw
                    obtain ⟨y0, y1⟩ := hSw
                    go_simp
                    try simp
                  case hS12a => assumption
                  try simp only [Act.put, List.setIfInBounds_toArray, List.set_cons_zero, List.set_cons_succ]
                  refine wpAnyH_take (i := 13) (oi := ?oi13a) (v := ?v13a) ?hi13a ?hs13a ?hf13a ?hr13a ?hQ13a ?hy13a ?hS13a ?h13a
                  case hi13a => exact (by simp only [List.getElem?_toArray, List.getElem?_cons_succ, List.getElem?_cons_zero]; rfl)
                  case hs13a => kernel_rfl
                  case hf13a => kernel_rfl
                  case hr13a => kernel_rfl
                  case hQ13a => exact fun _ _ _ h => h
                  case hy13a =>
                    refine Or.inl ⟨rfl, ?_⟩
                    intro W hSw
                    obtain ⟨y0, y1⟩ := hSw
                    go_simp
                    try with_reducible rfl
                  case hS13a => assumption
                  try simp only [Act.put, List.setIfInBounds_toArray, List.set_cons_zero, List.set_cons_succ]
                  refine wpAnyH_take (i := 14) (oi := ?oi14a) (v := ?v14a) ?hi14a ?hs14a ?hf14a ?hr14a ?hQ14a ?hy14a ?hS14a ?h14a
                  case hi14a => exact (by simp only [List.getElem?_toArray, List.getElem?_cons_succ, List.getElem?_cons_zero]; rfl)
                  case hs14a => kernel_rfl
                  case hf14a => kernel_rfl
                  case hr14a => kernel_rfl
                  case hQ14a => exact fun _ _ _ h => h
                  case hy14a =>
                    refine Or.inl ⟨rfl, ?_⟩
                    intro W hSw
                    obtain ⟨y0, y1⟩ := hSw
                    go_simp
                    try with_reducible rfl
                  case hS14a => assumption
                  try simp only [Act.put, List.setIfInBounds_toArray, List.set_cons_zero, List.set_cons_succ]
                  refine wpAnyH_take (i := 15) (oi := ?oi15a) (v := (.bool false)) ?hi15a ?hs15a ?hf15a ?hr15a ?hQ15a ?hy15a ?hS15a ?h15a
                  case hi15a => exact (by simp only [List.getElem?_toArray, List.getElem?_cons_succ, List.getElem?_cons_zero]; rfl)
                  case hs15a => kernel_rfl
                  case hf15a => kernel_rfl
                  case hr15a => kernel_rfl
                  case hQ15a => exact fun _ _ _ h => h
                  case hy15a =>
                    refine Or.inl ⟨rfl, ?_⟩
                    intro W hSw
                    obtain ⟨y0, y1⟩ := hSw
                    have z0 := HKZ.out
                    go_simp
                    first | done | omega | (with_reducible rfl) | rfl | (simp; done) | (simp; omega)
                  case hS15a => assumption
                  try simp only [Act.put, List.setIfInBounds_toArray, List.set_cons_zero, List.set_cons_succ]
                  refine wpAnyH_take (i := 16) (oi := ?oi16a) (v := ?v16a) ?hi16a ?hs16a ?hf16a ?hr16a ?hQ16a ?hy16a ?hS16a ?h16a
                  case hi16a => exact (by simp only [List.getElem?_toArray, List.getElem?_cons_succ, List.getElem?_cons_zero]; rfl)
                  case hs16a => kernel_rfl
                  case hf16a => kernel_rfl
                  case hr16a => kernel_rfl
                  case hQ16a => exact fun _ _ _ h => h
                  case hy16a =>
                    refine Or.inl ⟨rfl, ?_⟩
                    intro W hSw
                    obtain ⟨y0, y1⟩ := hSw
                    go_simp
                    try with_reducible rfl
                  case hS16a => assumption
                  try simp only [Act.put, List.setIfInBounds_toArray, List.set_cons_zero, List.set_cons_succ]
                  refine wpAnyH_take (i := 17) (oi := ?oi17a) (v := undef) ?hi17a ?hs17a ?hf17a ?hr17a ?hQ17a ?hy17a ?hS17a ?h17a
                  case hi17a => exact (by simp only [List.getElem?_toArray, List.getElem?_cons_succ, List.getElem?_cons_zero]; rfl)
                  case hs17a => kernel_rfl
                  case hf17a => kernel_rfl
                  case hr17a => kernel_rfl
                  case hQ17a => exact fun _ _ _ h => h
                  case hy17a =>
                    exact Or.inr ⟨rfl, rfl⟩
                  case hS17a => assumption
                  try simp only [Act.put, List.setIfInBounds_toArray, List.set_cons_zero, List.set_cons_succ]
                  refine wpAnyH_take (i := 18) (oi := ?oi18a) (v := undef) ?hi18a ?hs18a ?hf18a ?hr18a ?hQ18a ?hy18a ?hS18a ?h18a
                  case hi18a => exact (by simp only [List.getElem?_toArray, List.getElem?_cons_succ, List.getElem?_cons_zero]; rfl)
                  case hs18a => kernel_rfl
                  case hf18a => kernel_rfl
                  case hr18a => kernel_rfl
                  case hQ18a => exact fun _ _ _ h => h
                  case hy18a =>
                    exact Or.inr ⟨rfl, rfl⟩
                  case hS18a => assumption
                  try simp only [Act.put, List.setIfInBounds_toArray, List.set_cons_zero, List.set_cons_succ]
                  refine wpAnyH_take (i := 19) (oi := ?oi19a) (v := undef) ?hi19a ?hs19a ?hf19a ?hr19a ?hQ19a ?hy19a ?hS19a ?h19a
                  case hi19a => exact (by simp only [List.getElem?_toArray, List.getElem?_cons_succ, List.getElem?_cons_zero]; rfl)
                  case hs19a => kernel_rfl
                  case hf19a => kernel_rfl
                  case hr19a => kernel_rfl
                  case hQ19a => exact fun _ _ _ h => h
                  case hy19a =>
                    exact Or.inr ⟨rfl, rfl⟩
                  case hS19a => assumption
                  try simp only [Act.put, List.setIfInBounds_toArray, List.set_cons_zero, List.set_cons_succ]
                  refine wpAnyH_take (i := 20) (oi := ?oi20a) (v := undef) ?hi20a ?hs20a ?hf20a ?hr20a ?hQ20a ?hy20a ?hS20a ?h20a
                  case hi20a => exact (by simp only [List.getElem?_toArray, List.getElem?_cons_succ, List.getElem?_cons_zero]; rfl)
                  case hs20a => kernel_rfl
                  case hf20a => kernel_rfl
                  case hr20a => kernel_rfl
                  case hQ20a => exact fun _ _ _ h => h
                  case hy20a =>
                    exact Or.inr ⟨rfl, rfl⟩
                  case hS20a => assumption
                  try simp only [Act.put, List.setIfInBounds_toArray, List.set_cons_zero, List.set_cons_succ]
                  refine wpAnyH_take (i := 21) (oi := ?oi21a) (v := undef) ?hi21a ?hs21a ?hf21a ?hr21a ?hQ21a ?hy21a ?hS21a ?h21a
                  case hi21a => exact (by simp only [List.getElem?_toArray, List.getElem?_cons_succ, List.getElem?_cons_zero]; rfl)
                  case hs21a => kernel_rfl
                  case hf21a => kernel_rfl
                  case hr21a => kernel_rfl
                  case hQ21a => exact fun _ _ _ h => h
                  case hy21a =>
                    exact Or.inr ⟨rfl, rfl⟩
                  case hS21a => assumption
                  try simp only [Act.put, List.setIfInBounds_toArray, List.set_cons_zero, List.set_cons_succ]
                  refine wpAnyH_take (i := 22) (oi := ?oi22a) (v := undef) ?hi22a ?hs22a ?hf22a ?hr22a ?hQ22a ?hy22a ?hS22a ?h22a
                  case hi22a => exact (by simp only [List.getElem?_toArray, List.getElem?_cons_succ, List.getElem?_cons_zero]; rfl)
                  case hs22a => kernel_rfl
                  case hf22a => kernel_rfl
                  case hr22a => kernel_rfl
                  case hQ22a => exact fun _ _ _ h => h
                  case hy22a =>
                    exact Or.inr ⟨rfl, rfl⟩
                  case hS22a => assumption
                  try simp only [Act.put, List.setIfInBounds_toArray, List.set_cons_zero, List.set_cons_succ]
                  refine wpAnyH_take (i := 23) (oi := ?oi23a) (v := undef) ?hi23a ?hs23a ?hf23a ?hr23a ?hQ23a ?hy23a ?hS23a ?h23a
                  case hi23a => exact (by simp only [List.getElem?_toArray, List.getElem?_cons_succ, List.getElem?_cons_zero]; rfl)
                  case hs23a => kernel_rfl
                  case hf23a => kernel_rfl
                  case hr23a => kernel_rfl
                  case hQ23a => exact fun _ _ _ h => h
                  case hy23a =>
                    exact Or.inr ⟨rfl, rfl⟩
                  case hS23a => assumption
                  try simp only [Act.put, List.setIfInBounds_toArray, List.set_cons_zero, List.set_cons_succ]
                  refine wpAnyH_take (i := 24) (oi := ?oi24a) (v := undef) ?hi24a ?hs24a ?hf24a ?hr24a ?hQ24a ?hy24a ?hS24a ?h24a
                  case hi24a => exact (by simp only [List.getElem?_toArray, List.getElem?_cons_succ, List.getElem?_cons_zero]; rfl)
                  case hs24a => kernel_rfl
                  case hf24a => kernel_rfl
                  case hr24a => kernel_rfl
                  case hQ24a => exact fun _ _ _ h => h
                  case hy24a =>
                    exact Or.inr ⟨rfl, rfl⟩
                  case hS24a => assumption
                  try simp only [Act.put, List.setIfInBounds_toArray, List.set_cons_zero, List.set_cons_succ]
                  refine wpAnyH_take (i := 25) (oi := ?oi25a) (v := undef) ?hi25a ?hs25a ?hf25a ?hr25a ?hQ25a ?hy25a ?hS25a ?h25a
                  case hi25a => exact (by simp only [List.getElem?_toArray, List.getElem?_cons_succ, List.getElem?_cons_zero]; rfl)
                  case hs25a => kernel_rfl
                  case hf25a => kernel_rfl
                  case hr25a => kernel_rfl
                  case hQ25a => exact fun _ _ _ h => h
                  case hy25a =>
                    exact Or.inr ⟨rfl, rfl⟩
                  case hS25a => assumption
                  try simp only [Act.put, List.setIfInBounds_toArray, List.set_cons_zero, List.set_cons_succ]
                  refine wpAnyH_take (i := 26) (oi := ?oi26a) (v := undef) ?hi26a ?hs26a ?hf26a ?hr26a ?hQ26a ?hy26a ?hS26a ?h26a
                  case hi26a => exact (by simp only [List.getElem?_toArray, List.getElem?_cons_succ, List.getElem?_cons_zero]; rfl)
                  case hs26a => kernel_rfl
                  case hf26a => kernel_rfl
                  case hr26a => kernel_rfl
                  case hQ26a => exact fun _ _ _ h => h
                  case hy26a =>
                    exact Or.inr ⟨rfl, rfl⟩
                  case hS26a => assumption
                  try simp only [Act.put, List.setIfInBounds_toArray, List.set_cons_zero, List.set_cons_succ]
                  refine wpAnyH_take (i := 27) (oi := ?oi27a) (v := ?v27a) ?hi27a ?hs27a ?hf27a ?hr27a ?hQ27a ?hy27a ?hS27a ?h27a
                  case hi27a => exact (by simp only [List.getElem?_toArray, List.getElem?_cons_succ, List.getElem?_cons_zero]; rfl)
                  case hs27a => kernel_rfl
                  case hf27a => kernel_rfl
                  case hr27a => kernel_rfl
                  case hQ27a => exact fun _ _ _ h => h
                  case hy27a =>
                    refine Or.inl ⟨rfl, ?_⟩
                    intro W hSw
                    obtain ⟨y0, y1⟩ := hSw
                    go_simp
                    try with_reducible rfl
                  case hS27a => assumption
                  try simp only [Act.put, List.setIfInBounds_toArray, List.set_cons_zero, List.set_cons_succ]
                  refine wpAnyH_take (i := 28) (oi := ?oi28a) (v := ?v28a) ?hi28a ?hs28a ?hf28a ?hr28a ?hQ28a ?hy28a ?hS28a ?h28a
                  case hi28a => exact (by simp only [List.getElem?_toArray, List.getElem?_cons_succ, List.getElem?_cons_zero]; rfl)
                  case hs28a => kernel_rfl
                  case hf28a => kernel_rfl
                  case hr28a => kernel_rfl
                  case hQ28a => exact fun _ _ _ h => h
                  case hy28a =>
                    refine Or.inl ⟨rfl, ?_⟩
                    intro W hSw
                    obtain ⟨y0, y1⟩ := hSw
                    go_simp
                    try with_reducible rfl
                  case hS28a => assumption
                  try simp only [Act.put, List.setIfInBounds_toArray, List.set_cons_zero, List.set_cons_succ]
                  refine wpAnyH_done (by kernel_rfl) ?_ _
        
                  go_wp2_with fail
                  go_roundw
                  case rel => first | exact ⟨k + 1, by omega, by go_num, HV3.out.trans (HBa2.out.mono HV3.out.size)⟩ | ((repeat apply Exists.intro); exact ⟨⟨k + 1, by omega, by go_num, HV3.out.trans (HBa2.out.mono HV3.out.size)⟩, rfl⟩)
                  case measure => simp [intOf] <;> omega
                · obtain ⟨kk, hkk⟩ : ∃ kk, k = kk + 1 := ⟨k - 1, by omega⟩
                  obtain ⟨pj, hpj⟩ : ∃ p, (sortedN (playersQ L2))[kk]? = some p := ⟨(sortedN (playersQ L2))[kk]'(by rw [← HNP.out]; omega), List.getElem?_eq_getElem _⟩
                  have HGQ : Hid (pj < pk) := sortedN_next _ (playersQ_nodup HND2.out) kk pj pk hpj (by rw [← hkk]; exact hpk)
                  have HWR : Hid (IntKind.i64.wrap ((k : Int) - 1) = (kk : Int)) := by simp only [Hid]; rw [IntKind.wrap_i64]; omega
                  have HK1 : Hid ((0 : Int) ≤ (kk : Int)) := by simp only [Hid]; omega
                  have HK2 : Hid (kk < cq ∧ (0 : Int) ≤ (kk : Int)) := ⟨by omega, by omega⟩
                  have HKP : Hid (0 < (k : Int)) := by simp only [Hid]; omega
                  have HS33 : Hid (∀ W, Below wr.heap.size wr W → W.cell? ⟨bp, op + k, none⟩ = some (.int .u32 (pk : Int)) ∧ W.cell? ⟨bp, op + kk, none⟩ = some (.int .u32 (pj : Int))) := fun W hW => ⟨HCK.out k pk hpk W hW, HCK.out kk pj hpj W hW⟩
                  clear hpk0 hqk hek hcq hX hbp hatp hpk hk0 hkk hpj
                  go_upto_region 33 with (fail)
                  have HDb : Hid (Below wr.heap.size wr wr.drew) := HBS2.out.drew
                  refine wp_region_held_drew (S := fun W : World => W.cell? ⟨bp, op + k, none⟩ = some (.int .u32 (pk : Int)) ∧ W.cell? ⟨bp, op + kk, none⟩ = some (.int .u32 (pj : Int))) (by kernel_rfl) (HS33.out _ (HDb.out)) (fun hHeld => ?_)
                  obtain ⟨Wb0, hW0⟩ : ∃ W0, W0 = wr.drew := ⟨_, rfl⟩
                  rw [← hW0] at hHeld HDb ⊢
                  clear hW0
                  refine wpAnyH_take (i := 0) (oi := ?oi0b) (v := ?v0b) ?hi0b ?hs0b ?hf0b ?hr0b ?hQ0b ?hy0b ?hS0b ?h0b
                  case hi0b => exact (by simp only [List.getElem?_toArray, List.getElem?_cons_zero]; rfl)
                  case hs0b => kernel_rfl
                  case hf0b => kernel_rfl
                  case hr0b => kernel_rfl
                  case hQ0b => exact fun _ _ _ h => h
                  case hy0b =>
                    refine Or.inl ⟨rfl, ?_⟩
                    intro W hSw
                    obtain ⟨y0, y1⟩ := hSw
                    go_simp
                    try with_reducible rfl
                  case hS0b => assumption
                  try simp only [Act.put, List.setIfInBounds_toArray, List.set_cons_zero, List.set_cons_succ]
                  refine wpAnyH_take (i := 1) (oi := ?oi1b) (v := ?v1b) ?hi1b ?hs1b ?hf1b ?hr1b ?hQ1b ?hy1b ?hS1b ?h1b
                  case hi1b => exact (by simp only [List.getElem?_toArray, List.getElem?_cons_succ, List.getElem?_cons_zero]; rfl)
                  case hs1b => kernel_rfl
                  case hf1b => kernel_rfl
                  case hr1b => kernel_rfl
                  case hQ1b => exact fun _ _ _ h => h
                  case hy1b =>
                    refine Or.inl ⟨rfl, ?_⟩
                    intro W hSw
                    obtain ⟨y0, y1⟩ := hSw
                    go_simp
                    try with_reducible rfl
                  case hS1b => assumption
                  try simp only [Act.put, List.setIfInBounds_toArray, List.set_cons_zero, List.set_cons_succ]
                  refine wpAnyH_take (i := 2) (oi := ?oi2b) (v := ?v2b) ?hi2b ?hs2b ?hf2b ?hr2b ?hQ2b ?hy2b ?hS2b ?h2b
                  case hi2b => exact (by simp only [List.getElem?_toArray, List.getElem?_cons_succ, List.getElem?_cons_zero]; rfl)
                  case hs2b => kernel_rfl
                  case hf2b => kernel_rfl
                  case hr2b => kernel_rfl
                  case hQ2b => exact fun _ _ _ h => h
                  case hy2b =>
                    refine Or.inl ⟨rfl, ?_⟩
                    intro W hSw
                    obtain ⟨y0, y1⟩ := hSw
                    go_simp
                    try with_reducible rfl
                  case hS2b => assumption
                  try simp only [Act.put, List.setIfInBounds_toArray, List.set_cons_zero, List.set_cons_succ]
                  refine wpAnyH_take (i := 3) (oi := ?oi3b) (v := ?v3b) ?hi3b ?hs3b ?hf3b ?hr3b ?hQ3b ?hy3b ?hS3b ?h3b
                  case hi3b => exact (by simp only [List.getElem?_toArray, List.getElem?_cons_succ, List.getElem?_cons_zero]; rfl)
                  case hs3b => kernel_rfl
                  case hf3b => kernel_rfl
                  case hr3b => kernel_rfl
                  case hQ3b => exact fun _ _ _ h => h
                  case hy3b =>
                    refine Or.inl ⟨rfl, ?_⟩
                    intro W hSw
                    obtain ⟨y0, y1⟩ := hSw
                    go_simp
                    try with_reducible rfl
                  case hS3b => assumption
                  try simp only [Act.put, List.setIfInBounds_toArray, List.set_cons_zero, List.set_cons_succ]
                  refine wpAnyH_take (i := 4) (oi := ?oi4b) (v := ?v4b) ?hi4b ?hs4b ?hf4b ?hr4b ?hQ4b ?hy4b ?hS4b ?h4b
                  case hi4b => exact (by simp only [List.getElem?_toArray, List.getElem?_cons_succ, List.getElem?_cons_zero]; rfl)
                  case hs4b => kernel_rfl
                  case hf4b => kernel_rfl
                  case hr4b => kernel_rfl
                  case hQ4b => exact fun _ _ _ h => h
                  case hy4b =>
                    refine Or.inl ⟨rfl, ?_⟩
                    intro W hSw
                    obtain ⟨y0, y1⟩ := hSw
                    go_simp
                    try with_reducible rfl
                  case hS4b => assumption
                  try simp only [Act.put, List.setIfInBounds_toArray, List.set_cons_zero, List.set_cons_succ]
                  refine wpAnyH_take (i := 5) (oi := ?oi5b) (v := ?v5b) ?hi5b ?hs5b ?hf5b ?hr5b ?hQ5b ?hy5b ?hS5b ?h5b
                  case hi5b => exact (by simp only [List.getElem?_toArray, List.getElem?_cons_succ, List.getElem?_cons_zero]; rfl)
                  case hs5b => kernel_rfl
                  case hf5b => kernel_rfl
                  case hr5b => kernel_rfl
                  case hQ5b => exact fun _ _ _ h => h
                  case hy5b =>
                    refine Or.inl ⟨rfl, ?_⟩
                    intro W hSw
                    obtain ⟨y0, y1⟩ := hSw
                    go_simp
                    try with_reducible rfl
                  case hS5b => assumption
                  try simp only [Act.put, List.setIfInBounds_toArray, List.set_cons_zero, List.set_cons_succ]
                  refine wpAnyH_take (i := 8) (oi := ?oi8b) (v := ?v8b) ?hi8b ?hs8b ?hf8b ?hr8b ?hQ8b ?hy8b ?hS8b ?h8b
                  case hi8b => exact (by simp only [List.getElem?_toArray, List.getElem?_cons_succ, List.getElem?_cons_zero]; rfl)
                  case hs8b => kernel_rfl
                  case hf8b => kernel_rfl
                  case hr8b => kernel_rfl
                  case hQ8b => exact fun _ _ _ h => h
                  case hy8b =>
                    refine Or.inl ⟨rfl, ?_⟩
                    intro W hSw
                    obtain ⟨y0, y1⟩ := hSw
                    go_simp
                    try with_reducible rfl
                  case hS8b => assumption
                  try simp only [Act.put, List.setIfInBounds_toArray, List.set_cons_zero, List.set_cons_succ]
                  refine wpAnyH_take (i := 9) (oi := ?oi9b) (v := ?v9b) ?hi9b ?hs9b ?hf9b ?hr9b ?hQ9b ?hy9b ?hS9b ?h9b
                  case hi9b => exact (by simp only [List.getElem?_toArray, List.getElem?_cons_succ, List.getElem?_cons_zero]; rfl)
                  case hs9b => kernel_rfl
                  case hf9b => kernel_rfl
                  case hr9b => kernel_rfl
                  case hQ9b => exact fun _ _ _ h => h
                  case hy9b =>
                    refine Or.inl ⟨rfl, ?_⟩
                    intro W hSw
                    obtain ⟨y0, y1⟩ := hSw
                    go_simp
                    try with_reducible rfl
                  case hS9b => assumption
                  try simp only [Act.put, List.setIfInBounds_toArray, List.set_cons_zero, List.set_cons_succ]
                  refine wpAnyH_take (i := 10) (oi := ?oi10b) (v := ?v10b) ?hi10b ?hs10b ?hf10b ?hr10b ?hQ10b ?hy10b ?hS10b ?h10b
                  case hi10b => exact (by simp only [List.getElem?_toArray, List.getElem?_cons_succ, List.getElem?_cons_zero]; rfl)
                  case hs10b => kernel_rfl
                  case hf10b => kernel_rfl
                  case hr10b => kernel_rfl
                  case hQ10b => exact fun _ _ _ h => h
                  case hy10b =>
                    refine Or.inl ⟨rfl, ?_⟩
                    intro W hSw
                    obtain ⟨y0, y1⟩ := hSw
                    go_simp
                    try with_reducible rfl
                  case hS10b => assumption
                  try simp only [Act.put, List.setIfInBounds_toArray, List.set_cons_zero, List.set_cons_succ]
                  refine wpAnyH_take (i := 11) (oi := ?oi11b) (v := ?v11b) ?hi11b ?hs11b ?hf11b ?hr11b ?hQ11b ?hy11b ?hS11b ?h11b
                  case hi11b => exact (by simp only [List.getElem?_toArray, List.getElem?_cons_succ, List.getElem?_cons_zero]; rfl)
                  case hs11b => kernel_rfl
                  case hf11b => kernel_rfl
                  case hr11b => kernel_rfl
                  case hQ11b => exact fun _ _ _ h => h
                  case hy11b =>
                    refine Or.inl ⟨rfl, ?_⟩
                    intro W hSw
                    obtain ⟨y0, y1⟩ := hSw
                    go_simp
                    try with_reducible rfl
                  case hS11b => assumption
                  try simp only [Act.put, List.setIfInBounds_toArray, List.set_cons_zero, List.set_cons_succ]
                  refine wpAnyH_ready (rs := [6]) (by kernel_rfl) (by simp) ?_
                  refine AllReadyH.cons (o := _) rfl (fun K hK => ?_) AllReadyH.nil
                  go_simp
                  refine ((HC33.out Wb0 HDb.out)).mono ?_
                  rintro r Wb1 ⟨rfl, hbq⟩
                  have HBb1 := Lib.hid (HDb.out.trans (hbq.mono HDb.out.size))
                  clear hbq
                  refine hK.out _ _ (HS33.out _ (HBb1.out)) (fun hHeld => ?_)
                  clear hK K
                  try simp only [Act.put, List.setIfInBounds_toArray, List.set_cons_zero, List.set_cons_succ]
                  refine wpAnyH_ready (rs := [7]) (by kernel_rfl) (by simp) ?_
                  refine AllReadyH.cons (o := _) rfl (fun K hK => ?_) AllReadyH.nil
                  go_simp
                  refine ((HP33.out Wb1 HBb1.out)).mono ?_
                  rintro r Wb2 ⟨rfl, hbq⟩
                  have HBb2 := Lib.hid (HBb1.out.trans (hbq.mono HBb1.out.size))
                  clear hbq
                  refine hK.out _ _ (HS33.out _ (HBb2.out)) (fun hHeld => ?_)
                  clear hK K
                  try simp only [Act.put, List.setIfInBounds_toArray, List.set_cons_zero, List.set_cons_succ]
                  refine wpAnyH_take (i := 12) (oi := ?oi12b) (v := (.bool false)) ?hi12b ?hs12b ?hf12b ?hr12b ?hQ12b ?hy12b ?hS12b ?h12b
                  case hi12b => exact (by simp only [List.getElem?_toArray, List.getElem?_cons_succ, List.getElem?_cons_zero]; rfl)
                  case hs12b => kernel_rfl
                  case hf12b => kernel_rfl
                  case hr12b => kernel_rfl
                  case hQ12b => exact fun _ _ _ h => h
                  case hy12b =>
                    refine Or.inl ⟨rfl, ?_⟩
                    intro W hSw
                    obtain ⟨y0, y1⟩ := hSw
                    go_simp
                    try simp
                  case hS12b => assumption
                  try simp only [Act.put, List.setIfInBounds_toArray, List.set_cons_zero, List.set_cons_succ]
                  refine wpAnyH_take (i := 13) (oi := ?oi13b) (v := ?v13b) ?hi13b ?hs13b ?hf13b ?hr13b ?hQ13b ?hy13b ?hS13b ?h13b
                  case hi13b => exact (by simp only [List.getElem?_toArray, List.getElem?_cons_succ, List.getElem?_cons_zero]; rfl)
                  case hs13b => kernel_rfl
                  case hf13b => kernel_rfl
                  case hr13b => kernel_rfl
                  case hQ13b => exact fun _ _ _ h => h
                  case hy13b =>
                    refine Or.inl ⟨rfl, ?_⟩
                    intro W hSw
                    obtain ⟨y0, y1⟩ := hSw
                    go_simp
                    try with_reducible rfl
                  case hS13b => assumption
                  try simp only [Act.put, List.setIfInBounds_toArray, List.set_cons_zero, List.set_cons_succ]
                  refine wpAnyH_take (i := 14) (oi := ?oi14b) (v := ?v14b) ?hi14b ?hs14b ?hf14b ?hr14b ?hQ14b ?hy14b ?hS14b ?h14b
                  case hi14b => exact (by simp only [List.getElem?_toArray, List.getElem?_cons_succ, List.getElem?_cons_zero]; rfl)
                  case hs14b => kernel_rfl
                  case hf14b => kernel_rfl
                  case hr14b => kernel_rfl
                  case hQ14b => exact fun _ _ _ h => h
                  case hy14b =>
                    refine Or.inl ⟨rfl, ?_⟩
                    intro W hSw
                    obtain ⟨y0, y1⟩ := hSw
                    go_simp
                    try with_reducible rfl
                  case hS14b => assumption
                  try simp only [Act.put, List.setIfInBounds_toArray, List.set_cons_zero, List.set_cons_succ]
                  refine wpAnyH_take (i := 15) (oi := ?oi15b) (v := (.bool true)) ?hi15b ?hs15b ?hf15b ?hr15b ?hQ15b ?hy15b ?hS15b ?h15b
                  case hi15b => exact (by simp only [List.getElem?_toArray, List.getElem?_cons_succ, List.getElem?_cons_zero]; rfl)
                  case hs15b => kernel_rfl
                  case hf15b => kernel_rfl
                  case hr15b => kernel_rfl
                  case hQ15b => exact fun _ _ _ h => h
                  case hy15b =>
                    refine Or.inl ⟨rfl, ?_⟩
                    intro W hSw
                    obtain ⟨y0, y1⟩ := hSw
                    have z0 := HKP.out
                    go_simp
                    first | done | omega | (with_reducible rfl) | rfl | (simp; done) | (simp; omega)
                  case hS15b => assumption
                  try simp only [Act.put, List.setIfInBounds_toArray, List.set_cons_zero, List.set_cons_succ]
                  refine wpAnyH_take (i := 16) (oi := ?oi16b) (v := ?v16b) ?hi16b ?hs16b ?hf16b ?hr16b ?hQ16b ?hy16b ?hS16b ?h16b
                  case hi16b => exact (by simp only [List.getElem?_toArray, List.getElem?_cons_succ, List.getElem?_cons_zero]; rfl)
                  case hs16b => kernel_rfl
                  case hf16b => kernel_rfl
                  case hr16b => kernel_rfl
                  case hQ16b => exact fun _ _ _ h => h
                  case hy16b =>
                    refine Or.inl ⟨rfl, ?_⟩
                    intro W hSw
                    obtain ⟨y0, y1⟩ := hSw
                    go_simp
                    try with_reducible rfl
                  case hS16b => assumption
                  try simp only [Act.put, List.setIfInBounds_toArray, List.set_cons_zero, List.set_cons_succ]
                  refine wpAnyH_take (i := 17) (oi := ?oi17b) (v := ?v17b) ?hi17b ?hs17b ?hf17b ?hr17b ?hQ17b ?hy17b ?hS17b ?h17b
                  case hi17b => exact (by simp only [List.getElem?_toArray, List.getElem?_cons_succ, List.getElem?_cons_zero]; rfl)
                  case hs17b => kernel_rfl
                  case hf17b => kernel_rfl
                  case hr17b => kernel_rfl
                  case hQ17b => exact fun _ _ _ h => h
                  case hy17b =>
                    refine Or.inl ⟨rfl, ?_⟩
                    intro W hSw
                    obtain ⟨y0, y1⟩ := hSw
                    go_simp
                    try with_reducible rfl
                  case hS17b => assumption
                  try simp only [Act.put, List.setIfInBounds_toArray, List.set_cons_zero, List.set_cons_succ]
                  refine wpAnyH_take (i := 18) (oi := ?oi18b) (v := ?v18b) ?hi18b ?hs18b ?hf18b ?hr18b ?hQ18b ?hy18b ?hS18b ?h18b
                  case hi18b => exact (by simp only [List.getElem?_toArray, List.getElem?_cons_succ, List.getElem?_cons_zero]; rfl)
                  case hs18b => kernel_rfl
                  case hf18b => kernel_rfl
                  case hr18b => kernel_rfl
                  case hQ18b => exact fun _ _ _ h => h
                  case hy18b =>
                    refine Or.inl ⟨rfl, ?_⟩
                    intro W hSw
                    obtain ⟨y0, y1⟩ := hSw
                    go_simp
                    try with_reducible rfl
                  case hS18b => assumption
                  try simp only [Act.put, List.setIfInBounds_toArray, List.set_cons_zero, List.set_cons_succ]
                  refine wpAnyH_take (i := 19) (oi := ?oi19b) (v := (.int .i64 (kk : Int))) ?hi19b ?hs19b ?hf19b ?hr19b ?hQ19b ?hy19b ?hS19b ?h19b
                  case hi19b => exact (by simp only [List.getElem?_toArray, List.getElem?_cons_succ, List.getElem?_cons_zero]; rfl)
                  case hs19b => kernel_rfl
                  case hf19b => kernel_rfl
                  case hr19b => kernel_rfl
                  case hQ19b => exact fun _ _ _ h => h
                  case hy19b =>
                    refine Or.inl ⟨rfl, ?_⟩
                    intro W hSw
                    obtain ⟨y0, y1⟩ := hSw
                    have z0 := HWR.out
                    have z1 := HK1.out
                    go_simp
                    try with_reducible rfl
                  case hS19b => assumption
                  try simp only [Act.put, List.setIfInBounds_toArray, List.set_cons_zero, List.set_cons_succ]
                  refine wpAnyH_take (i := 20) (oi := ?oi20b) (v := ?v20b) ?hi20b ?hs20b ?hf20b ?hr20b ?hQ20b ?hy20b ?hS20b ?h20b
                  case hi20b => exact (by simp only [List.getElem?_toArray, List.getElem?_cons_succ, List.getElem?_cons_zero]; rfl)
                  case hs20b => kernel_rfl
                  case hf20b => kernel_rfl
                  case hr20b => kernel_rfl
                  case hQ20b => exact fun _ _ _ h => h
                  case hy20b =>
                    refine Or.inl ⟨rfl, ?_⟩
                    intro W hSw
                    obtain ⟨y0, y1⟩ := hSw
                    have z0 := HK2.out.1
                    have z1 := HK2.out.2
                    go_simp
                    try with_reducible rfl
                  case hS20b => assumption
                  try simp only [Act.put, List.setIfInBounds_toArray, List.set_cons_zero, List.set_cons_succ]
                  refine wpAnyH_take (i := 21) (oi := ?oi21b) (v := ?v21b) ?hi21b ?hs21b ?hf21b ?hr21b ?hQ21b ?hy21b ?hS21b ?h21b
                  case hi21b => exact (by simp only [List.getElem?_toArray, List.getElem?_cons_succ, List.getElem?_cons_zero]; rfl)
                  case hs21b => kernel_rfl
                  case hf21b => kernel_rfl
                  case hr21b => kernel_rfl
                  case hQ21b => exact fun _ _ _ h => h
                  case hy21b =>
                    refine Or.inl ⟨rfl, ?_⟩
                    intro W hSw
                    obtain ⟨y0, y1⟩ := hSw
                    go_simp
                    try with_reducible rfl
                  case hS21b => assumption
                  try simp only [Act.put, List.setIfInBounds_toArray, List.set_cons_zero, List.set_cons_succ]
                  refine wpAnyH_take (i := 22) (oi := ?oi22b) (v := ?v22b) ?hi22b ?hs22b ?hf22b ?hr22b ?hQ22b ?hy22b ?hS22b ?h22b
                  case hi22b => exact (by simp only [List.getElem?_toArray, List.getElem?_cons_succ, List.getElem?_cons_zero]; rfl)
                  case hs22b => kernel_rfl
                  case hf22b => kernel_rfl
                  case hr22b => kernel_rfl
                  case hQ22b => exact fun _ _ _ h => h
                  case hy22b =>
                    refine Or.inl ⟨rfl, ?_⟩
                    intro W hSw
                    obtain ⟨y0, y1⟩ := hSw
                    go_simp
                    try with_reducible rfl
                  case hS22b => assumption
                  try simp only [Act.put, List.setIfInBounds_toArray, List.set_cons_zero, List.set_cons_succ]
                  refine wpAnyH_take (i := 23) (oi := ?oi23b) (v := ?v23b) ?hi23b ?hs23b ?hf23b ?hr23b ?hQ23b ?hy23b ?hS23b ?h23b
                  case hi23b => exact (by simp only [List.getElem?_toArray, List.getElem?_cons_succ, List.getElem?_cons_zero]; rfl)
                  case hs23b => kernel_rfl
                  case hf23b => kernel_rfl
                  case hr23b => kernel_rfl
                  case hQ23b => exact fun _ _ _ h => h
                  case hy23b =>
                    refine Or.inl ⟨rfl, ?_⟩
                    intro W hSw
                    obtain ⟨y0, y1⟩ := hSw
                    go_simp
                    try with_reducible rfl
                  case hS23b => assumption
                  try simp only [Act.put, List.setIfInBounds_toArray, List.set_cons_zero, List.set_cons_succ]
                  refine wpAnyH_take (i := 24) (oi := ?oi24b) (v := ?v24b) ?hi24b ?hs24b ?hf24b ?hr24b ?hQ24b ?hy24b ?hS24b ?h24b
                  case hi24b => exact (by simp only [List.getElem?_toArray, List.getElem?_cons_succ, List.getElem?_cons_zero]; rfl)
                  case hs24b => kernel_rfl
                  case hf24b => kernel_rfl
                  case hr24b => kernel_rfl
                  case hQ24b => exact fun _ _ _ h => h
                  case hy24b =>
                    refine Or.inl ⟨rfl, ?_⟩
                    intro W hSw
                    obtain ⟨y0, y1⟩ := hSw
                    go_simp
                    try with_reducible rfl
                  case hS24b => assumption
                  try simp only [Act.put, List.setIfInBounds_toArray, List.set_cons_zero, List.set_cons_succ]
                  refine wpAnyH_take (i := 25) (oi := ?oi25b) (v := ?v25b) ?hi25b ?hs25b ?hf25b ?hr25b ?hQ25b ?hy25b ?hS25b ?h25b
                  case hi25b => exact (by simp only [List.getElem?_toArray, List.getElem?_cons_succ, List.getElem?_cons_zero]; rfl)
                  case hs25b => kernel_rfl
                  case hf25b => kernel_rfl
                  case hr25b => kernel_rfl
                  case hQ25b => exact fun _ _ _ h => h
                  case hy25b =>
                    refine Or.inl ⟨rfl, ?_⟩
                    intro W hSw
                    obtain ⟨y0, y1⟩ := hSw
                    go_simp
                    try with_reducible rfl
                  case hS25b => assumption
                  try simp only [Act.put, List.setIfInBounds_toArray, List.set_cons_zero, List.set_cons_succ]
                  refine wpAnyH_take (i := 26) (oi := ?oi26b) (v := (.bool false)) ?hi26b ?hs26b ?hf26b ?hr26b ?hQ26b ?hy26b ?hS26b ?h26b
                  case hi26b => exact (by simp only [List.getElem?_toArray, List.getElem?_cons_succ, List.getElem?_cons_zero]; rfl)
                  case hs26b => kernel_rfl
                  case hf26b => kernel_rfl
                  case hr26b => kernel_rfl
                  case hQ26b => exact fun _ _ _ h => h
                  case hy26b =>
                    refine Or.inl ⟨rfl, ?_⟩
                    intro W hSw
                    obtain ⟨y0, y1⟩ := hSw
                    go_simp
                    have z0 := HGQ.out
                    first | done | omega | (with_reducible rfl) | rfl | (simp; done) | (simp [z0]; done) | (simp; omega)
                  case hS26b => assumption
                  try simp only [Act.put, List.setIfInBounds_toArray, List.set_cons_zero, List.set_cons_succ]
                  refine wpAnyH_take (i := 27) (oi := ?oi27b) (v := ?v27b) ?hi27b ?hs27b ?hf27b ?hr27b ?hQ27b ?hy27b ?hS27b ?h27b
                  case hi27b => exact (by simp only [List.getElem?_toArray, List.getElem?_cons_succ, List.getElem?_cons_zero]; rfl)
                  case hs27b => kernel_rfl
                  case hf27b => kernel_rfl
                  case hr27b => kernel_rfl
                  case hQ27b => exact fun _ _ _ h => h
                  case hy27b =>
                    refine Or.inl ⟨rfl, ?_⟩
                    intro W hSw
                    obtain ⟨y0, y1⟩ := hSw
                    go_simp
                    try with_reducible rfl
                  case hS27b => assumption
                  try simp only [Act.put, List.setIfInBounds_toArray, List.set_cons_zero, List.set_cons_succ]
                  refine wpAnyH_take (i := 28) (oi := ?oi28b) (v := ?v28b) ?hi28b ?hs28b ?hf28b ?hr28b ?hQ28b ?hy28b ?hS28b ?h28b
                  case hi28b => exact (by simp only [List.getElem?_toArray, List.getElem?_cons_succ, List.getElem?_cons_zero]; rfl)
                  case hs28b => kernel_rfl
                  case hf28b => kernel_rfl
                  case hr28b => kernel_rfl
                  case hQ28b => exact fun _ _ _ h => h
                  case hy28b =>
                    refine Or.inl ⟨rfl, ?_⟩
                    intro W hSw
                    obtain ⟨y0, y1⟩ := hSw
                    go_simp
                    try with_reducible rfl
                  case hS28b => assumption
                  try simp only [Act.put, List.setIfInBounds_toArray, List.set_cons_zero, List.set_cons_succ]
                  refine wpAnyH_done (by kernel_rfl) ?_ _
        
                  go_wp2_with fail
                  go_roundw
                  case rel => first | exact ⟨k + 1, by omega, by go_num, HV3.out.trans (HBb2.out.mono HV3.out.size)⟩ | ((repeat apply Exists.intro); exact ⟨⟨k + 1, by omega, by go_num, HV3.out.trans (HBb2.out.mono HV3.out.size)⟩, rfl⟩)
                  case measure => simp [intOf] <;> omega
              · obtain rfl : k = cq := by omega
                have HFIN : Hid (OSt w T wr) := ⟨L2, HT2.out.after (HBC.out.trans (HV3.out.mono HBC.out.size)), HND2.out, by have := HNCL.out; omega, HB2.out.trans ((HBC.out.trans (HV3.out.mono HBC.out.size)).mono HB2.out.size)⟩
                go_wp2_with fail
                go_roundw
                case rel => first | exact ⟨ko + 1, by omega, by go_num, HFIN.out⟩ | ((repeat apply Exists.intro); exact ⟨⟨ko + 1, by omega, by go_num, HFIN.out⟩, rfl⟩)
                case measure => simp [intOf] <;> omega
    · have hkn : k = n := by omega
      subst hkn
      have HBF : Hid (Below w.heap.size w wr) := by
        obtain ⟨_, _, _, _, h⟩ := HM.out
        exact h
      go_wp2_with fail
      refine (HAW.out wr).mono ?_
      rintro r w9 ⟨rfl, hb⟩
      have HB9 := Lib.hid (HBF.out.trans (hb.mono HBF.out.size))
      clear hb
      go_wp2
      go_ret
      exact ⟨rfl, HB9.out⟩
end Go.Proofs.Ytfgabmjnpjmmgaa
