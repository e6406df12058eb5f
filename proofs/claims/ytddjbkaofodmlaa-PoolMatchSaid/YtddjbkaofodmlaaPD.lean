/- Pool: PoolMatch's walk. -/
import Derived.Test.YtddjbkaofodmlaaPC
namespace Go.Proofs.Ytddjbkaofodmlaa
open Go.RowKit Go.ChangeShapes
open Go.Joins
set_option maxRecDepth 20000
set_option linter.unusedVariables false
set_option linter.unusedSimpArgs false

set_option maxHeartbeats 16000000 in
theorem match_walk (u : Option Addr × Nat) (l : List Ac) (w : World) (hA : As w w.heap.size u.1 l) (hl : l.length ≤ 9223372036854775807) (hR : ∀ e ∈ l, Ra e) :
    Calls Try.prog 4 #[.slice u.1 l.length u.2] w fun r w' => r = .returned (.bool true) ∧ Below w.heap.size w w' := by
  obtain ⟨A, c⟩ := u
  simp only at hA ⊢
  obtain ⟨n, hn⟩ : ∃ n, n = l.length := ⟨_, rfl⟩
  rw [← hn] at hl ⊢
  have HA := Lib.hid hA
  have HR := Lib.hid hR
  have HN := Lib.hid hn
  have HNW := Lib.hid (new_any 3 5 3 w (by omega))
  have HAW : Hid (∀ W, Calls Try.prog 12 #[] W fun r w' => r = .returned (.bool true) ∧ Below W.heap.size W w') := fun W => pawake W
  clear hA hR hn
  by_cases h80 : 80 < n
  · go_enter Try.func4, Try.ntmps4
    go_wp2
    go_ret
    exact ⟨rfl, Below.refl _ _⟩
  go_enter Try.func4, Try.ntmps4
  go_wp2_with fail
  refine HNW.out.mono ?_
  rintro r w1 ⟨P, I, rfl, h1, hb1⟩
  obtain ⟨w2, hw2⟩ : ∃ w2, w2 = w1.alloc (.cells #[.int .u32 0, .int .u32 0, .int .u32 0, .int .u32 0] 40) := ⟨_, rfl⟩
  have hb2 : Below w1.heap.size w1 w2 := by rw [hw2]; exact (Below.refl _ _).alloc (Nat.le_refl _) _
  have hq2 : w2.heap[w1.heap.size]? = some (.cells (un [0, 0, 0, 0]).toArray 40 (0, 0)) := by rw [hw2]; exact heap_alloc_new w1 _
  have H2 := Lib.hid hw2
  have HS : Hid (MSt w P I w1.heap.size w2) := ⟨List.replicate 3 (0, 0, 0), [0, 0, 0, 0], h1.after hb2, rfl, fun e he => by
    obtain rfl := List.eq_of_mem_replicate he
    exact ⟨by decide, by decide, fun _ => rfl, by decide⟩, hq2, rfl, fun k e hk hs => by
    obtain rfl := List.eq_of_mem_replicate (List.mem_of_getElem? hk)
    exact absurd hs (by decide), fun e => by have := lt_of_block h1.2.2.2.2; omega, hb1.size, hb1.trans (hb2.mono hb1.size)⟩
  obtain ⟨G, hG⟩ : ∃ G, G = w1.heap.size := ⟨_, rfl⟩
  rw [← hG] at HS
  have HG := Lib.hid hG
  have HPI : Hid (w.heap.size ≤ I) := h1.2.1
  clear h1 hb1 hw2 hb2 hq2 hG
  go_upto_region 5 with (fail)
  rw [← H2.out, ← HG.out]
  go_wp2_with fail
  go_loopw [5] (fun i wr => ∃ k : Nat, k ≤ n ∧ i = .int .i64 (k : Int) ∧ Hid (MSt w P I G wr)) (fun i _ => n - (intOf i).toNat)
  case atStart => exact ⟨0, Nat.zero_le _, rfl, HS.out⟩
  case round =>
    obtain ⟨k, hk, rfl, HM⟩ := hrel
    by_cases hlt : k < n
    · obtain ⟨⟨d, x, y, now⟩, hy⟩ : ∃ e, l[k]? = some e := ⟨l[k]'(by rw [← HN.out]; exact hlt), List.getElem?_eq_getElem _⟩
      obtain ⟨hd, hx, -, hnow⟩ := HR.out _ (List.mem_of_getElem? hy)
      simp only at hd hx hnow
      obtain ⟨b1, o1, rfl, hb1, ha1⟩ := HA.out (by have := HN.out; omega)
      obtain ⟨e0, e1, e2, e3⟩ := ha1 k _ hy
      have hbw : Below w.heap.size w wr := by
        obtain ⟨_, _, _, _, _, _, _, _, _, _, h⟩ := HM.out
        exact h
      have d0 := (hbw.cell (p := ⟨b1, _, none⟩) hb1).trans e0
      have d1 := (hbw.cell (p := ⟨b1, _, none⟩) hb1).trans e1
      have d2 := (hbw.cell (p := ⟨b1, _, none⟩) hb1).trans e2
      have d3 := (hbw.cell (p := ⟨b1, _, none⟩) hb1).trans e3
      simp only at d0 d1 d2 d3
      obtain ⟨v1, hv1⟩ : ∃ v1, v1 = wr.alloc (.cells #[.int .u8 d, .int .u32 (x : Int), .int .u32 (y : Int), .int .i64 now] 31) := ⟨_, rfl⟩
      have hbv1 : Below wr.heap.size wr v1 := by rw [hv1]; exact (Below.refl _ _).alloc (Nat.le_refl _) _
      have hqv1 : v1.heap[wr.heap.size]? = some (.cells #[.int .u8 d, .int .u32 (x : Int), .int .u32 (y : Int), .int .i64 now] 31 (0, 0)) := by rw [hv1]; exact heap_alloc_new wr _
      have HCA : Hid (∀ W : World, W.heap[wr.heap.size]? = some (.cells #[.int .u8 d, .int .u32 (x : Int), .int .u32 (y : Int), .int .i64 now] 31 (0, 0)) → W.cell? ⟨wr.heap.size, 0, none⟩ = some (.int .u8 d) ∧ W.cell? ⟨wr.heap.size, 1, none⟩ = some (.int .u32 (x : Int)) ∧ W.cell? ⟨wr.heap.size, 2, none⟩ = some (.int .u32 (y : Int)) ∧ W.cell? ⟨wr.heap.size, 3, none⟩ = some (.int .i64 now)) := fun W e => ⟨cell_of_row W _ 0 _ _ _ e, cell_of_row W _ 1 _ _ _ e, cell_of_row W _ 2 _ _ _ e, cell_of_row W _ 3 _ _ _ e⟩
      have HV1 := Lib.hid hv1
      have HBV1 := Lib.hid hbv1
      have HQV1 := Lib.hid hqv1
      have HM1 : Hid (MSt w P I G v1) := mst_miss HM.out hbv1
      have HNOW := Lib.hid hnow
      clear hy ha1 hb1 e0 e1 e2 e3 hbw hv1 hbv1 hqv1 hnow
      by_cases hin : x = 0 ∨ 3 < x
      · have HI : Hid (∀ W, Below v1.heap.size v1 W → Calls Try.prog 13 #[.pointer (some ⟨P, 0, none⟩), .int .u32 (x : Int)] W fun r w' => r = .returned (.tuple #[iV 0 0 0, .bool false]) ∧ Below W.heap.size W w') := fun W hW => by
          obtain ⟨l, H, h1, h2, h3⟩ := HM1.out
          exact inst_miss _ x W (.inr ⟨_, P, I, 5, l, rfl, h1.after hW, by omega⟩)
        have HD : Hid (∀ W, Below v1.heap.size v1 W → Calls Try.prog 9 #[.pointer (some ⟨P, 0, none⟩), .agg #[.int .u8 d, .int .u32 (x : Int), .int .u32 (y : Int), .int .i64 now]] W fun r w' => r = .returned (.tuple #[.int .u32 0, .int .i64 12]) ∧ Below W.heap.size W w') := fun W hW => by
          obtain ⟨l, H, h1, h2, h3⟩ := HM1.out
          exact do_miss d hd _ x y now W (.inr ⟨_, P, I, 5, l, rfl, h1.after hW, by omega⟩)
        have HBR : Hid (Below v1.heap.size v1 v1) := Below.refl _ _
        clear hin hx hd
        go_upto_region 9 with (fail)
        rw [← HV1.out]
        obtain ⟨q0, q1, q2, q3⟩ := HCA.out v1 HQV1.out
        clear d0 d1 d2 d3
        go_wp2_with fail
        refine (HI.out v1 HBR.out).mono ?_
        rintro r v2 ⟨rfl, hb⟩
        obtain ⟨v3, hv3⟩ : ∃ v3, v3 = v2.alloc (.cells (iC 0 0 0) 42) := ⟨_, rfl⟩
        have HV3 := Lib.hid hv3
        have HB3 : Hid (Below v1.heap.size v1 v3) := by rw [hv3]; exact hb.alloc hb.size _
        clear hb hv3 q0 q1 q2 q3
        obtain ⟨q0, q1, q2, q3⟩ := HCA.out v3 ((HB3.out.block _ (lt_of_block HQV1.out)).trans HQV1.out)
        go_upto_region 10 with (fail)
        rw [← HV3.out]
        go_wp2_with fail
        refine (HD.out v3 HB3.out).mono ?_
        rintro r v4 ⟨rfl, hb⟩
        have HB4 := Lib.hid (HB3.out.trans (hb.mono HB3.out.size))
        clear hb q0 q1 q2 q3
        obtain ⟨q0, q1, q2, q3⟩ := HCA.out v4 ((HB4.out.block _ (lt_of_block HQV1.out)).trans HQV1.out)
        go_wp2_with fail
        refine (HI.out v4 HB4.out).mono ?_
        rintro r v5 ⟨rfl, hb⟩
        obtain ⟨v6, hv6⟩ : ∃ v6, v6 = v5.alloc (.cells (iC 0 0 0) 42) := ⟨_, rfl⟩
        have hq6 : v6.heap[v5.heap.size]? = some (.cells (iC 0 0 0) 42 (0, 0)) := by rw [hv6]; exact heap_alloc_new v5 _
        have HV6 := Lib.hid hv6
        have HB6 : Hid (Below v1.heap.size v1 v6) := by rw [hv6]; exact (HB4.out.trans (hb.mono HB4.out.size)).alloc (Nat.le_trans HB4.out.size hb.size) _
        have z0 := cell_of_row v6 v5.heap.size 0 _ _ _ hq6
        have z1 := cell_of_row v6 v5.heap.size 1 _ _ _ hq6
        have z2 := cell_of_row v6 v5.heap.size 2 _ _ _ hq6
        simp at z0 z1 z2
        clear hb hv6 hq6 q0 q1 q2 q3
        go_upto_region 12 with (fail)
        rw [← HV6.out]
        go_wp2_with fail
        go_roundw
        case rel => exact ⟨k + 1, by omega, by go_num, mst_miss HM1.out HB6.out⟩
        case measure => simp [intOf] <;> omega
      · obtain ⟨j, hxj⟩ : ∃ j, x = j + 1 := ⟨x - 1, by omega⟩
        have hj3 : j < 3 := by omega
        have hx4 : x < 4 := by omega
        clear hin hx
        obtain ⟨L, H, hP, hL, hI, hGB, hH, hK, hne, hge, hB⟩ := HM1.out
        obtain ⟨⟨s, m, a⟩, hj⟩ : ∃ e, L[j]? = some e := ⟨L[j]'(by omega), List.getElem?_eq_getElem _⟩
        obtain ⟨er, her⟩ : ∃ er, er = (stepQ d y now (s, m, a)).2.1 := ⟨_, rfl⟩
        obtain ⟨⟨s', m', a'⟩, hq⟩ : ∃ e', e' = (stepQ d y now (s, m, a)).2.2 := ⟨_, rfl⟩
        obtain ⟨q1, hq1⟩ : ∃ q1, q1 = (stepQ d y now (s, m, a)).1 := ⟨_, rfl⟩
        have hI' := iv_step (d := d) (y := y) (hI _ (List.mem_of_getElem? hj)) HNOW.out
        obtain ⟨f1, f2, f3, f4⟩ := step_facts d y now (s, m, a)
        rw [← her] at f1 f2 f3
        rw [← hq] at f1 f2 f3 f4 hI'
        obtain ⟨hs5, hm5, hz5, -⟩ := hI'
        simp only at f1 f2 f3 f4 hs5 hm5 hz5
        have hc1 := inst_there j s m a v1 hP hj
        rw [← hxj] at hc1
        have HC1 := Lib.hid hc1
        clear hc1
        have HST : Hid (∀ W W', Po W w.heap.size P I 5 (L.set j (stepQ d y now (s, m, a)).2.2) → W.heap[G]? = some (.cells (un H).toArray 40 (0, 0)) → Below w.heap.size w W → ((¬ (d = 2 ∧ er = 0) ∧ ∃ n, W' = W.drewN n) ∨ (d = 2 ∧ er = 0 ∧ ∃ n, W' = (W.setCell ⟨G, x, none⟩ (.int .u32 (y : Int))).drewN n)) → MSt w P I G W') := fun W W' g1 g2 g3 g4 => by
          rcases g4 with ⟨g4, n, rfl⟩ | ⟨g4, g5, n, rfl⟩
          · exact mst_same g1 hL hI g2 hH hK hne hge g3 hj HNOW.out (by rw [← her]; exact g4) n
          · have := mst_put g1 hL hI g2 hH hK hne hge g3 hj HNOW.out g4 (by rw [← her]; exact g5) n
            rw [← hxj] at this
            exact this
        have HD : Hid (∀ W, Below v1.heap.size v1 W → Calls Try.prog 9 #[.pointer (some ⟨P, 0, none⟩), .agg #[.int .u8 d, .int .u32 (x : Int), .int .u32 (y : Int), .int .i64 now]] W fun r w' => r = .returned (.tuple #[.int .u32 q1, .int .i64 er]) ∧ Po w' w.heap.size P I 5 (L.set j (s', m', a')) ∧ Gr I W w') := fun W hW => by
          have := do_there j (s, m, a) y now W (hP.after hW) hj (hI _ (List.mem_of_getElem? hj)) d hd
          unfold Ret2 at this
          rw [← hq, ← her, ← hq1, ← hxj] at this
          exact this
        obtain ⟨hv, hhv⟩ : ∃ hv : Nat, hs3 s' → (if d = 2 ∧ er = 0 then y else (H[x]?).getD 0) = hv ∧ (hv : Int) = m' := by
          by_cases h3 : hs3 s'
          · by_cases h2 : d = 2 ∧ er = 0
            · exact ⟨y, fun _ => ⟨if_pos h2, (f2 h2.2 h2.1).2.symm⟩⟩
            · have : ∃ h : Nat, H[x]? = some h ∧ (h : Int) = m' := by
                by_cases h0 : er = 0
                · obtain ⟨g1, g2⟩ := f3 h0 (fun h => h2 ⟨h, h0⟩) h3
                  obtain ⟨h, e1, e2⟩ := hK j _ hj g2
                  rw [← hxj] at e1
                  exact ⟨h, e1, e2.trans g1.symm⟩
                · have e := f1 h0
                  injection e with e1 e2
                  injection e2 with e2 e3
                  subst e1 e2
                  have := hK j _ hj h3
                  rw [← hxj] at this
                  exact this
              obtain ⟨h, e1, e2⟩ := this
              exact ⟨h, fun _ => ⟨by rw [if_neg h2, e1]; rfl, e2⟩⟩
          · exact ⟨0, fun h => absurd h h3⟩
        have hHl : ∃ h0 : Nat, H[x]? = some h0 := ⟨H[x]'(by omega), List.getElem?_eq_getElem _⟩
        obtain ⟨h0, hh0⟩ := hHl
        rw [hh0] at hhv
        simp only [Option.getD_some] at hhv
        have HHH := Lib.hid hh0
        have HLJ := Lib.hid hj
        have HPV := Lib.hid hP
        have HGB := Lib.hid hGB
        have HNE := Lib.hid hne
        have HBB := Lib.hid hB
        have HQ := Lib.hid hq
        have HIL : Hid (I < v1.heap.size) := lt_of_block hP.2.2.2.2
        have HIL2 : Hid (I < wr.heap.size) := by
          obtain ⟨_, _, h1, _⟩ := HM.out
          exact lt_of_block h1.2.2.2.2
        have HXJ := Lib.hid hxj
        have F1 := Lib.hid f1
        have F4 := Lib.hid f4
        have HF2 := Lib.hid f2
        have HHV := Lib.hid hhv
        have HZ5 := Lib.hid hz5
        clear hhv hh0 hj hP hGB hne hB hq f1 f2 f3 f4 her hq1 hxj hK hI hH hge hz5 hd
        go_upto_region 9 with (fail)
        rw [← HV1.out]
        obtain ⟨t0, t1, t2, t3⟩ := HCA.out v1 HQV1.out
        clear d0 d1 d2 d3
        go_wp2_with fail
        refine HC1.out.mono ?_
        rintro r v2 ⟨rfl, hb⟩
        obtain ⟨v3, hv3⟩ : ∃ v3, v3 = v2.alloc (.cells (iC s m a) 42) := ⟨_, rfl⟩
        have HV3 := Lib.hid hv3
        have HB3 : Hid (Below v1.heap.size v1 v3) := by rw [hv3]; exact hb.alloc hb.size _
        have HQ3 : Hid (v3.heap[v2.heap.size]? = some (.cells (iC s m a) 42 (0, 0))) := by rw [hv3]; exact heap_alloc_new v2 _
        have HN3 : Hid (v2.heap.size ≠ I) := by have := hb.size; have := HIL.out; simp only [Hid]; omega
        clear hb hv3 t0 t1 t2 t3
        obtain ⟨t0, t1, t2, t3⟩ := HCA.out v3 ((HB3.out.block _ (lt_of_block HQV1.out)).trans HQV1.out)
        go_upto_region 10 with (fail)
        rw [← HV3.out]
        go_wp2_with fail
        refine (HD.out v3 HB3.out).mono ?_
        rintro r v4 ⟨rfl, hP4, hg4⟩
        have HP4 := Lib.hid hP4
        have HQA4 : Hid (v4.heap[wr.heap.size]? = some (.cells #[.int .u8 d, .int .u32 (x : Int), .int .u32 (y : Int), .int .i64 now] 31 (0, 0))) := hg4.keep ((HB3.out.block _ (lt_of_block HQV1.out)).trans HQV1.out) (by have := HIL2.out; omega)
        have HQ4 : Hid (v4.heap[v2.heap.size]? = some (.cells (iC s m a) 42 (0, 0))) := hg4.keep HQ3.out HN3.out
        have HGB4 : Hid (v4.heap[G]? = some (.cells (un H).toArray 40 (0, 0))) := hg4.keep ((HB3.out.block _ (lt_of_block HGB.out)).trans HGB.out) HNE.out
        have HBB4 : Hid (Below w.heap.size w v4) := (HBB.out.trans (HB3.out.mono HBB.out.size)).trans (hg4.below HPI.out (Nat.le_trans HBB.out.size HB3.out.size))
        have hc4 := inst_there j s' m' a' v4 hP4 (set_at HLJ.out)
        rw [← HXJ.out] at hc4
        have HC4 := Lib.hid hc4
        clear hc4
        clear hP4 hg4 t0 t1 t2 t3
        obtain ⟨t0, t1, t2, t3⟩ := HCA.out v4 HQA4.out
        go_wp2_with fail
        refine HC4.out.mono ?_
        rintro r v5 ⟨rfl, hb⟩
        obtain ⟨v6, hv6⟩ : ∃ v6, v6 = v5.alloc (.cells (iC s' m' a') 42) := ⟨_, rfl⟩
        have HV6 := Lib.hid hv6
        have hB6 : Below v4.heap.size v4 v6 := by rw [hv6]; exact hb.alloc hb.size _
        have hq6 : v6.heap[v5.heap.size]? = some (.cells (iC s' m' a') 42 (0, 0)) := by rw [hv6]; exact heap_alloc_new v5 _
        have HP6 : Hid (Po v6 w.heap.size P I 5 (L.set j (stepQ d y now (s, m, a)).2.2)) := by simp only [Hid]; rw [← HQ.out]; exact HP4.out.after hB6
        have HGB6 : Hid (v6.heap[G]? = some (.cells (un H).toArray 40 (0, 0))) := (hB6.block _ (lt_of_block HGB4.out)).trans HGB4.out
        have HBB6 : Hid (Below w.heap.size w v6) := HBB4.out.trans (hB6.mono HBB4.out.size)
        have HQA6 : Hid (v6.heap[wr.heap.size]? = some (.cells #[.int .u8 d, .int .u32 (x : Int), .int .u32 (y : Int), .int .i64 now] 31 (0, 0))) := (hB6.block _ (lt_of_block HQA4.out)).trans HQA4.out
        have hq7 := (hB6.block _ (lt_of_block HQ4.out)).trans HQ4.out
        have HHG : Hid (∀ W : World, W.heap[G]? = some (.cells (un H).toArray 40 (0, 0)) → W.cell? ⟨G, x, none⟩ = some (.int .u32 (h0 : Int))) := fun W e => by rw [cell_of_row W G x _ _ _ e]; exact un_get HHH.out
        have hn1 : G ≠ wr.heap.size := fun e => by
          have h1 := HGB6.out
          rw [e, HQA6.out] at h1
          injection h1 with h1
          injection h1 with _ h1 _
          exact absurd h1 (by decide)
        have hn2 : G ≠ v2.heap.size := fun e => by
          have h1 := HGB6.out
          rw [e, hq7] at h1
          injection h1 with h1
          injection h1 with _ h1 _
          exact absurd h1 (by decide)
        have hn3 : G ≠ v5.heap.size := fun e => by
          have h1 := HGB6.out
          rw [e, hq6] at h1
          injection h1 with h1
          injection h1 with _ h1 _
          exact absurd h1 (by decide)
        have HCX : Hid (∀ W : World, (∀ k, k ≠ G → W.heap[k]? = v6.heap[k]?) → (W.cell? ⟨wr.heap.size, 0, none⟩ = some (.int .u8 d) ∧ W.cell? ⟨wr.heap.size, 1, none⟩ = some (.int .u32 (x : Int)) ∧ W.cell? ⟨wr.heap.size, 2, none⟩ = some (.int .u32 (y : Int)) ∧ W.cell? ⟨wr.heap.size, 3, none⟩ = some (.int .i64 now)) ∧ (W.cell? ⟨v2.heap.size, 0, none⟩ = some (.int .i64 s) ∧ W.cell? ⟨v2.heap.size, 1, none⟩ = some (.int .u32 m) ∧ W.cell? ⟨v2.heap.size, 2, none⟩ = some (.int .i64 a)) ∧ (W.cell? ⟨v5.heap.size, 0, none⟩ = some (.int .i64 s') ∧ W.cell? ⟨v5.heap.size, 1, none⟩ = some (.int .u32 m') ∧ W.cell? ⟨v5.heap.size, 2, none⟩ = some (.int .i64 a'))) := fun W hW => by
          have e1 := (hW _ (fun e => hn1 e.symm)).trans HQA6.out
          have e2 := (hW _ (fun e => hn2 e.symm)).trans hq7
          have e3 := (hW _ (fun e => hn3 e.symm)).trans hq6
          exact ⟨⟨cell_of_row W _ 0 _ _ _ e1, cell_of_row W _ 1 _ _ _ e1, cell_of_row W _ 2 _ _ _ e1, cell_of_row W _ 3 _ _ _ e1⟩, ⟨cell_of_row W _ 0 _ _ _ e2, cell_of_row W _ 1 _ _ _ e2, cell_of_row W _ 2 _ _ _ e2⟩, ⟨cell_of_row W _ 0 _ _ _ e3, cell_of_row W _ 1 _ _ _ e3, cell_of_row W _ 2 _ _ _ e3⟩⟩
        have HFZ : Hid (v6.frozen? ⟨G, x, none⟩ = false) := frozen_of_row v6 G _ _ _ HGB6.out
        clear hb hv6 hB6 hq6 hq7 t0 t1 t2 t3 hn1 hn2 hn3
        obtain ⟨⟨t0, t1, t2, t3⟩, ⟨a0, a1, a2⟩, ⟨z0, z1, z2⟩⟩ := HCX.out v6 (fun _ _ => rfl)
        go_upto_region 12 with (fail)
        rw [← HV6.out]
        go_upto_region 14 with (fail)
        by_cases her : er = 0
        · subst her
          by_cases hd2 : d = 2
          · obtain ⟨g1, g2⟩ := HF2.out rfl hd2
            have hm : m' = (y : Int) := g2
            subst hd2 g1 hm
            obtain ⟨v7, hv7⟩ : ∃ v7, v7 = v6.setCell ⟨G, x, none⟩ (.int .u32 (y : Int)) := ⟨_, rfl⟩
            have hg7 : v7.heap[G]? = some (.cells ((un H).toArray.setIfInBounds x (.int .u32 (y : Int))) 40 (0, 0)) := by rw [hv7]; exact heap_setCell_same v6 G x _ 40 _ HGB6.out
            have c7 : v7.cell? ⟨G, x, none⟩ = some (.int .u32 (y : Int)) := by
              rw [cell_of_row v7 G x _ _ _ hg7, Array.getElem?_setIfInBounds_self_of_lt (by rw [List.size_toArray]; simp only [un, List.length_map]; exact (List.getElem?_eq_some_iff.1 HHH.out).1)]
            have hh := HHG.out v6 HGB6.out
            have hfz := HFZ.out
            have HT7 := Lib.hid (HCX.out v7 (fun k hk => by rw [hv7]; exact Below.heap_setCell _ _ _ _ hk))
            have H7 := Lib.hid hv7
            have HC7 := Lib.hid c7
            clear hg7 hv7 c7
            go_upto_region 19 with (fail)
            rw [← H7.out]
            clear t0 t1 t2 t3 a0 a1 a2 z0 z1 z2 hh hfz
            obtain ⟨⟨t0, t1, t2, t3⟩, ⟨a0, a1, a2⟩, ⟨z0, z1, z2⟩⟩ := HT7.out
            have c7 := HC7.out
            go_upto_region 20 with (fail)
            go_quiet (fail)
            go_wp2_with fail
            go_roundw
            case rel => exact ⟨k + 1, by omega, by go_num, HST.out v6 _ HP6.out HGB6.out HBB6.out (.inr ⟨rfl, rfl, _, by rw [H7.out]⟩)⟩
            case measure => simp [intOf] <;> omega
          · have hn20 : ¬ (d = 2 ∧ (0 : Int) = 0) := by omega
            rcases (by omega : s' = 0 ∨ s' = 1 ∨ s' = 2 ∨ s' = 3 ∨ s' = 4 ∨ s' = 5) with hsc | hsc | hsc | hsc | hsc | hsc
            · obtain rfl : s' = 0 := hsc
              have hm : m' = 0 := HZ5.out (by decide)
              rw [hm] at z1
              clear hm
              go_upto_region 20 with (fail)
              go_quiet (fail)
              go_wp2_with fail
              go_roundw
              case rel => exact ⟨k + 1, by omega, by go_num, HST.out v6 _ HP6.out HGB6.out HBB6.out (.inl ⟨by omega, _, rfl⟩)⟩
              case measure => simp [intOf] <;> omega
            · obtain rfl : s' = 1 := hsc
              have hm : m' = 0 := HZ5.out (by decide)
              rw [hm] at z1
              clear hm
              go_upto_region 20 with (fail)
              go_quiet (fail)
              go_wp2_with fail
              go_roundw
              case rel => exact ⟨k + 1, by omega, by go_num, HST.out v6 _ HP6.out HGB6.out HBB6.out (.inl ⟨by omega, _, rfl⟩)⟩
              case measure => simp [intOf] <;> omega
            · obtain rfl : s' = 2 := hsc
              obtain ⟨g1, g2⟩ := HHV.out (by decide)
              rw [if_neg (by omega)] at g1
              have hm : m' = (h0 : Int) := by omega
              clear g1 g2
              rw [hm] at z1
              clear hm
              have hh := HHG.out v6 HGB6.out
              go_upto_region 20 with (fail)
              go_quiet (fail)
              go_wp2_with fail
              go_roundw
              case rel => exact ⟨k + 1, by omega, by go_num, HST.out v6 _ HP6.out HGB6.out HBB6.out (.inl ⟨by omega, _, rfl⟩)⟩
              case measure => simp [intOf] <;> omega
            · obtain rfl : s' = 3 := hsc
              obtain ⟨g1, g2⟩ := HHV.out (by decide)
              rw [if_neg (by omega)] at g1
              have hm : m' = (h0 : Int) := by omega
              clear g1 g2
              rw [hm] at z1
              clear hm
              have hh := HHG.out v6 HGB6.out
              go_upto_region 20 with (fail)
              go_quiet (fail)
              go_wp2_with fail
              go_roundw
              case rel => exact ⟨k + 1, by omega, by go_num, HST.out v6 _ HP6.out HGB6.out HBB6.out (.inl ⟨by omega, _, rfl⟩)⟩
              case measure => simp [intOf] <;> omega
            · obtain rfl : s' = 4 := hsc
              obtain ⟨g1, g2⟩ := HHV.out (by decide)
              rw [if_neg (by omega)] at g1
              have hm : m' = (h0 : Int) := by omega
              clear g1 g2
              rw [hm] at z1
              clear hm
              have hh := HHG.out v6 HGB6.out
              rcases F4.out rfl with rfl | rfl
              · go_upto_region 20 with (fail)
                go_quiet (fail)
                go_wp2_with fail
                go_roundw
                case rel => exact ⟨k + 1, by omega, by go_num, HST.out v6 _ HP6.out HGB6.out HBB6.out (.inl ⟨by omega, _, rfl⟩)⟩
                case measure => simp [intOf] <;> omega
              · go_upto_region 20 with (fail)
                go_quiet (fail)
                go_wp2_with fail
                go_roundw
                case rel => exact ⟨k + 1, by omega, by go_num, HST.out v6 _ HP6.out HGB6.out HBB6.out (.inl ⟨by omega, _, rfl⟩)⟩
                case measure => simp [intOf] <;> omega
            · obtain rfl : s' = 5 := hsc
              have hm : m' = 0 := HZ5.out (by decide)
              rw [hm] at z1
              clear hm
              go_upto_region 20 with (fail)
              go_quiet (fail)
              go_wp2_with fail
              go_roundw
              case rel => exact ⟨k + 1, by omega, by go_num, HST.out v6 _ HP6.out HGB6.out HBB6.out (.inl ⟨by omega, _, rfl⟩)⟩
              case measure => simp [intOf] <;> omega
        · have e := F1.out her
          injection e with e1 e2
          injection e2 with e2 e3
          subst e1 e2 e3
          have hn20 : ¬ (d = 2 ∧ er = 0) := by omega
          rcases (by omega : s' = 0 ∨ s' = 1 ∨ s' = 2 ∨ s' = 3 ∨ s' = 4 ∨ s' = 5) with hsc | hsc | hsc | hsc | hsc | hsc
          · obtain rfl : s' = 0 := hsc
            have hm : m' = 0 := HZ5.out (by decide)
            rw [hm] at z1 a1
            clear hm
            by_cases hd2 : d = 2
            · subst hd2
              go_upto_region 20 with (fail)
              go_quiet (fail)
              go_wp2_with fail
              go_roundw
              case rel => exact ⟨k + 1, by omega, by go_num, HST.out v6 _ HP6.out HGB6.out HBB6.out (.inl ⟨by omega, _, rfl⟩)⟩
              case measure => simp [intOf] <;> omega
            · go_upto_region 20 with (fail)
              go_quiet (fail)
              go_wp2_with fail
              go_roundw
              case rel => exact ⟨k + 1, by omega, by go_num, HST.out v6 _ HP6.out HGB6.out HBB6.out (.inl ⟨by omega, _, rfl⟩)⟩
              case measure => simp [intOf] <;> omega
          · obtain rfl : s' = 1 := hsc
            have hm : m' = 0 := HZ5.out (by decide)
            rw [hm] at z1 a1
            clear hm
            by_cases hd2 : d = 2
            · subst hd2
              go_upto_region 20 with (fail)
              go_quiet (fail)
              go_wp2_with fail
              go_roundw
              case rel => exact ⟨k + 1, by omega, by go_num, HST.out v6 _ HP6.out HGB6.out HBB6.out (.inl ⟨by omega, _, rfl⟩)⟩
              case measure => simp [intOf] <;> omega
            · go_upto_region 20 with (fail)
              go_quiet (fail)
              go_wp2_with fail
              go_roundw
              case rel => exact ⟨k + 1, by omega, by go_num, HST.out v6 _ HP6.out HGB6.out HBB6.out (.inl ⟨by omega, _, rfl⟩)⟩
              case measure => simp [intOf] <;> omega
          · obtain rfl : s' = 2 := hsc
            obtain ⟨g1, g2⟩ := HHV.out (by decide)
            rw [if_neg (by omega)] at g1
            have hm : m' = (h0 : Int) := by omega
            clear g1 g2
            rw [hm] at z1 a1
            clear hm
            have hh := HHG.out v6 HGB6.out
            by_cases hd2 : d = 2
            · subst hd2
              go_upto_region 20 with (fail)
              go_quiet (fail)
              go_wp2_with fail
              go_roundw
              case rel => exact ⟨k + 1, by omega, by go_num, HST.out v6 _ HP6.out HGB6.out HBB6.out (.inl ⟨by omega, _, rfl⟩)⟩
              case measure => simp [intOf] <;> omega
            · go_upto_region 20 with (fail)
              go_quiet (fail)
              go_wp2_with fail
              go_roundw
              case rel => exact ⟨k + 1, by omega, by go_num, HST.out v6 _ HP6.out HGB6.out HBB6.out (.inl ⟨by omega, _, rfl⟩)⟩
              case measure => simp [intOf] <;> omega
          · obtain rfl : s' = 3 := hsc
            obtain ⟨g1, g2⟩ := HHV.out (by decide)
            rw [if_neg (by omega)] at g1
            have hm : m' = (h0 : Int) := by omega
            clear g1 g2
            rw [hm] at z1 a1
            clear hm
            have hh := HHG.out v6 HGB6.out
            by_cases hd2 : d = 2
            · subst hd2
              go_upto_region 20 with (fail)
              go_quiet (fail)
              go_wp2_with fail
              go_roundw
              case rel => exact ⟨k + 1, by omega, by go_num, HST.out v6 _ HP6.out HGB6.out HBB6.out (.inl ⟨by omega, _, rfl⟩)⟩
              case measure => simp [intOf] <;> omega
            · go_upto_region 20 with (fail)
              go_quiet (fail)
              go_wp2_with fail
              go_roundw
              case rel => exact ⟨k + 1, by omega, by go_num, HST.out v6 _ HP6.out HGB6.out HBB6.out (.inl ⟨by omega, _, rfl⟩)⟩
              case measure => simp [intOf] <;> omega
          · obtain rfl : s' = 4 := hsc
            obtain ⟨g1, g2⟩ := HHV.out (by decide)
            rw [if_neg (by omega)] at g1
            have hm : m' = (h0 : Int) := by omega
            clear g1 g2
            rw [hm] at z1 a1
            clear hm
            have hh := HHG.out v6 HGB6.out
            by_cases hd2 : d = 2
            · subst hd2
              go_upto_region 20 with (fail)
              go_quiet (fail)
              go_wp2_with fail
              go_roundw
              case rel => exact ⟨k + 1, by omega, by go_num, HST.out v6 _ HP6.out HGB6.out HBB6.out (.inl ⟨by omega, _, rfl⟩)⟩
              case measure => simp [intOf] <;> omega
            · go_upto_region 20 with (fail)
              go_quiet (fail)
              go_wp2_with fail
              go_roundw
              case rel => exact ⟨k + 1, by omega, by go_num, HST.out v6 _ HP6.out HGB6.out HBB6.out (.inl ⟨by omega, _, rfl⟩)⟩
              case measure => simp [intOf] <;> omega
          · obtain rfl : s' = 5 := hsc
            have hm : m' = 0 := HZ5.out (by decide)
            rw [hm] at z1 a1
            clear hm
            by_cases hd2 : d = 2
            · subst hd2
              go_upto_region 20 with (fail)
              go_quiet (fail)
              go_wp2_with fail
              go_roundw
              case rel => exact ⟨k + 1, by omega, by go_num, HST.out v6 _ HP6.out HGB6.out HBB6.out (.inl ⟨by omega, _, rfl⟩)⟩
              case measure => simp [intOf] <;> omega
            · go_upto_region 20 with (fail)
              go_quiet (fail)
              go_wp2_with fail
              go_roundw
              case rel => exact ⟨k + 1, by omega, by go_num, HST.out v6 _ HP6.out HGB6.out HBB6.out (.inl ⟨by omega, _, rfl⟩)⟩
              case measure => simp [intOf] <;> omega
    · have hkn : k = n := by omega
      subst hkn
      have HBF : Hid (Below w.heap.size w wr) := by
        obtain ⟨_, _, _, _, _, _, _, _, _, _, h⟩ := HM.out
        exact h
      go_wp2_with fail
      refine (HAW.out wr).mono ?_
      rintro r w9 ⟨rfl, hb⟩
      have HB9 := Lib.hid (HBF.out.trans (hb.mono HBF.out.size))
      clear hb
      go_wp2
      go_ret
      exact ⟨rfl, HB9.out⟩
end Go.Proofs.Ytddjbkaofodmlaa
