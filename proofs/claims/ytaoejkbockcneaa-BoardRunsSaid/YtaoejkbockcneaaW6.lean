/- Board: BoardRuns' walk. -/
import Derived.Test.YtaoejkbockcneaaW5
namespace Go.Proofs.Ytaoejkbockcneaa.Bd
open Go.RowKit Go.Maps
set_option maxRecDepth 20000
set_option linter.unusedVariables false
set_option linter.unusedSimpArgs false

theorem IsB.map {w : World} {L M cnt : Nat} {D : DataW Unit} (h : IsB w L M cnt D) : ∃ (es : Array MapEntry) (cl : Nat), w.heap[M]? = some (Obj.map es cl) := by
  obtain ⟨h1, es, clock, hb, _⟩ := h
  exact ⟨es, clock, hb⟩
theorem chm_cells {M X t L cnt : Nat} {w w' : World} {D : DataW Unit} {cs : Array Value} (hc : ChM M w w') (hl : IsB w L M cnt D) (h : w.heap[X]? = some (.cells cs t (0, 0))) : w'.heap[X]? = some (.cells cs t (0, 0)) := by
  obtain ⟨es, cl, hm⟩ := hl.map
  exact (hc.2.1 X (lt_of_block h) (fun e => by rw [e, hm] at h; cases h)).trans h
theorem Ms.chm {w w' : World} {M L cnt : Nat} {D : DataW Unit} {A : Option Addr} {l : List Mk} (h : Ms w A l) (hc : ChM M w w') (hl : IsB w L M cnt D) : Ms w' A l := h.keep fun b cc hb => (chm_cells hc hl hb).trans hb.symm
theorem Rd.chm {w w' : World} {M L cnt : Nat} {D : DataW Unit} {v : Value} {m : Nat} {xs : List Value} (h : Rd w v m xs) (hc : ChM M w w') (hl : IsB w L M cnt D) : Rd w' v m xs := by
  obtain ⟨A, c, e, h⟩ := h
  obtain ⟨es, cl, hm⟩ := hl.map
  refine ⟨A, c, e, fun h0 => ?_⟩
  obtain ⟨b, e1, e2, e3⟩ := h h0
  refine ⟨b, e1, Nat.lt_of_lt_of_le e2 hc.2.2, fun j x hx => ?_⟩
  have h1 := e3 j x hx
  by_cases hb : b = M
  · subst hb
    unfold World.cell? at h1
    simp [hm] at h1
  · exact (World.cell?_of_block (a := ⟨b, _, none⟩) (hc.2.1 b e2 hb)).trans h1
/-- How things stand. -/
structure Bs (w : World) (L M j : Nat) (l : List Mk) (A : Option Addr) (m : Nat) (N : Nat → Int × Int) (W : World) : Prop where
  b : ∃ D, IsB W L M (size D) D ∧ Rep D N ∧ size D ≤ j
  rm : Rm N l
  nd : NdM l
  len : m = l.length
  le : m ≤ j
  ms : Ms W A l
  bel : Below w.heap.size w W
theorem Bs.below {w W W' : World} {L M j m : Nat} {l : List Mk} {A : Option Addr} {N : Nat → Int × Int} (h : Bs w L M j l A m N W) (hb : Below W.heap.size W W') : Bs w L M j l A m N W' := by
  obtain ⟨D, h1, h2, h3⟩ := h.b
  exact ⟨⟨D, h1.below hb, h2, h3⟩, h.rm, h.nd, h.len, h.le, h.ms.below hb, h.bel.trans (hb.mono h.bel.size)⟩
theorem setB (L M p : Nat) (D : DataW Unit) (N : Nat → Int × Int) (l : List Mk) (x : Int) (w : World) (hL : IsB w L M (size D) D) (hN : Rep D N) (hr : Rm N l) (hnd : NdM l) (hsz : size D ≤ 100) :
    Calls Try.prog 32 #[.pointer (some ⟨L, 0, none⟩), .int .u32 (p : Int), .int .i64 x] w fun r w' => r = .returned (.tuple #[]) ∧ (∃ N' D', IsB w' L M (size D') D' ∧ Rep D' N' ∧ size D' ≤ size D + 1 ∧ Rm N' (setL p x l)) ∧ ChM M w w' := by
  unfold setL
  by_cases h : 1 ≤ p ∧ p ≤ 2147483647
  · rw [if_pos h]
    exact (setD_yes L M (size D) p D N x w hL hN h.1 h.2 (by omega)).mono fun r w' ⟨h1, h2, h3⟩ => ⟨h1, ⟨_, _, h2.norm, hN.keep p (nrm x) (N p).2, (size_keepD (hL.2.tidy K26) p _ _).1, hr.set p (nrm x)⟩, h3⟩
  · rw [if_neg h]
    exact (set_no L p x (by omega) w).mono fun r w' ⟨h1, h2⟩ => ⟨h1, by rw [h2]; exact ⟨⟨N, D, hL, hN, by omega, hr⟩, ChM.of_below (Below.refl _ _)⟩⟩
theorem setL_nd {p : Nat} {x : Int} {l : List Mk} (h : NdM l) : NdM (setL p x l) := by
  unfold setL
  split
  · rename_i hp; exact setM_nd h p (nrm x) hp
  · exact h
theorem setL_len (p : Nat) (x : Int) (l : List Mk) : (setL p x l).length ≤ l.length + 1 := by
  unfold setL
  split
  · exact setM_len _ _ _
  · omega
set_option maxHeartbeats 16000000 in
theorem runs_walk (HSORT : Hid SortOk) (u : Option Addr × Nat) (acts : List Ac3) (w : World) (hs : As3 w w.heap.size u.1 acts) (hl : acts.length ≤ 9223372036854775807) (hwf : ∀ e ∈ acts, e.2.1 < 4294967296) :
    Calls Try.prog 8 #[.slice u.1 acts.length u.2] w fun r w' => r = .returned (.bool true) ∧ Below w.heap.size w w' := by
  obtain ⟨E, ec⟩ := u
  obtain ⟨n, hn⟩ : ∃ n, n = acts.length := ⟨_, rfl⟩
  simp only at hs ⊢
  rw [← hn] at hl ⊢
  have HA := Lib.hid hs
  have HNN := Lib.hid hn
  have HWF := Lib.hid hwf
  clear hs hn hwf
  by_cases h80 : n > 80
  · go_enter Try.func8, Try.ntmps8
    go_wp2
    go_ret
    exact ⟨rfl, Below.refl _ _⟩
  obtain ⟨L, hL⟩ : ∃ L, L = w.heap.size + 1 := ⟨_, rfl⟩
  obtain ⟨M, hM⟩ : ∃ M, M = w.heap.size := ⟨_, rfl⟩
  have HN : Hid (Calls Try.prog 28 #[] w fun e w' => e = .returned (.pointer (some ⟨L, 0, none⟩)) ∧ IsB w' L M 0 (.map []) ∧ Below w.heap.size w w') := by
    rw [hL, hM]
    exact new_any w
  have HM := Lib.hid hM
  have HAW := Lib.hid awake_any
  clear hL hM
  go_enter Try.func8, Try.ntmps8
  go_wp2_with fail
  refine HN.out.mono ?_
  rintro r w1 ⟨rfl, hI1, hB1⟩
  have HS : Hid (Bs w L M 0 [] none 0 (fun _ => (0, 0)) w1) := ⟨⟨.map [], hI1, Rep.start, Nat.le_refl _⟩, fun p => rfl, ⟨List.Pairwise.nil, fun e he => by cases he⟩, rfl, Nat.le_refl _, Ms.nil w1 none, hB1⟩
  clear hI1 hB1
  go_wp2_with fail
  go_loopw [4, 5] (fun x i wr => ∃ (k : Nat) (l : List Mk) (A : Option Addr) (m c : Nat) (N : Nat → Int × Int), k ≤ n ∧ x = .slice A m c ∧ i = .int .i64 (k : Int) ∧ Hid (Bs w L M k l A m N wr)) (fun _ i _ => n - (intOf i).toNat)
  case atStart => exact ⟨0, [], none, 0, 0, _, Nat.zero_le _, rfl, rfl, HS⟩
  case round =>
    obtain ⟨k, l, A, m, c, N, hk, rfl, rfl, HS0⟩ := hrel
    by_cases hlt : k < n
    · obtain ⟨⟨fl, p, st⟩, he⟩ : ∃ e, acts[k]? = some e := ⟨acts[k]'(by have := HNN.out; omega), List.getElem?_eq_getElem _⟩
      obtain ⟨b, o, rfl, hbw, hat⟩ := HA.out (by have := HNN.out; omega)
      obtain ⟨a0, a1, a2⟩ := hat k _ he
      have HPB : Hid (p < 4294967296) := HWF.out _ (List.mem_of_getElem? he)
      have d0 := (HS0.out.bel.cell (p := ⟨b, _, none⟩) hbw).trans a0
      have d1 := (HS0.out.bel.cell (p := ⟨b, _, none⟩) hbw).trans a1
      have d2 := (HS0.out.bel.cell (p := ⟨b, _, none⟩) hbw).trans a2
      simp only at d0 d1 d2
      clear a0 a1 a2 hat he hbw
      cases fl with
      | true =>
        obtain ⟨X, hX⟩ : ∃ X, X = wr.heap.size := ⟨_, rfl⟩
        obtain ⟨v1, hv1⟩ : ∃ v1, v1 = wr.alloc (.cells #[.bool true, .int .u32 (p : Int), .int .i64 st] 62) := ⟨_, rfl⟩
        have hbv1 : Below wr.heap.size wr v1 := by rw [hv1]; exact (Below.refl _ _).alloc (Nat.le_refl _) _
        have HQX : Hid (v1.heap[X]? = some (.cells #[.bool true, .int .u32 (p : Int), .int .i64 st] 62 (0, 0))) := by rw [hv1, hX]; exact heap_alloc_new wr _
        have HS1 : Hid (Bs w L M k l A m N v1) := HS0.out.below hbv1
        have HV1 := Lib.hid hv1
        have HXX := Lib.hid hX
        clear hv1 hX hbv1
        have HFL := Lib.hid (rflush A m c l v1 HS1.out.len HS1.out.ms (by have := HS1.out.le; omega) HS1.out.nd)
        go_upto_region 11 with (fail)
        rw [← HV1.out, ← HXX.out]
        clear d0 d1 d2
        have t0 := cell_of_row v1 X 0 _ _ _ HQX.out
        simp at t0
        go_wp2_with fail
        refine HFL.out.mono ?_
        rintro r w2 ⟨u1, u2, B, c2, m2, zs, rfl, hz1, hz2, hr1, hr2, hm2, hms2, hb2⟩
        have HR2 := Lib.hid (And.intro hr1 hr2)
        have HZ2 := Lib.hid (And.intro hz1 hz2)
        have HM2 := Lib.hid (And.intro hm2 hms2)
        have HS2 : Hid (Bs w L M k l A m N w2) := HS1.out.below hb2
        have HX2 : Hid (w2.heap[X]? = some (.cells #[.bool true, .int .u32 (p : Int), .int .i64 st] 62 (0, 0))) := (hb2.block X (lt_of_block HQX.out)).trans HQX.out
        have HFD : Hid (Calls Try.prog 31 #[.pointer (some ⟨L, 0, none⟩)] w2 fun r w' => (∃ v l', r = .returned v ∧ Tells N l' ∧ (l'.map Prod.fst).Pairwise (· ≤ ·) ∧ Rw w2 w' v l') ∧ (∃ D', IsB w' L M (size D') D' ∧ Rep D' (toldN N) ∧ size D' ≤ k) ∧ ChM M w2 w' ∧ ∃ D, IsB w2 L M (size D) D) := by
          obtain ⟨D, g1, g2, g3⟩ := HS2.out.b
          exact (flushD HSORT L M D N w2 g1 g2 (by omega)).mono fun r w' ⟨⟨v, l', e1, e2, _, e3, e4⟩, ⟨D', f1, f2, f3⟩, h3⟩ => ⟨⟨v, l', e1, e2, e3, e4⟩, ⟨D', f1, f2, by omega⟩, h3, D, g1⟩
        have HCH : Hid (∀ p, p ∈ chg l ↔ seen (N p).1 ≠ (N p).2) := chg_mem HS2.out.rm HS2.out.nd
        clear hz1 hz2 hr1 hr2 hm2 hms2 hb2 t0
        go_wp2_with fail
        refine HFD.out.mono ?_
        rintro r w3 ⟨⟨v, t, rfl, ht, hsr, hrw⟩, hbD, hch, D, hD⟩
        have hB3 : Below w.heap.size w w3 := HS2.out.bel.trans (hch.1 _ (by rw [HM.out]; exact Nat.le_refl _) HS2.out.bel.size)
        have HS3 : Hid (Bs w L M k (l.map toldM) B m2 (toldN N) w3) := ⟨hbD, HS2.out.rm.told, told_nd HS2.out.nd, by rw [List.length_map]; exact HM2.out.1, by rw [HM2.out.1, ← HS2.out.len]; exact HS2.out.le, HM2.out.2.chm hch hD, hB3⟩
        have HX3 : Hid (w3.heap[X]? = some (.cells #[.bool true, .int .u32 (p : Int), .int .i64 st] 62 (0, 0))) := chm_cells hch hD HX2.out
        obtain ⟨av, cv, rfl, hrow⟩ := hrw
        have hzN : zs.map (fun p : Nat => Value.int .i64 (seen (lookM l p).1)) = zs.map (fun p : Nat => Value.int .i64 (seen (N p).1)) := List.map_congr_left fun p _ => by rw [HS2.out.rm p]
        have hzl : zs.length ≤ 200 := by
          have e : t.length = zs.length := by rw [tells_eq ht hsr HZ2.out.1 (fun p => (HZ2.out.2 p).trans (HCH.out p)), List.length_map]
          have h1 : (zs.length : Nat) ≤ (chg l).length := by
            have hnd : zs.Nodup := HZ2.out.1.imp fun {a b} h => Nat.ne_of_lt h
            have hnd2 : (chg l).Nodup := HS2.out.nd.nd.sublist (List.filter_sublist.map _)
            exact Nat.le_of_eq ((List.perm_ext_iff_of_nodup hnd hnd2).2 (fun y => HZ2.out.2 y)).length_eq
          have h2 : (chg l).length ≤ l.length := by unfold chg; rw [List.length_map]; exact List.length_filter_le _ _
          have h3 := HS2.out.len
          have h4 := HS2.out.le
          omega
        have HLK := Lib.hid (likeB t zs N (.slice av t.length cv) u1 u2 w3 w3 (tells_eq ht hsr HZ2.out.1 (fun p => (HZ2.out.2 p).trans (HCH.out p))) ⟨av, cv, rfl, fun h => by obtain ⟨g, e1, _, e3, e4⟩ := hrow h; exact ⟨g, e1, e3, e4⟩⟩ (HR2.out.1.chm hch hD) (by rw [← hzN]; exact HR2.out.2.chm hch hD) hzl)
        clear ht hsr hbD hch hD hB3 hrow hzN hzl
        go_wp2_with fail
        refine HLK.out.mono ?_
        rintro r w4 ⟨rfl, hb4⟩
        have HS4 : Hid (Bs w L M (k + 1) (l.map toldM) B m2 (toldN N) w4) := by
          have h := HS3.out.below hb4
          obtain ⟨D, g1, g2, g3⟩ := h.b
          exact ⟨⟨D, g1, g2, by omega⟩, h.rm, h.nd, h.len, by have := h.le; omega, h.ms, h.bel⟩
        have HX4 : Hid (w4.heap[X]? = some (.cells #[.bool true, .int .u32 (p : Int), .int .i64 st] 62 (0, 0))) := (hb4.block X (lt_of_block HX3.out)).trans HX3.out
        clear hb4
        have HR18 : Hid (Below w4.heap.size w4 w4) := Below.refl _ _
        have HS18 : Hid (∀ W, Below w4.heap.size w4 W → (fun W : World => W.cell? ⟨X, 1, none⟩ = some (.int .u32 (p : Int)) ∧ W.cell? ⟨X, 2, none⟩ = some (.int .i64 st)) W) := fun W hW => by
          have e := (hW.block X (lt_of_block HX4.out)).trans HX4.out
          exact ⟨cell_of_row W X 1 _ _ _ e, cell_of_row W X 2 _ _ _ e⟩
        obtain ⟨sv, hsv⟩ : ∃ sv, sv = ((toldN N) p).1 := ⟨_, rfl⟩
        have HC34 : Hid (∀ W, Below w4.heap.size w4 W → Calls Try.prog 34 #[.pointer (some ⟨L, 0, none⟩), .int .u32 (p : Int)] W fun r w' => r = .returned (.int .i64 sv) ∧ Below W.heap.size W w') := fun W hW => by
          obtain ⟨D, g1, g2, g3⟩ := (HS4.out.below hW).b
          exact (statusD L M _ p D _ W g1 g2 HPB.out).mono fun r w' ⟨e1, e2⟩ => ⟨by rw [hsv]; exact e1, by rw [e2]; exact Below.refl _ _⟩
        have HC35 : Hid (∀ W, Below w4.heap.size w4 W → Calls Try.prog 35 #[.slice B m2 c2, .int .u32 (p : Int)] W fun r w' => r = .returned (.int .i64 sv) ∧ Below W.heap.size W w') := fun W hW => by
          have hb := HS4.out.below hW
          exact (rstatus B m2 c2 p _ W hb.len hb.ms (by have := hb.le; omega)).mono fun r w' ⟨e1, e2⟩ => ⟨by rw [hsv, hb.rm p]; exact e1, by rw [e2]; exact Below.refl _ _⟩
        obtain ⟨qv, hqv⟩ : ∃ qv, qv = seen st := ⟨_, rfl⟩
        have HC36 : Hid (∀ W, Calls Try.prog 36 #[.int .i64 st] W fun r w' => r = .returned (.int .i64 qv) ∧ Below W.heap.size W w') := fun W => (seen_any st W).mono fun r w' ⟨e1, e2⟩ => ⟨by rw [hqv]; exact e1, by rw [e2]; exact Below.refl _ _⟩
        have HC37 : Hid (∀ W, Calls Try.prog 37 #[.int .i64 st] W fun r w' => r = .returned (.int .i64 qv) ∧ Below W.heap.size W w') := fun W => by rw [hqv]; exact rseen_any st W
        clear hsv hqv
        go_upto_region 18 with (fail)
        have HDa : Hid (Below w4.heap.size w4 w4.drew) := HR18.out.drew
        refine wp_region_held_drew (S := fun W : World => W.cell? ⟨X, 1, none⟩ = some (.int .u32 (p : Int)) ∧ W.cell? ⟨X, 2, none⟩ = some (.int .i64 st)) (by kernel_rfl) (HS18.out _ (HDa.out)) (fun hHeld => ?_)
        obtain ⟨Wa0, hW0⟩ : ∃ W0, W0 = w4.drew := ⟨_, rfl⟩
        rw [← hW0] at hHeld HDa ⊢
        clear hW0
        refine wpAnyH_take (i := 0) (oi := ?oi0a) (v := ?v0a) ?hi0a ?hs0a ?hf0a ?hr0a ?hQ0a ?hy0a ?hS0a ?h0a
        case hi0a => exact (by simp only [List.getElem?_toArray, List.getElem?_cons_zero]; rfl)
        case hs0a => kernel_rfl
        case hf0a => kernel_rfl
        case hr0a => kernel_rfl
        case hQ0a => exact fun _ _ _ h => h
        case hy0a =>
          refine Or.inl ⟨rfl, ?_⟩
          intro W hSw
          obtain ⟨y1, y2⟩ := hSw
          go_simp
          try with_reducible rfl
        case hS0a => assumption
        try simp only [Act.put, List.setIfInBounds_toArray, List.set_cons_zero, List.set_cons_succ]
        refine wpAnyH_take (i := 1) (oi := ?oi1a) (v := ?v1a) ?hi1a ?hs1a ?hf1a ?hr1a ?hQ1a ?hy1a ?hS1a ?h1a
        case hi1a => exact (by simp only [List.getElem?_toArray, List.getElem?_cons_succ, List.getElem?_cons_zero]; rfl)
        case hs1a => kernel_rfl
        case hf1a => kernel_rfl
        case hr1a => kernel_rfl
        case hQ1a => exact fun _ _ _ h => h
        case hy1a =>
          refine Or.inl ⟨rfl, ?_⟩
          intro W hSw
          obtain ⟨y1, y2⟩ := hSw
          go_simp
          try with_reducible rfl
        case hS1a => assumption
        try simp only [Act.put, List.setIfInBounds_toArray, List.set_cons_zero, List.set_cons_succ]
        refine wpAnyH_take (i := 2) (oi := ?oi2a) (v := ?v2a) ?hi2a ?hs2a ?hf2a ?hr2a ?hQ2a ?hy2a ?hS2a ?h2a
        case hi2a => exact (by simp only [List.getElem?_toArray, List.getElem?_cons_succ, List.getElem?_cons_zero]; rfl)
        case hs2a => kernel_rfl
        case hf2a => kernel_rfl
        case hr2a => kernel_rfl
        case hQ2a => exact fun _ _ _ h => h
        case hy2a =>
          refine Or.inl ⟨rfl, ?_⟩
          intro W hSw
          obtain ⟨y1, y2⟩ := hSw
          go_simp
          try with_reducible rfl
        case hS2a => assumption
        try simp only [Act.put, List.setIfInBounds_toArray, List.set_cons_zero, List.set_cons_succ]
        refine wpAnyH_take (i := 4) (oi := ?oi4a) (v := ?v4a) ?hi4a ?hs4a ?hf4a ?hr4a ?hQ4a ?hy4a ?hS4a ?h4a
        case hi4a => exact (by simp only [List.getElem?_toArray, List.getElem?_cons_succ, List.getElem?_cons_zero]; rfl)
        case hs4a => kernel_rfl
        case hf4a => kernel_rfl
        case hr4a => kernel_rfl
        case hQ4a => exact fun _ _ _ h => h
        case hy4a =>
          refine Or.inl ⟨rfl, ?_⟩
          intro W hSw
          obtain ⟨y1, y2⟩ := hSw
          go_simp
          try with_reducible rfl
        case hS4a => assumption
        try simp only [Act.put, List.setIfInBounds_toArray, List.set_cons_zero, List.set_cons_succ]
        refine wpAnyH_take (i := 5) (oi := ?oi5a) (v := ?v5a) ?hi5a ?hs5a ?hf5a ?hr5a ?hQ5a ?hy5a ?hS5a ?h5a
        case hi5a => exact (by simp only [List.getElem?_toArray, List.getElem?_cons_succ, List.getElem?_cons_zero]; rfl)
        case hs5a => kernel_rfl
        case hf5a => kernel_rfl
        case hr5a => kernel_rfl
        case hQ5a => exact fun _ _ _ h => h
        case hy5a =>
          refine Or.inl ⟨rfl, ?_⟩
          intro W hSw
          obtain ⟨y1, y2⟩ := hSw
          go_simp
          try with_reducible rfl
        case hS5a => assumption
        try simp only [Act.put, List.setIfInBounds_toArray, List.set_cons_zero, List.set_cons_succ]
        refine wpAnyH_take (i := 6) (oi := ?oi6a) (v := ?v6a) ?hi6a ?hs6a ?hf6a ?hr6a ?hQ6a ?hy6a ?hS6a ?h6a
        case hi6a => exact (by simp only [List.getElem?_toArray, List.getElem?_cons_succ, List.getElem?_cons_zero]; rfl)
        case hs6a => kernel_rfl
        case hf6a => kernel_rfl
        case hr6a => kernel_rfl
        case hQ6a => exact fun _ _ _ h => h
        case hy6a =>
          refine Or.inl ⟨rfl, ?_⟩
          intro W hSw
          obtain ⟨y1, y2⟩ := hSw
          go_simp
          try with_reducible rfl
        case hS6a => assumption
        try simp only [Act.put, List.setIfInBounds_toArray, List.set_cons_zero, List.set_cons_succ]
        refine wpAnyH_ready (rs := [3]) (by kernel_rfl) (by simp) ?_
        refine AllReadyH.cons (o := _) rfl (fun K hK => ?_) AllReadyH.nil
        go_simp
        refine ((HC34.out Wa0 HDa.out)).mono ?_
        rintro r Wa1 ⟨rfl, hbq⟩
        have HBa1 := Lib.hid (HDa.out.trans (hbq.mono HDa.out.size))
        clear hbq
        refine hK.out _ _ (HS18.out _ (HBa1.out)) (fun hHeld => ?_)
        clear hK K
        try simp only [Act.put, List.setIfInBounds_toArray, List.set_cons_zero, List.set_cons_succ]
        refine wpAnyH_ready (rs := [7]) (by kernel_rfl) (by simp) ?_
        refine AllReadyH.cons (o := _) rfl (fun K hK => ?_) AllReadyH.nil
        go_simp
        refine ((HC35.out Wa1 HBa1.out)).mono ?_
        rintro r Wa2 ⟨rfl, hbq⟩
        have HBa2 := Lib.hid (HBa1.out.trans (hbq.mono HBa1.out.size))
        clear hbq
        refine hK.out _ _ (HS18.out _ (HBa2.out)) (fun hHeld => ?_)
        clear hK K
        try simp only [Act.put, List.setIfInBounds_toArray, List.set_cons_zero, List.set_cons_succ]
        refine wpAnyH_take (i := 8) (oi := ?oi8a) (v := (.bool false)) ?hi8a ?hs8a ?hf8a ?hr8a ?hQ8a ?hy8a ?hS8a ?h8a
        case hi8a => exact (by simp only [List.getElem?_toArray, List.getElem?_cons_succ, List.getElem?_cons_zero]; rfl)
        case hs8a => kernel_rfl
        case hf8a => kernel_rfl
        case hr8a => kernel_rfl
        case hQ8a => exact fun _ _ _ h => h
        case hy8a =>
          refine Or.inl ⟨rfl, ?_⟩
          intro W hSw
          obtain ⟨y1, y2⟩ := hSw
          go_simp
          try simp
        case hS8a => assumption
        try simp only [Act.put, List.setIfInBounds_toArray, List.set_cons_zero, List.set_cons_succ]
        refine wpAnyH_take (i := 9) (oi := ?oi9a) (v := ?v9a) ?hi9a ?hs9a ?hf9a ?hr9a ?hQ9a ?hy9a ?hS9a ?h9a
        case hi9a => exact (by simp only [List.getElem?_toArray, List.getElem?_cons_succ, List.getElem?_cons_zero]; rfl)
        case hs9a => kernel_rfl
        case hf9a => kernel_rfl
        case hr9a => kernel_rfl
        case hQ9a => exact fun _ _ _ h => h
        case hy9a =>
          refine Or.inl ⟨rfl, ?_⟩
          intro W hSw
          obtain ⟨y1, y2⟩ := hSw
          go_simp
          try with_reducible rfl
        case hS9a => assumption
        try simp only [Act.put, List.setIfInBounds_toArray, List.set_cons_zero, List.set_cons_succ]
        refine wpAnyH_take (i := 10) (oi := ?oi10a) (v := ?v10a) ?hi10a ?hs10a ?hf10a ?hr10a ?hQ10a ?hy10a ?hS10a ?h10a
        case hi10a => exact (by simp only [List.getElem?_toArray, List.getElem?_cons_succ, List.getElem?_cons_zero]; rfl)
        case hs10a => kernel_rfl
        case hf10a => kernel_rfl
        case hr10a => kernel_rfl
        case hQ10a => exact fun _ _ _ h => h
        case hy10a =>
          refine Or.inl ⟨rfl, ?_⟩
          intro W hSw
          obtain ⟨y1, y2⟩ := hSw
          go_simp
          try with_reducible rfl
        case hS10a => assumption
        try simp only [Act.put, List.setIfInBounds_toArray, List.set_cons_zero, List.set_cons_succ]
        refine wpAnyH_take (i := 11) (oi := ?oi11a) (v := ?v11a) ?hi11a ?hs11a ?hf11a ?hr11a ?hQ11a ?hy11a ?hS11a ?h11a
        case hi11a => exact (by simp only [List.getElem?_toArray, List.getElem?_cons_succ, List.getElem?_cons_zero]; rfl)
        case hs11a => kernel_rfl
        case hf11a => kernel_rfl
        case hr11a => kernel_rfl
        case hQ11a => exact fun _ _ _ h => h
        case hy11a =>
          refine Or.inl ⟨rfl, ?_⟩
          intro W hSw
          obtain ⟨y1, y2⟩ := hSw
          go_simp
          try with_reducible rfl
        case hS11a => assumption
        try simp only [Act.put, List.setIfInBounds_toArray, List.set_cons_zero, List.set_cons_succ]
        refine wpAnyH_take (i := 13) (oi := ?oi13a) (v := ?v13a) ?hi13a ?hs13a ?hf13a ?hr13a ?hQ13a ?hy13a ?hS13a ?h13a
        case hi13a => exact (by simp only [List.getElem?_toArray, List.getElem?_cons_succ, List.getElem?_cons_zero]; rfl)
        case hs13a => kernel_rfl
        case hf13a => kernel_rfl
        case hr13a => kernel_rfl
        case hQ13a => exact fun _ _ _ h => h
        case hy13a =>
          refine Or.inl ⟨rfl, ?_⟩
          intro W hSw
          obtain ⟨y1, y2⟩ := hSw
          go_simp
          try with_reducible rfl
        case hS13a => assumption
        try simp only [Act.put, List.setIfInBounds_toArray, List.set_cons_zero, List.set_cons_succ]
        refine wpAnyH_take (i := 14) (oi := ?oi14a) (v := ?v14a) ?hi14a ?hs14a ?hf14a ?hr14a ?hQ14a ?hy14a ?hS14a ?h14a
        case hi14a => exact (by simp only [List.getElem?_toArray, List.getElem?_cons_succ, List.getElem?_cons_zero]; rfl)
        case hs14a => kernel_rfl
        case hf14a => kernel_rfl
        case hr14a => kernel_rfl
        case hQ14a => exact fun _ _ _ h => h
        case hy14a =>
          refine Or.inl ⟨rfl, ?_⟩
          intro W hSw
          obtain ⟨y1, y2⟩ := hSw
          go_simp
          try with_reducible rfl
        case hS14a => assumption
        try simp only [Act.put, List.setIfInBounds_toArray, List.set_cons_zero, List.set_cons_succ]
        refine wpAnyH_ready (rs := [12]) (by kernel_rfl) (by simp) ?_
        refine AllReadyH.cons (o := _) rfl (fun K hK => ?_) AllReadyH.nil
        go_simp
        refine ((HC36.out Wa2)).mono ?_
        rintro r Wa3 ⟨rfl, hbq⟩
        have HBa3 := Lib.hid (HBa2.out.trans (hbq.mono HBa2.out.size))
        clear hbq
        refine hK.out _ _ (HS18.out _ (HBa3.out)) (fun hHeld => ?_)
        clear hK K
        try simp only [Act.put, List.setIfInBounds_toArray, List.set_cons_zero, List.set_cons_succ]
        refine wpAnyH_ready (rs := [15]) (by kernel_rfl) (by simp) ?_
        refine AllReadyH.cons (o := _) rfl (fun K hK => ?_) AllReadyH.nil
        go_simp
        refine ((HC37.out Wa3)).mono ?_
        rintro r Wa4 ⟨rfl, hbq⟩
        have HBa4 := Lib.hid (HBa3.out.trans (hbq.mono HBa3.out.size))
        clear hbq
        refine hK.out _ _ (HS18.out _ (HBa4.out)) (fun hHeld => ?_)
        clear hK K
        try simp only [Act.put, List.setIfInBounds_toArray, List.set_cons_zero, List.set_cons_succ]
        refine wpAnyH_take (i := 16) (oi := ?oi16a) (v := (.bool false)) ?hi16a ?hs16a ?hf16a ?hr16a ?hQ16a ?hy16a ?hS16a ?h16a
        case hi16a => exact (by simp only [List.getElem?_toArray, List.getElem?_cons_succ, List.getElem?_cons_zero]; rfl)
        case hs16a => kernel_rfl
        case hf16a => kernel_rfl
        case hr16a => kernel_rfl
        case hQ16a => exact fun _ _ _ h => h
        case hy16a =>
          refine Or.inl ⟨rfl, ?_⟩
          intro W hSw
          obtain ⟨y1, y2⟩ := hSw
          go_simp
          try simp
        case hS16a => assumption
        try simp only [Act.put, List.setIfInBounds_toArray, List.set_cons_zero, List.set_cons_succ]
        refine wpAnyH_take (i := 17) (oi := ?oi17a) (v := ?v17a) ?hi17a ?hs17a ?hf17a ?hr17a ?hQ17a ?hy17a ?hS17a ?h17a
        case hi17a => exact (by simp only [List.getElem?_toArray, List.getElem?_cons_succ, List.getElem?_cons_zero]; rfl)
        case hs17a => kernel_rfl
        case hf17a => kernel_rfl
        case hr17a => kernel_rfl
        case hQ17a => exact fun _ _ _ h => h
        case hy17a =>
          refine Or.inl ⟨rfl, ?_⟩
          intro W hSw
          obtain ⟨y1, y2⟩ := hSw
          go_simp
          try with_reducible rfl
        case hS17a => assumption
        try simp only [Act.put, List.setIfInBounds_toArray, List.set_cons_zero, List.set_cons_succ]
        refine wpAnyH_done (by kernel_rfl) ?_ _
        have HFB := Lib.hid (HS4.out.below HBa4.out)
        go_wp2_with fail
        go_roundw
        case rel => exact ⟨k + 1, _, _, _, _, _, by omega, rfl, by push_cast; rfl, HFB⟩
        case measure => simp [intOf] <;> omega
      | false =>
        obtain ⟨X, hX⟩ : ∃ X, X = wr.heap.size := ⟨_, rfl⟩
        obtain ⟨v1, hv1⟩ : ∃ v1, v1 = wr.alloc (.cells #[.bool false, .int .u32 (p : Int), .int .i64 st] 62) := ⟨_, rfl⟩
        have hbv1 : Below wr.heap.size wr v1 := by rw [hv1]; exact (Below.refl _ _).alloc (Nat.le_refl _) _
        have HQX : Hid (v1.heap[X]? = some (.cells #[.bool false, .int .u32 (p : Int), .int .i64 st] 62 (0, 0))) := by rw [hv1, hX]; exact heap_alloc_new wr _
        have HS1 : Hid (Bs w L M k l A m N v1) := HS0.out.below hbv1
        have HV1 := Lib.hid hv1
        have HXX := Lib.hid hX
        clear hv1 hX hbv1
        have HSB : Hid (Calls Try.prog 32 #[.pointer (some ⟨L, 0, none⟩), .int .u32 (p : Int), .int .i64 st] v1 fun r w' => r = .returned (.tuple #[]) ∧ (∃ N' D', IsB w' L M (size D') D' ∧ Rep D' N' ∧ size D' ≤ k + 1 ∧ Rm N' (setL p st l)) ∧ ChM M v1 w' ∧ ∃ D, IsB v1 L M (size D) D) := by
          obtain ⟨D, g1, g2, g3⟩ := HS1.out.b
          exact (setB L M p D N l st v1 g1 g2 HS1.out.rm HS1.out.nd (by omega)).mono fun r w' ⟨e1, ⟨N', D', f1, f2, f3, f4⟩, e3⟩ => ⟨e1, ⟨N', D', f1, f2, by omega, f4⟩, e3, D, g1⟩
        go_upto_region 11 with (fail)
        rw [← HV1.out, ← HXX.out]
        clear d0 d1 d2
        have t0 := cell_of_row v1 X 0 _ _ _ HQX.out
        have t1 := cell_of_row v1 X 1 _ _ _ HQX.out
        have t2 := cell_of_row v1 X 2 _ _ _ HQX.out
        simp at t0 t1 t2
        go_wp2_with fail
        refine HSB.out.mono ?_
        rintro r w2 ⟨rfl, ⟨N2, D2, f1, f2, f3, f4⟩, hch, D, hD⟩
        have hB2 : Below w.heap.size w w2 := HS1.out.bel.trans (hch.1 _ (by rw [HM.out]; exact Nat.le_refl _) HS1.out.bel.size)
        have HX2 : Hid (w2.heap[X]? = some (.cells #[.bool false, .int .u32 (p : Int), .int .i64 st] 62 (0, 0))) := chm_cells hch hD HQX.out
        have HST := Lib.hid (rset_any A m c p st l w2 HS1.out.len (HS1.out.ms.chm hch hD) (by have := HS1.out.le; omega))
        have HN2 : Hid ((∃ D', IsB w2 L M (size D') D' ∧ Rep D' N2 ∧ size D' ≤ k + 1) ∧ Rm N2 (setL p st l) ∧ Below w.heap.size w w2) := ⟨⟨D2, f1, f2, f3⟩, f4, hB2⟩
        clear f1 f2 f3 f4 hch hD hB2 t0 t1 t2
        have t1 := cell_of_row w2 X 1 _ _ _ HX2.out
        have t2 := cell_of_row w2 X 2 _ _ _ HX2.out
        simp at t1 t2
        go_wp2_with fail
        refine HST.out.mono ?_
        rintro r w4 ⟨B, m2, c2, rfl, hm2, hms2, hb4⟩
        have HS4 : Hid (Bs w L M (k + 1) (setL p st l) B m2 N2 w4) := by
          obtain ⟨D, g1, g2, g3⟩ := HN2.out.1
          exact ⟨⟨D, g1.below hb4, g2, g3⟩, HN2.out.2.1, setL_nd HS1.out.nd, hm2, by have h1 := setL_len p st l; have h2 := HS1.out.len; have h3 := HS1.out.le; omega, hms2, HN2.out.2.2.trans (hb4.mono HN2.out.2.2.size)⟩
        have HX4 : Hid (w4.heap[X]? = some (.cells #[.bool false, .int .u32 (p : Int), .int .i64 st] 62 (0, 0))) := (hb4.block X (lt_of_block HX2.out)).trans HX2.out
        clear hm2 hms2 hb4 t1 t2
        have HR18 : Hid (Below w4.heap.size w4 w4) := Below.refl _ _
        have HS18 : Hid (∀ W, Below w4.heap.size w4 W → (fun W : World => W.cell? ⟨X, 1, none⟩ = some (.int .u32 (p : Int)) ∧ W.cell? ⟨X, 2, none⟩ = some (.int .i64 st)) W) := fun W hW => by
          have e := (hW.block X (lt_of_block HX4.out)).trans HX4.out
          exact ⟨cell_of_row W X 1 _ _ _ e, cell_of_row W X 2 _ _ _ e⟩
        obtain ⟨sv, hsv⟩ : ∃ sv, sv = (N2 p).1 := ⟨_, rfl⟩
        have HC34 : Hid (∀ W, Below w4.heap.size w4 W → Calls Try.prog 34 #[.pointer (some ⟨L, 0, none⟩), .int .u32 (p : Int)] W fun r w' => r = .returned (.int .i64 sv) ∧ Below W.heap.size W w') := fun W hW => by
          obtain ⟨D, g1, g2, g3⟩ := (HS4.out.below hW).b
          exact (statusD L M _ p D _ W g1 g2 HPB.out).mono fun r w' ⟨e1, e2⟩ => ⟨by rw [hsv]; exact e1, by rw [e2]; exact Below.refl _ _⟩
        have HC35 : Hid (∀ W, Below w4.heap.size w4 W → Calls Try.prog 35 #[.slice B m2 c2, .int .u32 (p : Int)] W fun r w' => r = .returned (.int .i64 sv) ∧ Below W.heap.size W w') := fun W hW => by
          have hb := HS4.out.below hW
          exact (rstatus B m2 c2 p _ W hb.len hb.ms (by have := hb.le; omega)).mono fun r w' ⟨e1, e2⟩ => ⟨by rw [hsv, hb.rm p]; exact e1, by rw [e2]; exact Below.refl _ _⟩
        obtain ⟨qv, hqv⟩ : ∃ qv, qv = seen st := ⟨_, rfl⟩
        have HC36 : Hid (∀ W, Calls Try.prog 36 #[.int .i64 st] W fun r w' => r = .returned (.int .i64 qv) ∧ Below W.heap.size W w') := fun W => (seen_any st W).mono fun r w' ⟨e1, e2⟩ => ⟨by rw [hqv]; exact e1, by rw [e2]; exact Below.refl _ _⟩
        have HC37 : Hid (∀ W, Calls Try.prog 37 #[.int .i64 st] W fun r w' => r = .returned (.int .i64 qv) ∧ Below W.heap.size W w') := fun W => by rw [hqv]; exact rseen_any st W
        clear hsv hqv
        go_upto_region 18 with (fail)
        have HDb : Hid (Below w4.heap.size w4 w4.drew) := HR18.out.drew
        refine wp_region_held_drew (S := fun W : World => W.cell? ⟨X, 1, none⟩ = some (.int .u32 (p : Int)) ∧ W.cell? ⟨X, 2, none⟩ = some (.int .i64 st)) (by kernel_rfl) (HS18.out _ (HDb.out)) (fun hHeld => ?_)
        obtain ⟨Wb0, hW0⟩ : ∃ W0, W0 = w4.drew := ⟨_, rfl⟩
        rw [← hW0] at hHeld HDb ⊢
        clear hW0
        refine wpAnyH_take (i := 0) (oi := ?oi0b) (v := ?v0b) ?hi0b ?hs0b ?hf0b ?hr0b ?hQ0b ?hy0b ?hS0b ?h0b
        case hi0b => exact (by simp only [List.getElem?_toArray, List.getElem?_cons_zero]; rfl)
        case hs0b => kernel_rfl
        case hf0b => kernel_rfl
        case hr0b => kernel_rfl
        case hQ0b => exact fun _ _ _ h => h
        case hy0b =>
          refine Or.inl ⟨rfl, ?_⟩
          intro W hSw
          obtain ⟨y1, y2⟩ := hSw
          go_simp
          try with_reducible rfl
        case hS0b => assumption
        try simp only [Act.put, List.setIfInBounds_toArray, List.set_cons_zero, List.set_cons_succ]
        refine wpAnyH_take (i := 1) (oi := ?oi1b) (v := ?v1b) ?hi1b ?hs1b ?hf1b ?hr1b ?hQ1b ?hy1b ?hS1b ?h1b
        case hi1b => exact (by simp only [List.getElem?_toArray, List.getElem?_cons_succ, List.getElem?_cons_zero]; rfl)
        case hs1b => kernel_rfl
        case hf1b => kernel_rfl
        case hr1b => kernel_rfl
        case hQ1b => exact fun _ _ _ h => h
        case hy1b =>
          refine Or.inl ⟨rfl, ?_⟩
          intro W hSw
          obtain ⟨y1, y2⟩ := hSw
          go_simp
          try with_reducible rfl
        case hS1b => assumption
        try simp only [Act.put, List.setIfInBounds_toArray, List.set_cons_zero, List.set_cons_succ]
        refine wpAnyH_take (i := 2) (oi := ?oi2b) (v := ?v2b) ?hi2b ?hs2b ?hf2b ?hr2b ?hQ2b ?hy2b ?hS2b ?h2b
        case hi2b => exact (by simp only [List.getElem?_toArray, List.getElem?_cons_succ, List.getElem?_cons_zero]; rfl)
        case hs2b => kernel_rfl
        case hf2b => kernel_rfl
        case hr2b => kernel_rfl
        case hQ2b => exact fun _ _ _ h => h
        case hy2b =>
          refine Or.inl ⟨rfl, ?_⟩
          intro W hSw
          obtain ⟨y1, y2⟩ := hSw
          go_simp
          try with_reducible rfl
        case hS2b => assumption
        try simp only [Act.put, List.setIfInBounds_toArray, List.set_cons_zero, List.set_cons_succ]
        refine wpAnyH_take (i := 4) (oi := ?oi4b) (v := ?v4b) ?hi4b ?hs4b ?hf4b ?hr4b ?hQ4b ?hy4b ?hS4b ?h4b
        case hi4b => exact (by simp only [List.getElem?_toArray, List.getElem?_cons_succ, List.getElem?_cons_zero]; rfl)
        case hs4b => kernel_rfl
        case hf4b => kernel_rfl
        case hr4b => kernel_rfl
        case hQ4b => exact fun _ _ _ h => h
        case hy4b =>
          refine Or.inl ⟨rfl, ?_⟩
          intro W hSw
          obtain ⟨y1, y2⟩ := hSw
          go_simp
          try with_reducible rfl
        case hS4b => assumption
        try simp only [Act.put, List.setIfInBounds_toArray, List.set_cons_zero, List.set_cons_succ]
        refine wpAnyH_take (i := 5) (oi := ?oi5b) (v := ?v5b) ?hi5b ?hs5b ?hf5b ?hr5b ?hQ5b ?hy5b ?hS5b ?h5b
        case hi5b => exact (by simp only [List.getElem?_toArray, List.getElem?_cons_succ, List.getElem?_cons_zero]; rfl)
        case hs5b => kernel_rfl
        case hf5b => kernel_rfl
        case hr5b => kernel_rfl
        case hQ5b => exact fun _ _ _ h => h
        case hy5b =>
          refine Or.inl ⟨rfl, ?_⟩
          intro W hSw
          obtain ⟨y1, y2⟩ := hSw
          go_simp
          try with_reducible rfl
        case hS5b => assumption
        try simp only [Act.put, List.setIfInBounds_toArray, List.set_cons_zero, List.set_cons_succ]
        refine wpAnyH_take (i := 6) (oi := ?oi6b) (v := ?v6b) ?hi6b ?hs6b ?hf6b ?hr6b ?hQ6b ?hy6b ?hS6b ?h6b
        case hi6b => exact (by simp only [List.getElem?_toArray, List.getElem?_cons_succ, List.getElem?_cons_zero]; rfl)
        case hs6b => kernel_rfl
        case hf6b => kernel_rfl
        case hr6b => kernel_rfl
        case hQ6b => exact fun _ _ _ h => h
        case hy6b =>
          refine Or.inl ⟨rfl, ?_⟩
          intro W hSw
          obtain ⟨y1, y2⟩ := hSw
          go_simp
          try with_reducible rfl
        case hS6b => assumption
        try simp only [Act.put, List.setIfInBounds_toArray, List.set_cons_zero, List.set_cons_succ]
        refine wpAnyH_ready (rs := [3]) (by kernel_rfl) (by simp) ?_
        refine AllReadyH.cons (o := _) rfl (fun K hK => ?_) AllReadyH.nil
        go_simp
        refine ((HC34.out Wb0 HDb.out)).mono ?_
        rintro r Wb1 ⟨rfl, hbq⟩
        have HBb1 := Lib.hid (HDb.out.trans (hbq.mono HDb.out.size))
        clear hbq
        refine hK.out _ _ (HS18.out _ (HBb1.out)) (fun hHeld => ?_)
        clear hK K
        try simp only [Act.put, List.setIfInBounds_toArray, List.set_cons_zero, List.set_cons_succ]
        refine wpAnyH_ready (rs := [7]) (by kernel_rfl) (by simp) ?_
        refine AllReadyH.cons (o := _) rfl (fun K hK => ?_) AllReadyH.nil
        go_simp
        refine ((HC35.out Wb1 HBb1.out)).mono ?_
        rintro r Wb2 ⟨rfl, hbq⟩
        have HBb2 := Lib.hid (HBb1.out.trans (hbq.mono HBb1.out.size))
        clear hbq
        refine hK.out _ _ (HS18.out _ (HBb2.out)) (fun hHeld => ?_)
        clear hK K
        try simp only [Act.put, List.setIfInBounds_toArray, List.set_cons_zero, List.set_cons_succ]
        refine wpAnyH_take (i := 8) (oi := ?oi8b) (v := (.bool false)) ?hi8b ?hs8b ?hf8b ?hr8b ?hQ8b ?hy8b ?hS8b ?h8b
        case hi8b => exact (by simp only [List.getElem?_toArray, List.getElem?_cons_succ, List.getElem?_cons_zero]; rfl)
        case hs8b => kernel_rfl
        case hf8b => kernel_rfl
        case hr8b => kernel_rfl
        case hQ8b => exact fun _ _ _ h => h
        case hy8b =>
          refine Or.inl ⟨rfl, ?_⟩
          intro W hSw
          obtain ⟨y1, y2⟩ := hSw
          go_simp
          try simp
        case hS8b => assumption
        try simp only [Act.put, List.setIfInBounds_toArray, List.set_cons_zero, List.set_cons_succ]
        refine wpAnyH_take (i := 9) (oi := ?oi9b) (v := ?v9b) ?hi9b ?hs9b ?hf9b ?hr9b ?hQ9b ?hy9b ?hS9b ?h9b
        case hi9b => exact (by simp only [List.getElem?_toArray, List.getElem?_cons_succ, List.getElem?_cons_zero]; rfl)
        case hs9b => kernel_rfl
        case hf9b => kernel_rfl
        case hr9b => kernel_rfl
        case hQ9b => exact fun _ _ _ h => h
        case hy9b =>
          refine Or.inl ⟨rfl, ?_⟩
          intro W hSw
          obtain ⟨y1, y2⟩ := hSw
          go_simp
          try with_reducible rfl
        case hS9b => assumption
        try simp only [Act.put, List.setIfInBounds_toArray, List.set_cons_zero, List.set_cons_succ]
        refine wpAnyH_take (i := 10) (oi := ?oi10b) (v := ?v10b) ?hi10b ?hs10b ?hf10b ?hr10b ?hQ10b ?hy10b ?hS10b ?h10b
        case hi10b => exact (by simp only [List.getElem?_toArray, List.getElem?_cons_succ, List.getElem?_cons_zero]; rfl)
        case hs10b => kernel_rfl
        case hf10b => kernel_rfl
        case hr10b => kernel_rfl
        case hQ10b => exact fun _ _ _ h => h
        case hy10b =>
          refine Or.inl ⟨rfl, ?_⟩
          intro W hSw
          obtain ⟨y1, y2⟩ := hSw
          go_simp
          try with_reducible rfl
        case hS10b => assumption
        try simp only [Act.put, List.setIfInBounds_toArray, List.set_cons_zero, List.set_cons_succ]
        refine wpAnyH_take (i := 11) (oi := ?oi11b) (v := ?v11b) ?hi11b ?hs11b ?hf11b ?hr11b ?hQ11b ?hy11b ?hS11b ?h11b
        case hi11b => exact (by simp only [List.getElem?_toArray, List.getElem?_cons_succ, List.getElem?_cons_zero]; rfl)
        case hs11b => kernel_rfl
        case hf11b => kernel_rfl
        case hr11b => kernel_rfl
        case hQ11b => exact fun _ _ _ h => h
        case hy11b =>
          refine Or.inl ⟨rfl, ?_⟩
          intro W hSw
          obtain ⟨y1, y2⟩ := hSw
          go_simp
          try with_reducible rfl
        case hS11b => assumption
        try simp only [Act.put, List.setIfInBounds_toArray, List.set_cons_zero, List.set_cons_succ]
        refine wpAnyH_take (i := 13) (oi := ?oi13b) (v := ?v13b) ?hi13b ?hs13b ?hf13b ?hr13b ?hQ13b ?hy13b ?hS13b ?h13b
        case hi13b => exact (by simp only [List.getElem?_toArray, List.getElem?_cons_succ, List.getElem?_cons_zero]; rfl)
        case hs13b => kernel_rfl
        case hf13b => kernel_rfl
        case hr13b => kernel_rfl
        case hQ13b => exact fun _ _ _ h => h
        case hy13b =>
          refine Or.inl ⟨rfl, ?_⟩
          intro W hSw
          obtain ⟨y1, y2⟩ := hSw
          go_simp
          try with_reducible rfl
        case hS13b => assumption
        try simp only [Act.put, List.setIfInBounds_toArray, List.set_cons_zero, List.set_cons_succ]
        refine wpAnyH_take (i := 14) (oi := ?oi14b) (v := ?v14b) ?hi14b ?hs14b ?hf14b ?hr14b ?hQ14b ?hy14b ?hS14b ?h14b
        case hi14b => exact (by simp only [List.getElem?_toArray, List.getElem?_cons_succ, List.getElem?_cons_zero]; rfl)
        case hs14b => kernel_rfl
        case hf14b => kernel_rfl
        case hr14b => kernel_rfl
        case hQ14b => exact fun _ _ _ h => h
        case hy14b =>
          refine Or.inl ⟨rfl, ?_⟩
          intro W hSw
          obtain ⟨y1, y2⟩ := hSw
          go_simp
          try with_reducible rfl
        case hS14b => assumption
        try simp only [Act.put, List.setIfInBounds_toArray, List.set_cons_zero, List.set_cons_succ]
        refine wpAnyH_ready (rs := [12]) (by kernel_rfl) (by simp) ?_
        refine AllReadyH.cons (o := _) rfl (fun K hK => ?_) AllReadyH.nil
        go_simp
        refine ((HC36.out Wb2)).mono ?_
        rintro r Wb3 ⟨rfl, hbq⟩
        have HBb3 := Lib.hid (HBb2.out.trans (hbq.mono HBb2.out.size))
        clear hbq
        refine hK.out _ _ (HS18.out _ (HBb3.out)) (fun hHeld => ?_)
        clear hK K
        try simp only [Act.put, List.setIfInBounds_toArray, List.set_cons_zero, List.set_cons_succ]
        refine wpAnyH_ready (rs := [15]) (by kernel_rfl) (by simp) ?_
        refine AllReadyH.cons (o := _) rfl (fun K hK => ?_) AllReadyH.nil
        go_simp
        refine ((HC37.out Wb3)).mono ?_
        rintro r Wb4 ⟨rfl, hbq⟩
        have HBb4 := Lib.hid (HBb3.out.trans (hbq.mono HBb3.out.size))
        clear hbq
        refine hK.out _ _ (HS18.out _ (HBb4.out)) (fun hHeld => ?_)
        clear hK K
        try simp only [Act.put, List.setIfInBounds_toArray, List.set_cons_zero, List.set_cons_succ]
        refine wpAnyH_take (i := 16) (oi := ?oi16b) (v := (.bool false)) ?hi16b ?hs16b ?hf16b ?hr16b ?hQ16b ?hy16b ?hS16b ?h16b
        case hi16b => exact (by simp only [List.getElem?_toArray, List.getElem?_cons_succ, List.getElem?_cons_zero]; rfl)
        case hs16b => kernel_rfl
        case hf16b => kernel_rfl
        case hr16b => kernel_rfl
        case hQ16b => exact fun _ _ _ h => h
        case hy16b =>
          refine Or.inl ⟨rfl, ?_⟩
          intro W hSw
          obtain ⟨y1, y2⟩ := hSw
          go_simp
          try simp
        case hS16b => assumption
        try simp only [Act.put, List.setIfInBounds_toArray, List.set_cons_zero, List.set_cons_succ]
        refine wpAnyH_take (i := 17) (oi := ?oi17b) (v := ?v17b) ?hi17b ?hs17b ?hf17b ?hr17b ?hQ17b ?hy17b ?hS17b ?h17b
        case hi17b => exact (by simp only [List.getElem?_toArray, List.getElem?_cons_succ, List.getElem?_cons_zero]; rfl)
        case hs17b => kernel_rfl
        case hf17b => kernel_rfl
        case hr17b => kernel_rfl
        case hQ17b => exact fun _ _ _ h => h
        case hy17b =>
          refine Or.inl ⟨rfl, ?_⟩
          intro W hSw
          obtain ⟨y1, y2⟩ := hSw
          go_simp
          try with_reducible rfl
        case hS17b => assumption
        try simp only [Act.put, List.setIfInBounds_toArray, List.set_cons_zero, List.set_cons_succ]
        refine wpAnyH_done (by kernel_rfl) ?_ _
        have HFB := Lib.hid (HS4.out.below HBb4.out)
        go_wp2_with fail
        go_roundw
        case rel => exact ⟨k + 1, _, _, _, _, _, by omega, rfl, by push_cast; rfl, HFB⟩
        case measure => simp [intOf] <;> omega
    · obtain rfl : k = n := by omega
      have HBF := Lib.hid HS0.out.bel
      go_wp2_with fail
      refine (HAW.out wr).mono ?_
      rintro r w9 ⟨rfl, hb9⟩
      have HB9 := Lib.hid (HBF.out.trans (hb9.mono HBF.out.size))
      clear hb9
      go_wp2
      go_ret
      exact ⟨rfl, HB9.out⟩
end Go.Proofs.Ytaoejkbockcneaa.Bd
