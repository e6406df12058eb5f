/- Board: Flush of whatever board. -/
import Derived.Test.YtaoejkbockcneaaU8
namespace Go.Proofs.Ytaoejkbockcneaa.Bd
open Go.RowKit Go.Maps
set_option maxRecDepth 20000
set_option linter.unusedVariables false

set_option maxHeartbeats 8000000 in
theorem flushD (HSORT : Hid SortOk) (L M : Nat) (D : DataW Unit) (N : Nat → Int × Int) (w : World) (hL : IsB w L M (size D) D) (hN : Rep D N) (hsz : size D ≤ 100) :
    Calls Try.prog 31 #[.pointer (some ⟨L, 0, none⟩)] w fun r w' => (∃ v l, r = .returned v ∧ Tells N l ∧ l.length ≤ 1000 ∧ (l.map Prod.fst).Pairwise (· ≤ ·) ∧ Rw w w' v l) ∧ (∃ D', IsB w' L M (size D') D' ∧ Rep D' (toldN N) ∧ size D' ≤ size D) ∧ ChM M w w' := by
  have hML := hL.2.lt
  have hLL := lt_of_block hL.1
  have hown := hL.2
  have c1 := cell_of_row w L 0 _ _ _ hL.1
  simp at c1
  have HIL := Lib.hid hL
  have HN := Lib.hid hN
  clear hL hN
  go_enter Try.func31, Try.ntmps31
  go_wp2_with (first
    | (at_range; refine wpList_range_own _ rfl _ 114 rfl 26 120 K26 Try.underlying114 R M (size D) _ rfl hown ?_; intro w0 hrg0 hg0 hs0)
    | go_in)
  go_frame
  go_loopw [3] (fun v wr => ∃ (left : Lit → Bool) (c : Nat) (ss : List (Int × Int)), wr.ranges Try.prog 26 R M w.heap.size (size D) D left c ∧ wr.ownsRow w.heap.size 95 2 v ss.length (cc ss) ∧ Met2 D N left ss ∧ ss.length + c ≤ size D ∧ Below w.heap.size w wr)
    (fun _ wr => wr.rangeLeft M w.heap.size)
  case atStart =>
    exact ⟨_, _, [], hrg0, World.ownsRow_nil _ _ _ _, Met2.start D N, by simp, (Below.refl _ _).grown hg0 (Nat.le_refl _) (fun j hj => by cases hj)⟩
  case round =>
    obtain ⟨left, c, ss, hrg, hrow, hI, hsc, hnx⟩ := hrel
    go_wp2_with (first
      | (at_next; refine wpList_next_ranges _ rfl _ rfl 26 K26 R (Value.int .u32) (fun st : Int × Int => nV st.1 st.2) (fun key kl hk => by obtain ⟨x, hx, _⟩ := Maps.keyOf_int_inv Try.underlying26 hk; exact ⟨x, hx⟩) (fun v y h => R_shape h) M w.heap.size (size D) _ left c rfl hrg ?_ ?_)
      | go_in)
    · intro hc0 hl0
      have HT := Lib.hid (hI.done HN.out hl0)
      have HX := Lib.hid hnx
      have hlen : ss.length ≤ 1000 := by omega
      rcases hrow.2 with ⟨rfl, hn0⟩ | ⟨g, cap, cur, rfl, hbase, hb, h1, h2, h3, h4⟩
      · have hss : ss = [] := List.eq_nil_of_length_eq_zero hn0
        subst hss
        have HS0 := Lib.hid (fun a' c' f => sort_any a' 0 c' (by omega) f wr)
        clear hnx hI hl0 hrg hrow hown hrg0 hg0 hn0 hlen
        go_wp2
        refine wp_loop_rounds 1 ?_
        rw [rounds_succ]
        go_wp2_with (go_at_call 50; refine (HS0.out _ _ _).mono ?_; rintro e w' ⟨rfl, rfl⟩)
        go_ret
        exact ⟨⟨_, [], rfl, HT.out, by simp, by simp, _, _, rfl, fun h => absurd rfl h⟩, ⟨D, HIL.out.below HX.out, by rw [← Nf_all HT.out, Nf_nil]; exact HN.out, Nat.le_refl _⟩, ChM.of_below HX.out⟩
      · have HH4 := Lib.hid h4
        have HLN := Lib.hid hlen
        obtain ⟨n, hn⟩ : ∃ n, n = ss.length := ⟨_, rfl⟩
        rw [← hn] at hlen h4
        have HNN := Lib.hid hn
        have HG := Lib.hid (show w.heap.size ≤ g ∧ M < g ∧ L < g from ⟨hbase, by omega, by omega⟩)
        have HHD := Lib.hid (HIL.out.below HX.out)
        have hb0 := hb
        clear hnx hI hl0 hrg hrow hown hrg0 hg0 h1 h2 h3 hb
        try rw [← hn]
        clear hn
        go_wp2
        go_loopw [36] (fun v wr => ∃ i : Nat, v = .int .i64 (i : Int) ∧ i ≤ n ∧ (∃ Di, IsB wr L M (size Di) Di ∧ Rep Di (Nf N (ss.take i)) ∧ size Di ≤ size D) ∧ wr.heap[g]? = some (.cells cur 95 (0, 0)) ∧ ChM M w wr)
          (fun v _ => match v with | .int _ x => (n - x).toNat | _ => 0)
        case atStart => exact ⟨0, rfl, Nat.zero_le _, ⟨D, HHD.out, by simpa [Nf_nil] using HN.out, Nat.le_refl _⟩, hb0, ChM.of_below HX.out⟩
        case round =>
          obtain ⟨i, rfl, hin, ⟨Di, hId, hRd, hsd⟩, hbg, hCh⟩ := hrel
          have HBG := Lib.hid hbg
          have HCH := Lib.hid hCh
          have HSD := Lib.hid hsd
          have HRD := Lib.hid hRd
          have HID := Lib.hid hId
          by_cases hlt : i < n
          · have t1 : decide ((i : Int) < (n : Int)) = true := by rw [decide_eq_true_iff]; omega
            obtain ⟨x, hx⟩ : ∃ x, ss[i]? = some x := ⟨ss[i]'(by have := HNN.out; omega), List.getElem?_eq_getElem _⟩
            obtain ⟨p, hp, hxe, hne⟩ := HT.out.2.1 x (List.mem_of_getElem? hx)
            obtain ⟨e, he⟩ : ∃ e, e = seen (N p).1 := ⟨_, rfl⟩
            obtain ⟨s, hs⟩ : ∃ s, s = (Nf N (ss.take i) p).1 := ⟨_, rfl⟩
            obtain ⟨t, ht⟩ : ∃ t, t = (Nf N (ss.take i) p).2 := ⟨_, rfl⟩
            rw [← he] at hxe
            have hq := rowC_of hbg HH4.out i x hx
            rw [hxe] at hq
            obtain ⟨q0, q1⟩ := hq
            have hglt := lt_of_block hbg
            obtain ⟨w1, hw1⟩ : ∃ w1, w1 = wr.alloc (.cells #[.int .u32 (p : Int), .int .i64 e] 95) := ⟨_, rfl⟩
            have hb1 : Below wr.heap.size wr w1 := by rw [hw1]; exact (Below.refl _ _).alloc (Nat.le_refl _) _
            have hp1 : w1.heap[wr.heap.size]? = some (.cells #[.int .u32 (p : Int), .int .i64 e] 95 (0, 0)) := by rw [hw1]; exact heap_alloc_new wr _
            have hI1 := hId.below hb1
            have HIW : Hid (∀ W, Below w1.heap.size w1 W → IsB W L M (size Di) Di) := fun W hW => hI1.below hW
            have HCE : Hid (∀ W, Below w1.heap.size w1 W → (fun W : World => W.cell? ⟨L, 0, none⟩ = some (.map (some M)) ∧ W.cell? ⟨wr.heap.size, 0, none⟩ = some (.int .u32 (p : Int)) ∧ W.cell? ⟨wr.heap.size, 1, none⟩ = some (.int .i64 e)) W) := fun W hW => by
              have e1 := (hI1.below hW).1
              have e2 := (hW.block _ (lt_of_block hp1)).trans hp1
              exact ⟨cell_of_row W _ 0 _ _ _ e1, cell_of_row W _ 0 _ _ _ e2, cell_of_row W _ 1 _ _ _ e2⟩
            have HLK : Hid (∀ W, Below w1.heap.size w1 W → (Instr.lookup 114 (.map (some M)) (.int .u32 (p : Int)) false).run Try.prog W = .ok (.agg #[.int .i64 s, .int .i64 t]) W) := fun W hW => by
              obtain ⟨v, ps, hlk, hv⟩ := (HIW.out W hW).2.lookup K26 Try.underlying114 (zero120 W) (R_mk 0 0) (key26 p hp)
              rw [(HRD.out.2 p).1, ← hs, ← ht] at hv
              obtain rfl := R_inv hv
              exact hlk
            have HK : Hid (∀ W, Below w1.heap.size w1 W → Calls Try.prog 49 #[.pointer (some ⟨L, 0, none⟩), .int .u32 (p : Int), .agg #[.int .i64 s, .int .i64 e]] W fun r w' => r = .returned (.tuple #[]) ∧ IsB w' L M (size Di + 1) (keepD Di p s e) ∧ ChM M W w') := fun W hW => keepD_any L M (size Di) p Di s e W (HIW.out W hW) hp (by omega)
            have hMr : M < wr.heap.size := hId.2.lt
            have HSX : Hid (∀ W w5, Below w1.heap.size w1 W → IsB w5 L M (size Di + 1) (keepD Di p s e) → ChM M W w5 → (fun W : World => W.cell? ⟨L, 0, none⟩ = some (.map (some M)) ∧ W.cell? ⟨wr.heap.size, 0, none⟩ = some (.int .u32 (p : Int)) ∧ W.cell? ⟨wr.heap.size, 1, none⟩ = some (.int .i64 e)) w5) := fun W w5 hW hI5 hC5 => by
              have e2 := (hW.block _ (lt_of_block hp1)).trans hp1
              have hlt := lt_of_block e2
              have hne : wr.heap.size ≠ M := by omega
              have e3 := (hC5.2.1 _ hlt hne).trans e2
              exact ⟨cell_of_row w5 _ 0 _ _ _ hI5.1, cell_of_row w5 _ 0 _ _ _ e3, cell_of_row w5 _ 1 _ _ _ e3⟩
            have HH1 := Lib.hid hw1
            have HB1 := Lib.hid hb1
            have HGL := Lib.hid hglt
            have HRN : Hid (Rep (keepD Di p s e) (Nf N (ss.take (i + 1)))) := by
              have h1 := HRD.out.keep p s e
              rw [hs, Nf_fst, he, Nf_snoc N (ss.take i) p e, ← hxe, ← take_snoc hx] at h1
              rw [hs, Nf_fst, he]
              exact h1
            have HSN : Hid (size (keepD Di p s e) ≤ size D) := by
              have h1 := nodup_take HT.out.1 hx
              rw [hxe] at h1
              have h2 : Nf N (ss.take i) p = N p := by simp only [Nf]; rw [if_neg h1]
              have h3 : has Di (kl p) = true := (HRD.out.2 p).2.2 (by rw [h2]; exact fun ⟨e1, e2⟩ => hne (by rw [e1, e2]; rfl))
              exact Nat.le_trans ((size_keepD (hId.2.tidy K26) p s e).2 h3) HSD.out
            clear hId hRd hsd hbg hCh hw1 hb1 hp1 hI1 hglt hMr hxe hne he hs ht hx hp
            go_upto_region 13 with (fail)
            rw [← HH1.out]
            clear q0 q1
            have HD : Hid (Below w1.heap.size w1 w1.drew) := (Below.refl _ _).drew
            refine wp_region_held_drew (S := fun W : World => W.cell? ⟨L, 0, none⟩ = some (.map (some M)) ∧ W.cell? ⟨wr.heap.size, 0, none⟩ = some (.int .u32 (p : Int)) ∧ W.cell? ⟨wr.heap.size, 1, none⟩ = some (.int .i64 e)) (by kernel_rfl) (HCE.out _ HD.out) (fun hHeld => ?_)
            obtain ⟨W0, hW0⟩ : ∃ W0, W0 = w1.drew := ⟨_, rfl⟩
            have HD0 : Hid (Below w1.heap.size w1 W0) := by rw [hW0]; exact HD.out
            rw [← hW0] at hHeld ⊢
            clear hW0
            refine wpAnyH_take (i := 0) (oi := ?oi0a) (v := ?v0a) ?hi0a ?hs0a ?hf0a ?hr0a ?hQ0a ?hy0a ?hS0a ?h0a
            case hi0a => exact (by simp only [List.getElem?_toArray, List.getElem?_cons_zero]; rfl)
            case hs0a => kernel_rfl
            case hf0a => kernel_rfl
            case hr0a => kernel_rfl
            case hQ0a => exact fun _ _ _ h => h
            case hy0a =>
              refine Or.inl ⟨rfl, ?_⟩
              intro W hSw
              obtain ⟨y1, y2, y3⟩ := hSw
              go_simp
              try with_reducible rfl
            case hS0a => assumption
            try simp only [Act.put, List.setIfInBounds_toArray, List.set_cons_zero, List.set_cons_succ]
            refine wpAnyH_take (i := 1) (oi := ?oi1a) (v := ?v1a) ?hi1a ?hs1a ?hf1a ?hr1a ?hQ1a ?hy1a ?hS1a ?h1a
            case hi1a => exact (by simp only [List.getElem?_toArray, List.getElem?_cons_succ, List.getElem?_cons_zero]; rfl)
            case hs1a => kernel_rfl
            case hf1a => kernel_rfl
            case hr1a => kernel_rfl
            case hQ1a => exact fun _ _ _ h => h
            case hy1a =>
              refine Or.inl ⟨rfl, ?_⟩
              intro W hSw
              obtain ⟨y1, y2, y3⟩ := hSw
              go_simp
              try with_reducible rfl
            case hS1a => assumption
            try simp only [Act.put, List.setIfInBounds_toArray, List.set_cons_zero, List.set_cons_succ]
            refine wpAnyH_take (i := 2) (oi := ?oi2a) (v := ?v2a) ?hi2a ?hs2a ?hf2a ?hr2a ?hQ2a ?hy2a ?hS2a ?h2a
            case hi2a => exact (by simp only [List.getElem?_toArray, List.getElem?_cons_succ, List.getElem?_cons_zero]; rfl)
            case hs2a => kernel_rfl
            case hf2a => kernel_rfl
            case hr2a => kernel_rfl
            case hQ2a => exact fun _ _ _ h => h
            case hy2a =>
              refine Or.inl ⟨rfl, ?_⟩
              intro W hSw
              obtain ⟨y1, y2, y3⟩ := hSw
              go_simp
              try with_reducible rfl
            case hS2a => assumption
            try simp only [Act.put, List.setIfInBounds_toArray, List.set_cons_zero, List.set_cons_succ]
            refine wpAnyH_take (i := 3) (oi := ?oi3a) (v := ?v3a) ?hi3a ?hs3a ?hf3a ?hr3a ?hQ3a ?hy3a ?hS3a ?h3a
            case hi3a => exact (by simp only [List.getElem?_toArray, List.getElem?_cons_succ, List.getElem?_cons_zero]; rfl)
            case hs3a => kernel_rfl
            case hf3a => kernel_rfl
            case hr3a => kernel_rfl
            case hQ3a => exact fun _ _ _ h => h
            case hy3a =>
              refine Or.inl ⟨rfl, ?_⟩
              intro W hSw
              obtain ⟨y1, y2, y3⟩ := hSw
              go_simp
              try with_reducible rfl
            case hS3a => assumption
            try simp only [Act.put, List.setIfInBounds_toArray, List.set_cons_zero, List.set_cons_succ]
            refine wpAnyH_take (i := 4) (oi := ?oi4a) (v := ?v4a) ?hi4a ?hs4a ?hf4a ?hr4a ?hQ4a ?hy4a ?hS4a ?h4a
            case hi4a => exact (by simp only [List.getElem?_toArray, List.getElem?_cons_succ, List.getElem?_cons_zero]; rfl)
            case hs4a => kernel_rfl
            case hf4a => kernel_rfl
            case hr4a => kernel_rfl
            case hQ4a => exact fun _ _ _ h => h
            case hy4a =>
              refine Or.inl ⟨rfl, ?_⟩
              intro W hSw
              obtain ⟨y1, y2, y3⟩ := hSw
              go_simp
              try with_reducible rfl
            case hS4a => assumption
            try simp only [Act.put, List.setIfInBounds_toArray, List.set_cons_zero, List.set_cons_succ]
            refine wpAnyH_take (i := 5) (oi := ?oi5a) (v := ?v5a) ?hi5a ?hs5a ?hf5a ?hr5a ?hQ5a ?hy5a ?hS5a ?h5a
            case hi5a => exact (by simp only [List.getElem?_toArray, List.getElem?_cons_succ, List.getElem?_cons_zero]; rfl)
            case hs5a => kernel_rfl
            case hf5a => kernel_rfl
            case hr5a => kernel_rfl
            case hQ5a => exact fun _ _ _ h => h
            case hy5a =>
              refine Or.inl ⟨rfl, ?_⟩
              intro W hSw
              obtain ⟨y1, y2, y3⟩ := hSw
              go_simp
              try with_reducible rfl
            case hS5a => assumption
            try simp only [Act.put, List.setIfInBounds_toArray, List.set_cons_zero, List.set_cons_succ]
            refine wpAnyH_take (i := 6) (oi := ?oi6a) (v := ?v6a) ?hi6a ?hs6a ?hf6a ?hr6a ?hQ6a ?hy6a ?hS6a ?h6a
            case hi6a => exact (by simp only [List.getElem?_toArray, List.getElem?_cons_succ, List.getElem?_cons_zero]; rfl)
            case hs6a => kernel_rfl
            case hf6a => kernel_rfl
            case hr6a => kernel_rfl
            case hQ6a => exact fun _ _ _ h => h
            case hy6a =>
              refine Or.inl ⟨rfl, ?_⟩
              intro W hSw
              obtain ⟨y1, y2, y3⟩ := hSw
              go_simp
              try with_reducible rfl
            case hS6a => assumption
            try simp only [Act.put, List.setIfInBounds_toArray, List.set_cons_zero, List.set_cons_succ]
            refine wpAnyH_take (i := 7) (oi := ?oi7a) (v := ?v7a) ?hi7a ?hs7a ?hf7a ?hr7a ?hQ7a ?hy7a ?hS7a ?h7a
            case hi7a => exact (by simp only [List.getElem?_toArray, List.getElem?_cons_succ, List.getElem?_cons_zero]; rfl)
            case hs7a => kernel_rfl
            case hf7a => kernel_rfl
            case hr7a => kernel_rfl
            case hQ7a => exact fun _ _ _ h => h
            case hy7a =>
              refine Or.inl ⟨rfl, ?_⟩
              intro W hSw
              obtain ⟨y1, y2, y3⟩ := hSw
              go_simp
              try with_reducible rfl
            case hS7a => assumption
            try simp only [Act.put, List.setIfInBounds_toArray, List.set_cons_zero, List.set_cons_succ]
            refine wpAnyH_take (i := 8) (oi := ?oi8a) (v := ?v8a) ?hi8a ?hs8a ?hf8a ?hr8a ?hQ8a ?hy8a ?hS8a ?h8a
            case hi8a => exact (by simp only [List.getElem?_toArray, List.getElem?_cons_succ, List.getElem?_cons_zero]; rfl)
            case hs8a => kernel_rfl
            case hf8a => kernel_rfl
            case hr8a => kernel_rfl
            case hQ8a => exact fun _ _ _ h => h
            case hy8a =>
              refine Or.inl ⟨rfl, ?_⟩
              intro W hSw
              obtain ⟨y1, y2, y3⟩ := hSw
              go_simp
              try with_reducible rfl
            case hS8a => assumption
            try simp only [Act.put, List.setIfInBounds_toArray, List.set_cons_zero, List.set_cons_succ]
            refine wpAnyH_take (i := 11) (oi := ?oi11a) (v := ?v11a) ?hi11a ?hs11a ?hf11a ?hr11a ?hQ11a ?hy11a ?hS11a ?h11a
            case hi11a => exact (by simp only [List.getElem?_toArray, List.getElem?_cons_succ, List.getElem?_cons_zero]; rfl)
            case hs11a => kernel_rfl
            case hf11a => kernel_rfl
            case hr11a => kernel_rfl
            case hQ11a => exact fun _ _ _ h => h
            case hy11a =>
              refine Or.inl ⟨rfl, ?_⟩
              intro W hSw
              obtain ⟨y1, y2, y3⟩ := hSw
              go_simp
              try with_reducible rfl
            case hS11a => assumption
            try simp only [Act.put, List.setIfInBounds_toArray, List.set_cons_zero, List.set_cons_succ]
            refine wpAnyH_take (i := 12) (oi := ?oi12a) (v := ?v12a) ?hi12a ?hs12a ?hf12a ?hr12a ?hQ12a ?hy12a ?hS12a ?h12a
            case hi12a => exact (by simp only [List.getElem?_toArray, List.getElem?_cons_succ, List.getElem?_cons_zero]; rfl)
            case hs12a => kernel_rfl
            case hf12a => kernel_rfl
            case hr12a => kernel_rfl
            case hQ12a => exact fun _ _ _ h => h
            case hy12a =>
              refine Or.inl ⟨rfl, ?_⟩
              intro W hSw
              obtain ⟨y1, y2, y3⟩ := hSw
              go_simp
              try with_reducible rfl
            case hS12a => assumption
            try simp only [Act.put, List.setIfInBounds_toArray, List.set_cons_zero, List.set_cons_succ]
            refine wpAnyH_ready (rs := [9]) (by kernel_rfl) (by simp) ?_
            refine AllReadyH.cons (o := _) rfl (fun K hK => ?_) AllReadyH.nil
            have hlk := HLK.out W0 HD0.out
            go_simp
            refine hK.out _ _ (HCE.out _ HD0.out) (fun hHeld => ?_)
            clear hK K hlk
            try simp only [Act.put, List.setIfInBounds_toArray, List.set_cons_zero, List.set_cons_succ]
            refine wpAnyH_take (i := 10) (oi := ?oi10a) (v := ?v10a) ?hi10a ?hs10a ?hf10a ?hr10a ?hQ10a ?hy10a ?hS10a ?h10a
            case hi10a => exact (by simp only [List.getElem?_toArray, List.getElem?_cons_succ, List.getElem?_cons_zero]; rfl)
            case hs10a => kernel_rfl
            case hf10a => kernel_rfl
            case hr10a => kernel_rfl
            case hQ10a => exact fun _ _ _ h => h
            case hy10a =>
              refine Or.inl ⟨rfl, ?_⟩
              intro W hSw
              have hf := fld0 s t W
              go_simp
              try with_reducible rfl
            case hS10a => assumption
            try simp only [Act.put, List.setIfInBounds_toArray, List.set_cons_zero, List.set_cons_succ]
            refine wpAnyH_take (i := 13) (oi := ?oi13a) (v := ?v13a) ?hi13a ?hs13a ?hf13a ?hr13a ?hQ13a ?hy13a ?hS13a ?h13a
            case hi13a => exact (by simp only [List.getElem?_toArray, List.getElem?_cons_succ, List.getElem?_cons_zero]; rfl)
            case hs13a => kernel_rfl
            case hf13a => kernel_rfl
            case hr13a => kernel_rfl
            case hQ13a => exact fun _ _ _ h => h
            case hy13a =>
              refine Or.inl ⟨rfl, ?_⟩
              intro W hSw
              obtain ⟨y1, y2, y3⟩ := hSw
              go_simp
              try with_reducible rfl
            case hS13a => assumption
            try simp only [Act.put, List.setIfInBounds_toArray, List.set_cons_zero, List.set_cons_succ]
            refine wpAnyH_ready (rs := [14]) (by kernel_rfl) (by simp) ?_
            refine AllReadyH.cons (o := _) rfl (fun K hK => ?_) AllReadyH.nil
            go_simp
            refine (HK.out W0 HD0.out).mono ?_
            rintro r w5 ⟨rfl, hI5, hC5⟩
            have HI5 := Lib.hid hI5
            have HC5 := Lib.hid hC5
            clear hI5 hC5
            refine hK.out _ _ (HSX.out W0 w5 HD0.out HI5.out HC5.out) (fun hHeld => ?_)
            clear hK K
            try simp only [Act.put, List.setIfInBounds_toArray, List.set_cons_zero, List.set_cons_succ]
            refine wpAnyH_done (by kernel_rfl) ?_ _
            have HGC : Hid (w5.heap[g]? = some (.cells cur 95 (0, 0))) := by
              have q1 := HB1.out.size
              have q2 := HD0.out.size
              have q3 := HGL.out
              show _ = _
              rw [HC5.out.2.1 g (by omega) (by have := HG.out.2.1; omega), HD0.out.block g (by omega), HB1.out.block g (by omega)]
              exact HBG.out
            have HCC := Lib.hid ((HCH.out.trans (ChM.of_below (HB1.out.trans (HD0.out.mono HB1.out.size)))).trans HC5.out)
            clear HLK HK HSX HCE HIW HD HD0
            (try simp only [Exit.inBlock, Exit.then])
            go_wp2_with fail
            go_roundw
            case rel => exact ⟨i + 1, by push_cast; rfl, by omega, ⟨_, HI5.out.norm, HRN.out, HSN.out⟩, HGC.out, HCC.out⟩
            case measure => simp; omega
          · have t1 : decide ((i : Int) < (n : Int)) = false := by rw [decide_eq_false_iff_not]; omega
            have hii : i = ss.length := by have := HNN.out; omega
            have HSC : Hid (Calls Try.prog 50 #[.slice (some ⟨g, 0, none⟩) n cap, .func (.func 51) #[] #[]] wr fun e w' => e = .returned (.tuple #[]) ∧ (∃ l', ss.Perm l' ∧ (l'.map Prod.fst).Pairwise (· ≤ ·) ∧ RowC w' g l') ∧ Below g wr w' ∧ g < w'.heap.size) := by
              show Calls _ _ _ _ _
              rw [HNN.out]
              exact HSORT.out g cap ss wr cur hbg (rowC_of hbg HH4.out) HLN.out
            have HRE : Hid (Rep Di (toldN N)) := by
              have h1 := HRD.out
              rw [hii, List.take_length, Nf_all HT.out] at h1
              exact h1
            clear hId hRd hsd hbg hCh hii
            go_wp2_with fail
            refine HSC.out.mono ?_
            rintro r w' ⟨rfl, ⟨l', hpl, hso, hrl⟩, hbl, hgl⟩
            have HE1 := Lib.hid hpl
            have HE5 := Lib.hid hso
            have HE2 := Lib.hid hrl
            have HE3 := Lib.hid hbl
            have HE4 := Lib.hid hgl
            clear hpl hso hrl hbl hgl
            go_wp2
            go_ret
            exact ⟨⟨_, l', rfl, HT.out.perm HE1.out, by rw [← HE1.out.length_eq]; exact HLN.out, HE5.out, _, cap, by rw [← HE1.out.length_eq, ← HNN.out]; rfl, fun _ => ⟨g, rfl, HG.out.1, HE4.out, HE2.out⟩⟩, ⟨Di, HID.out.belowAt HE3.out HG.out.2.2 HG.out.2.1, HRE.out, HSD.out⟩, HCH.out.belowAt HE3.out HG.out.1⟩
    · intro x sv tv kl' yd yp w2 cnt2 hkey hlk hv hat hrg2 hlt hg2 hs2 hen
      obtain ⟨x', ex, rfl, hwf⟩ := Maps.keyOf_int_inv Try.underlying26 hkey
      obtain rfl : x = x' := by injection ex
      have hx : 0 ≤ x ∧ x ≤ 4294967295 := by
        simp only [Lit.wf, Bool.and_eq_true, decide_eq_true_eq] at hwf
        exact ⟨hwf.1, hwf.2⟩
      obtain ⟨p, rfl⟩ : ∃ p : Nat, x = (p : Int) := ⟨x.toNat, by omega⟩
      rw [R_mk] at hv
      injection hv with hv
      injection hv with hv hv2
      have hat0 := hat (nD 0 0)
      rw [(HN.out.2 p).1, ← hv] at hat0
      obtain ⟨e1, e2⟩ := nD_inj hat0
      have hrow2 := hrow.kept hg2 (Or.inr (row_ne_iter hrow hrg).symm)
      obtain ⟨w3, hw3⟩ : ∃ w3, w3 = w2.alloc (.cells #[.int .i64 sv, .int .i64 tv] 120) := ⟨_, rfl⟩
      have hp3 : w3.heap[w2.heap.size]? = some (.cells #[.int .i64 sv, .int .i64 tv] 120 (0, 0)) := by rw [hw3]; exact heap_alloc_new w2 _
      have g0 := cell_of_row w3 w2.heap.size 0 _ _ _ hp3
      have g1 := cell_of_row w3 w2.heap.size 1 _ _ _ hp3
      simp at g0 g1
      have hrow3 := hrow2.alloc (.cells #[.int .i64 sv, .int .i64 tv] 120)
      rw [← hw3] at hrow3
      have hrg3 := hrg2.alloc (.cells #[.int .i64 sv, .int .i64 tv] 120)
      rw [← hw3] at hrg3
      have hb3 : Below w.heap.size w w3 := by rw [hw3]; exact (hnx.grown hg2 hnx.size (fun j hj => by cases hj; exact Nat.le_refl _)).alloc (by have := hnx.size; have := hg2.size; omega) _
      obtain ⟨e, he⟩ : ∃ e, e = seen sv := ⟨_, rfl⟩
      have HSN : Hid (∀ W, Calls Try.prog 36 #[.int .i64 sv] W fun r w' => r = .returned (.int .i64 e) ∧ w' = W) := fun W => by rw [he]; exact seen_any sv W
      have HE := Lib.hid (show e = seen (N p).1 ∧ tv = (N p).2 from ⟨by rw [he, e1], e2.symm⟩)
      have HM2 := Lib.hid hI
      have HKL := Lib.hid hlk
      have HP := Lib.hid (show p < 4294967296 by omega)
      have HW3 := Lib.hid hw3
      have HROW := Lib.hid hrow3
      have HRG := Lib.hid hrg3
      have HBW := Lib.hid hb3
      have hlast := hlt
      clear hw3 hp3 hrow hrow2 hrow3 hrg2 hrg3 hb3 hat hat0 hv hv2 hlk hkey hnx hg2 hs2 hI hown hrg0 hg0 he e1 e2 hwf hx ex
      by_cases het : e = tv
      · have t1 : (e == tv) = true := by simp [het]
        have HET := Lib.hid (show seen (N p).1 = (N p).2 by rw [← HE.out.1, ← HE.out.2]; exact het)
        clear het
        go_upto_region 7 with (fail)
        rw [← HW3.out]
        go_wp2_with (first | (go_at_call 36; refine (HSN.out _).mono ?_; rintro r w' ⟨rfl, rfl⟩) | go_in)
        go_roundw
        case rel => exact ⟨_, cnt2, ss, HRG.out, HROW.out, HM2.out.skip p HET.out, by omega, HBW.out⟩
        case measure => rw [HRG.out.left_eq, hrg.left_eq]; exact hlast
      · have t1 : (e == tv) = false := by simp [het]
        have HET := Lib.hid (show seen (N p).1 ≠ (N p).2 by rw [← HE.out.1, ← HE.out.2]; exact het)
        clear het
        go_upto_region 7 with (fail)
        rw [← HW3.out]
        go_wp2_with (first
          | (go_at_call 36; refine (HSN.out _).mono ?_; rintro r w' ⟨rfl, rfl⟩)
          | (at_builtin; refine wpList_append_chg rfl _ _ rfl w.heap.size w'.heap.size _ ss.length (cc ss) (p : Int) e rfl rfl (HROW.out.alloc _) (heap_alloc_new _ _) (by omega) (by have := HBW.out.size; simp; omega) ?_; intro v' w5 hown5 hg5; go_frame)
          | go_in)
        have hrg5 := (HRG.out.alloc _).kept hg5 (row_ne_low HROW.out hML) (row_ne_iter HROW.out HRG.out)
        go_roundw
        case rel =>
          refine ⟨_, cnt2, ss ++ [((p : Int), e)], hrg5, ?_, ?_, by simp; omega, (HBW.out.alloc HBW.out.size _).grown hg5 (by have := HBW.out.size; simp; omega) (fun j hj => (HROW.out.lt j hj).1)⟩
          · simpa [cc, List.flatMap_append] using hown5
          · rw [HE.out.1]; exact HM2.out.add p HP.out HKL.out HET.out
        case measure => rw [hrg5.left_eq, hrg.left_eq]; exact hlast
end Go.Proofs.Ytaoejkbockcneaa.Bd
