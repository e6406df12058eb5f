/- Draft: DraftLegal's walk. -/
import Derived.Test.YtnloikdfbdpilaaDT
import Derived.Test.YtnloikdfbdpilaaDJ2
namespace Go.Proofs.Ytnloikdfbdpilaa
open Go.RowKit
set_option maxRecDepth 20000
set_option linter.unusedVariables false

theorem five {w : World} {G t : Nat} {a b c d e a' b' c' d' e' : Value} (h : w.heap[G]? = some (.cells #[a, b, c, d, e] t (0, 0))) : (((((w.setCell ⟨G, 0, none⟩ a').setCell ⟨G, 1, none⟩ b').setCell ⟨G, 2, none⟩ c').setCell ⟨G, 3, none⟩ d').setCell ⟨G, 4, none⟩ e').heap[G]? = some (.cells #[a', b', c', d', e'] t (0, 0)) := by
  have h1 := heap_setCell_same w G 0 _ t a' h
  have h2 := heap_setCell_same _ G 1 _ t b' h1
  have h3 := heap_setCell_same _ G 2 _ t c' h2
  have h4 := heap_setCell_same _ G 3 _ t d' h3
  have h5 := heap_setCell_same _ G 4 _ t e' h4
  simpa using h5
theorem run_append_zs (w : World) (base ty c : Nat) (v : Value) (xs l : List Int) (A : Option Addr) (hown : w.ownsRow base 3 1 v xs.length (zv xs)) (hy : Zs w w.heap.size A l) (hlen : xs.length + l.length ≤ 100000) (hbase : base ≤ w.heap.size) (hl : 0 < l.length) :
    ∃ v' w', (Builtin.append_ #[38, 38] ty #[v, .slice A l.length c]).run Try.prog w = .ok v' w' ∧ w'.ownsRow base 3 1 v' (xs ++ l).length (zv (xs ++ l)) ∧ w.grownBy w' v.ownBlock := by
  obtain ⟨b, o, rfl, _, hc⟩ := hy hl
  obtain ⟨i, hi, hz0, hz1, hz2⟩ := info_parts info3
  obtain ⟨v', w', hrun, h2, h3, _⟩ := run_append_own (P := Try.prog) w base 38 ty 3 i _ 1 8 Try.underlying38 hi hz0 hz1 hz2 rfl (by decide) v xs.length (zv xs) hown ⟨b, o, none⟩ l.length c (zv l) (by simp [zv]) (fun j u hu => by
    rw [zv, List.getElem?_map] at hu
    obtain ⟨x, hx, rfl⟩ := Option.map_eq_some_iff.1 hu
    rw [Go.WideShapes.add_plain]
    exact hc j x hx) (by
    intro u hu
    obtain ⟨x, _, rfl⟩ := List.mem_map.1 hu
    rfl) (by unfold maxLen; omega) (by omega) hbase
  exact ⟨v', w', hrun, by simpa [zv] using h2, h3⟩
theorem step_append_zs {w : World} {ops : Array Oper} {op : Oper} {a : Act} {K : Act → World → Prop} {Q : Exit → Act → World → Prop} {E : Prop} (hgd : op.guard = none) (s x : Operand)
    (ho : op.op = .call { callee := .builtin .append, args := #[s, x], argTypes := #[38, 38] }) (base c n : Nat) (v : Value) (xs l : List Int) (A : Option Addr) (hs : a.eval s = v) (hx : a.eval x = .slice A n c) (hn : n = l.length ∧ 0 < n)
    (hown : w.ownsRow base 3 1 v xs.length (zv xs)) (hy : Zs w w.heap.size A l) (hlen : xs.length + l.length ≤ 100000) (hbase : base ≤ w.heap.size)
    (h : ∀ v' w', w'.ownsRow base 3 1 v' (xs ++ l).length (zv (xs ++ l)) → w.grownBy w' v.ownBlock → K (a.put op.dst v') w') :
    if Region.wanted op (yielded ops a.tmps) = true then Oper.wp Try.prog op a w K Q else E := by
  have hw : Region.wanted op (yielded ops a.tmps) = true := by simp [Region.wanted, hgd]
  rw [if_pos hw]
  obtain ⟨v', w', hr, h2, h3⟩ := run_append_zs w base op.type c v xs l A hown hy hlen hbase (by omega)
  unfold Oper.wp execOp
  simp only [ho, resolve, invoke, builtin, Sem.run_bind, Sem.run_pure, Result.andThen_ok, List.map_toArray, List.map_cons, List.map_nil, hs, hx, hn.1, hr]
  exact h v' w' h2 h3

set_option linter.unusedSimpArgs false in
set_option maxHeartbeats 16000000 in
theorem legal_walk (m : Mo) (now : Int) (A : Option Addr) (c : Nat) (l : List Tk) (w : World) (hnow : In64 now) (hE : Tr w w.heap.size A l) (hl : l.length ≤ 9223372036854775807) (hs : ∀ t ∈ l, In64 t.r ∧ In64 t.s) :
    Calls Try.prog 6 #[m.v, .int .i64 now, .slice A l.length c] w fun r w' => r = .returned (.bool true) ∧ Below w.heap.size w w' := by
  obtain ⟨w0, hw0⟩ : ∃ w0, w0 = w.alloc (.cells m.cells 23) := ⟨_, rfl⟩
  have hb0 : Below w.heap.size w w0 := by rw [hw0]; exact (Below.refl _ _).alloc (Nat.le_refl _) _
  have hq0 : w0.heap[w.heap.size]? = some (.cells m.cells 23 (0, 0)) := by rw [hw0]; exact heap_alloc_new w _
  have HCE : Hid (∀ W, Below w0.heap.size w0 W → W.cell? ⟨w.heap.size, 0, none⟩ = some (.int .i64 m.k) ∧ W.cell? ⟨w.heap.size, 1, none⟩ = some (.int .i64 m.b) ∧ W.cell? ⟨w.heap.size, 2, none⟩ = some (.int .i64 m.s) ∧ W.cell? ⟨w.heap.size, 3, none⟩ = some (.int .i64 m.c) ∧ W.cell? ⟨w.heap.size, 4, none⟩ = some (.int .i64 m.e)) := fun W hW => by
    have e2 := (hW.block _ (lt_of_block hq0)).trans hq0
    exact ⟨cell_of_row W _ 0 _ _ _ e2, cell_of_row W _ 1 _ _ _ e2, cell_of_row W _ 2 _ _ _ e2, cell_of_row W _ 3 _ _ _ e2, cell_of_row W _ 4 _ _ _ e2⟩
  obtain ⟨n, hn⟩ : ∃ n, n = l.length := ⟨_, rfl⟩
  have HE0 := Lib.hid (hE.later hb0 (Nat.le_refl _))
  have H0 := Lib.hid hw0
  have HB0 := Lib.hid hb0
  have HN := Lib.hid hn
  have HS := Lib.hid hs
  have HNOW := Lib.hid hnow
  have HAW : Hid (∀ W, Calls Try.prog 16 #[] W fun r w' => r = .returned (.bool true) ∧ Below W.heap.size W w') := fun W => dawake W
  have HMO : Hid (∀ W, Calls Try.prog 13 #[m.v] W fun r w' => r = .returned m.v ∧ Below W.heap.size W w') := fun W => mo_any m W
  rw [← hn] at hl ⊢
  clear hw0 hb0 hq0 hn hE hs hnow
  by_cases h20 : 16 < n
  · go_enter Try.func6, Try.ntmps6
    go_upto_region 1 with (fail)
    rw [← H0.out]
    go_wp2
    go_ret
    exact ⟨rfl, HB0.out⟩
  · have HSM := Lib.hid (small_any A n c l w0 HN.out HE0.out.ts (by omega))
    go_enter Try.func6, Try.ntmps6
    go_upto_region 1 with (fail)
    rw [← H0.out]
    go_wp2_with fail
    refine HSM.out.mono ?_
    rintro r w' ⟨⟨t, rfl, ht⟩, rfl⟩
    cases t
    · clear ht
      go_wp2
      go_ret
      exact ⟨rfl, HB0.out⟩
    · have HSN : Hid (Sm l) := fun t h => ⟨ht.1 rfl t h, (HS.out t h).2⟩
      have HOW := Lib.hid (own_any A n c l w' HN.out HE0.out (by omega) (fun t h => (HSN.out t h).1))
      clear ht HSM
      go_wp2_with fail
      refine HOW.out.mono ?_
      rintro r w2 ⟨⟨A9, c9, rfl, hts⟩, hb⟩
      have HTS := Lib.hid hts
      have HB2 : Hid (Below w'.heap.size w' w2) := hb
      clear hts hb HOW
      have HBW : Hid (∀ W, Below w2.heap.size w2 W → Below w'.heap.size w' W) := fun W hW => HB2.out.trans (hW.mono HB2.out.size)
      have HRW : Hid (∀ W, Below w2.heap.size w2 W → Below w.heap.size w W) := fun W hW => HB0.out.trans ((HBW.out W hW).mono HB0.out.size)
      have HB22 : Hid (Below w2.heap.size w2 w2) := Below.refl _ _
      have HFD : Hid (∀ W, Below w2.heap.size w2 W → Calls Try.prog 20 #[m.v, .int .i64 now, .slice A9 n c9] W fun r w' => (∃ v, r = .returned v ∧ Spl w' W.heap.size v (findP m now l)) ∧ Below W.heap.size W w') := fun W hW => find_any m now A9 n c9 l W HN.out (HTS.out.later hW (Nat.le_refl _)) (by omega) HNOW.out HSN.out
      obtain ⟨z0, z1, z2, z3, z4⟩ := HCE.out w2 (HBW.out w2 HB22.out)
      go_wp2_with fail
      refine (HMO.out _).mono ?_
      rintro r w3 ⟨rfl, hb⟩
      have HB3 := Lib.hid (HB22.out.trans (hb.mono HB22.out.size))
      clear hb z0 z1 z2 z3 z4
      go_wp2_with fail
      refine (HFD.out w3 HB3.out).mono ?_
      rintro r w4 ⟨⟨v, rfl, hS⟩, hb⟩
      have HB4 := Lib.hid (HB3.out.trans (hb.mono HB3.out.size))
      clear hb
      obtain ⟨oo, ho⟩ : ∃ oo, oo = findP m now l := ⟨_, rfl⟩
      rw [← ho] at hS
      have HO := Lib.hid ho
      obtain ⟨A1, c1, A2, c2, rfl, hz1, hz2⟩ := hS.form
      clear ho hS
      cases oo with
      | none =>
        simp only [Option.getD_none, Option.isSome_none, List.length_nil]
        have HB5 : Hid (Below w2.heap.size w2 (w4.alloc (.cells #[.slice A1 0 c1, .slice A2 0 c2] 40))) := HB4.out.alloc HB4.out.size _
        have hq5 := heap_alloc_new w4 (.cells #[.slice A1 0 c1, .slice A2 0 c2] 40)
        have q0 := cell_of_row _ w4.heap.size 0 _ _ _ hq5
        have q1 := cell_of_row _ w4.heap.size 1 _ _ _ hq5
        simp at q0 q1
        clear hq5 hz1 hz2
        go_wp2_with fail
        refine (HAW.out _).mono ?_
        rintro r w6 ⟨rfl, hb⟩
        go_wp2
        go_ret
        exact ⟨rfl, HRW.out _ (HB5.out.trans (hb.mono HB5.out.size))⟩
      | some qq =>
        obtain ⟨PA, PB⟩ := qq
        obtain ⟨ea, eb, HLG, rfl, rfl⟩ := legal_facts HO.out.symm
        simp only [Option.getD_some, Option.isSome_some, List.length_map] at hz1 hz2 ⊢
        obtain ⟨n1, hn1⟩ : ∃ n1, n1 = ea.length := ⟨_, rfl⟩
        obtain ⟨n2, hn2⟩ : ∃ n2, n2 = eb.length := ⟨_, rfl⟩
        rw [← hn1, ← hn2]
        have HL := Lib.hid HLG
        have hpos1 : 0 < n1 := by obtain ⟨e, a', f, b', rfl, rfl, _⟩ := HL.out.first; rw [hn1]; simp
        have hpos2 : 0 < n2 := by obtain ⟨e, a', f, b', rfl, rfl, _⟩ := HL.out.first; rw [hn2]; simp
        have hlen : n1 + n2 ≤ 16 := by have := HL.out.len; rw [List.length_append] at this; omega
        have hokE : ∀ e ∈ ea ++ eb, Ok e := fun e he => by
          obtain ⟨i, t, hi, rfl⟩ := HL.out.ents e he
          exact ents_ok HSN.out _ (List.mem_of_getElem? (entsP_get m now l i t hi))
        have hplE : ∀ e ∈ ea ++ eb, ∃ (i : Nat) (t : Tk), l[i]? = some t ∧ e.p = (i : Int) ∧ e.n = (t.n : Int) := fun e he => by
          obtain ⟨i, t, hi, rfl⟩ := HL.out.ents e he
          exact ⟨i, t, hi, rfl, rfl⟩
        obtain ⟨w5, hw5⟩ : ∃ w5, w5 = w4.alloc (.cells #[.slice A1 n1 c1, .slice A2 n2 c2] 40) := ⟨_, rfl⟩
        obtain ⟨Q, hQ⟩ : ∃ Q, Q = w4.heap.size := ⟨_, rfl⟩
        have hq5 : w5.heap[Q]? = some (.cells #[.slice A1 n1 c1, .slice A2 n2 c2] 40 (0, 0)) := by rw [hw5, hQ]; exact heap_alloc_new w4 _
        have hb5 : Below w4.heap.size w4 w5 := by rw [hw5]; exact (Below.refl _ _).alloc (Nat.le_refl _) _
        have HB5 := Lib.hid (HB4.out.trans (hb5.mono HB4.out.size))
        have HCQ5 : Hid (∀ W, Below w5.heap.size w5 W → W.cell? ⟨Q, 0, none⟩ = some (.slice A1 n1 c1) ∧ W.cell? ⟨Q, 1, none⟩ = some (.slice A2 n2 c2)) := fun W hW => by
          have e1 := (hW.block _ (lt_of_block hq5)).trans hq5
          exact ⟨cell_of_row W _ 0 _ _ _ e1, cell_of_row W _ 1 _ _ _ e1⟩
        have HZA5 := Lib.hid (hz1.later hb5 (Nat.le_refl _))
        have HZB5 := Lib.hid (hz2.later hb5 (Nat.le_refl _))
        have HT5 := Lib.hid (HTS.out.later HB5.out (Nat.le_refl _))
        have HCA : Hid (∀ W, Below w5.heap.size w5 W → Calls Try.prog 22 #[.slice A9 n c9, .slice A1 n1 c1] W fun r w' => r = .returned (.tuple #[.int .i64 m.k, .bool true]) ∧ Below W.heap.size W w') := fun W hW => by
          rw [← HL.out.sumA]
          exact count_any A9 n c9 l A1 n1 c1 ea W HN.out (HT5.out.later hW (Nat.le_refl _)) hn1 (HZA5.out.later hW (Nat.le_refl _)) (fun e he => hplE e (List.mem_append_left _ he)) (fun e he => hokE e (List.mem_append_left _ he)) HL.out.upA (by omega) (by omega)
        have HCB : Hid (∀ W, Below w5.heap.size w5 W → Calls Try.prog 22 #[.slice A9 n c9, .slice A2 n2 c2] W fun r w' => r = .returned (.tuple #[.int .i64 m.k, .bool true]) ∧ Below W.heap.size W w') := fun W hW => by
          rw [← HL.out.sumB]
          exact count_any A9 n c9 l A2 n2 c2 eb W HN.out (HT5.out.later hW (Nat.le_refl _)) hn2 (HZB5.out.later hW (Nat.le_refl _)) (fun e he => hplE e (List.mem_append_right _ he)) (fun e he => hokE e (List.mem_append_right _ he)) HL.out.upB (by omega) (by omega)
        have H5 := Lib.hid hw5
        have HQE := Lib.hid hQ
        have HLN : Hid (n1 + n2 ≤ 16 ∧ n1 = (ea.map (·.p)).length ∧ n2 = (eb.map (·.p)).length) := ⟨hlen, by rw [List.length_map, hn1], by rw [List.length_map, hn2]⟩
        have HPOS : Hid (0 < n1 ∧ 0 < n2) := ⟨hpos1, hpos2⟩
        have HNN : Hid (n1 = ea.length ∧ n2 = eb.length) := ⟨hn1, hn2⟩
        clear hz1 hz2 hn1 hn2 hw5 hQ hq5 hb5 hokE hplE HLG
        go_upto_region 5 with (fail)
        rw [← H5.out]
        rw [← HQE.out]
        obtain ⟨y0, y1⟩ := HCQ5.out w5 (Below.refl _ _)
        go_wp2_with fail
        refine (HCA.out w5 (Below.refl _ _)).mono ?_
        rintro r w6 ⟨rfl, hb⟩
        have HB6 : Hid (Below w5.heap.size w5 w6) := hb
        clear hb y0 y1
        obtain ⟨y0, y1⟩ := HCQ5.out w6 HB6.out
        go_wp2_with fail
        refine (HCB.out w6 HB6.out).mono ?_
        rintro r wf ⟨rfl, hb⟩
        have HB7 := Lib.hid (HB6.out.trans (hb.mono HB6.out.size))
        clear hb y0 y1 hpos1 hpos2 hlen
        have HB2F := Lib.hid (HB5.out.trans (HB7.out.mono HB5.out.size))
        have HCQ : Hid (∀ W, Below wf.heap.size wf W → W.cell? ⟨Q, 0, none⟩ = some (.slice A1 n1 c1) ∧ W.cell? ⟨Q, 1, none⟩ = some (.slice A2 n2 c2)) := fun W hW => HCQ5.out W (HB7.out.trans (hW.mono HB7.out.size))
        obtain ⟨pa, hpa⟩ : ∃ pa, pa = ea.map (·.p) := ⟨_, rfl⟩
        obtain ⟨pb, hpb⟩ : ∃ pb, pb = eb.map (·.p) := ⟨_, rfl⟩
        have HZA := Lib.hid (HZA5.out.later HB7.out (Nat.le_refl _))
        have HZB := Lib.hid (HZB5.out.later HB7.out (Nat.le_refl _))
        rw [← hpa] at HZA HLN
        rw [← hpb] at HZB HLN
        have HNA : Hid (n1 = pa.length ∧ 0 < n1) := ⟨HLN.out.2.1, HPOS.out.1⟩
        have HNB : Hid (n2 = pb.length ∧ 0 < n2) := ⟨HLN.out.2.2, HPOS.out.2⟩
        have HPAB : Hid (pa ++ pb = (ea ++ eb).map (·.p)) := by simp only [Hid]; rw [hpa, hpb, List.map_append]
        have HPP : Hid (pa = ea.map (·.p) ∧ pb = eb.map (·.p)) := ⟨hpa, hpb⟩
        clear hpa hpb
        obtain ⟨z0, z1, z2, z3, z4⟩ := HCE.out wf (HBW.out wf HB2F.out)
        have hkk : (m.k != m.k) = false := by simp
        go_upto_region 11 with (fail)
        have HDr : Hid (Below wf.heap.size wf wf.drew) := (Below.refl wf.heap.size wf).drew
        refine wp_region_held_drew (S := fun W : World => W.cell? ⟨Q, 0, none⟩ = some (.slice A1 n1 c1) ∧ W.cell? ⟨Q, 1, none⟩ = some (.slice A2 n2 c2)) (by kernel_rfl) (HCQ.out _ HDr.out) (fun hHeld => ?_)
        obtain ⟨Wr0, hW0⟩ : ∃ W0, W0 = wf.drew := ⟨_, rfl⟩
        rw [← hW0] at hHeld HDr ⊢
        clear hW0
        refine wpAnyH_take (i := 1) (oi := ?oi1r) (v := ?v1r) ?hi1r ?hs1r ?hf1r ?hr1r ?hQ1r ?hy1r ?hS1r ?h1r
        case hi1r => exact (by simp only [List.getElem?_toArray, List.getElem?_cons_succ, List.getElem?_cons_zero]; rfl)
        case hs1r => kernel_rfl
        case hf1r => kernel_rfl
        case hr1r => kernel_rfl
        case hQ1r => exact fun _ _ _ h => h
        case hy1r =>
          refine Or.inl ⟨rfl, ?_⟩
          intro W hSw
          obtain ⟨y0, y1⟩ := hSw
          go_simp
          try with_reducible rfl
        case hS1r => assumption
        try simp only [Act.put, List.setIfInBounds_toArray, List.set_cons_zero, List.set_cons_succ]
        refine wpAnyH_take (i := 2) (oi := ?oi2r) (v := ?v2r) ?hi2r ?hs2r ?hf2r ?hr2r ?hQ2r ?hy2r ?hS2r ?h2r
        case hi2r => exact (by simp only [List.getElem?_toArray, List.getElem?_cons_succ, List.getElem?_cons_zero]; rfl)
        case hs2r => kernel_rfl
        case hf2r => kernel_rfl
        case hr2r => kernel_rfl
        case hQ2r => exact fun _ _ _ h => h
        case hy2r =>
          refine Or.inl ⟨rfl, ?_⟩
          intro W hSw
          obtain ⟨y0, y1⟩ := hSw
          go_simp
          try with_reducible rfl
        case hS2r => assumption
        try simp only [Act.put, List.setIfInBounds_toArray, List.set_cons_zero, List.set_cons_succ]
        refine wpAnyH_take (i := 4) (oi := ?oi4r) (v := ?v4r) ?hi4r ?hs4r ?hf4r ?hr4r ?hQ4r ?hy4r ?hS4r ?h4r
        case hi4r => exact (by simp only [List.getElem?_toArray, List.getElem?_cons_succ, List.getElem?_cons_zero]; rfl)
        case hs4r => kernel_rfl
        case hf4r => kernel_rfl
        case hr4r => kernel_rfl
        case hQ4r => exact fun _ _ _ h => h
        case hy4r =>
          refine Or.inl ⟨rfl, ?_⟩
          intro W hSw
          obtain ⟨y0, y1⟩ := hSw
          go_simp
          try with_reducible rfl
        case hS4r => assumption
        try simp only [Act.put, List.setIfInBounds_toArray, List.set_cons_zero, List.set_cons_succ]
        refine wpAnyH_take (i := 5) (oi := ?oi5r) (v := ?v5r) ?hi5r ?hs5r ?hf5r ?hr5r ?hQ5r ?hy5r ?hS5r ?h5r
        case hi5r => exact (by simp only [List.getElem?_toArray, List.getElem?_cons_succ, List.getElem?_cons_zero]; rfl)
        case hs5r => kernel_rfl
        case hf5r => kernel_rfl
        case hr5r => kernel_rfl
        case hQ5r => exact fun _ _ _ h => h
        case hy5r =>
          refine Or.inl ⟨rfl, ?_⟩
          intro W hSw
          obtain ⟨y0, y1⟩ := hSw
          go_simp
          try with_reducible rfl
        case hS5r => assumption
        try simp only [Act.put, List.setIfInBounds_toArray, List.set_cons_zero, List.set_cons_succ]
        refine wpAnyH_ready (rs := [0]) (by kernel_rfl) (by simp) ?_
        refine AllReadyH.cons (o := _) rfl (fun K hK => ?_) AllReadyH.nil
        go_simp
        obtain ⟨Wr1, hW1⟩ : ∃ W1, W1 = Wr0.alloc (.cells #[] 3) := ⟨_, rfl⟩
        rw [← hW1]
        have HO1 : Hid (Wr1.ownsRow wf.heap.size 3 1 (.slice (some ⟨Wr0.heap.size, 0, none⟩) 0 0) ([] : List Int).length (zv [])) := by rw [hW1]; exact ⟨rfl, .inr ⟨Wr0.heap.size, 0, #[], rfl, HDr.out.size, heap_alloc_new Wr0 _, Nat.le_refl _, Nat.zero_le _, rfl, rfl⟩⟩
        have HD1 : Hid (Below wf.heap.size wf Wr1) := by rw [hW1]; exact HDr.out.alloc HDr.out.size _
        clear hW1
        refine hK.out _ _ (HCQ.out _ HD1.out) (fun hHeld => ?_)
        clear hK K
        try simp only [Act.put, List.setIfInBounds_toArray, List.set_cons_zero, List.set_cons_succ]
        refine wpAnyH_ready (rs := [3]) (by kernel_rfl) (by simp) ?_
        refine AllReadyH.cons (o := _) rfl (fun K hK => ?_) AllReadyH.nil
        refine step_append_zs rfl _ _ rfl wf.heap.size c1 n1 (.slice (some ⟨Wr0.heap.size, 0, none⟩) 0 0) [] pa A1 rfl rfl HNA.out HO1.out (HZA.out.later HD1.out (Nat.le_refl _)) (by have := HLN.out; simp; omega) HD1.out.size ?_
        intro v2 Wr2 ho2 hg2
        change K (Act.put _ (some 85) v2) Wr2
        have HO2 : Hid (Wr2.ownsRow wf.heap.size 3 1 v2 pa.length (zv pa)) := ho2
        have HD2 : Hid (Below wf.heap.size wf Wr2) := HD1.out.grown hg2 HD1.out.size (fun g hg => (own_lt HO1.out g hg).1)
        clear ho2 hg2
        refine hK.out _ _ (HCQ.out _ HD2.out) (fun hHeld => ?_)
        clear hK K
        try simp only [Act.put, List.setIfInBounds_toArray, List.set_cons_zero, List.set_cons_succ]
        refine wpAnyH_ready (rs := [6]) (by kernel_rfl) (by simp) ?_
        refine AllReadyH.cons (o := _) rfl (fun K hK => ?_) AllReadyH.nil
        refine step_append_zs rfl _ _ rfl wf.heap.size c2 n2 v2 pa pb A2 rfl rfl HNB.out HO2.out (HZB.out.later HD2.out (Nat.le_refl _)) (by have := HLN.out; omega) HD2.out.size ?_
        intro v3 Wr3 ho3 hg3
        change K (Act.put _ (some 88) v3) Wr3
        have HD3 : Hid (Below wf.heap.size wf Wr3) := HD2.out.grown hg3 HD2.out.size (fun g hg => (own_lt HO2.out g hg).1)
        obtain ⟨B9, d9, rfl⟩ := own_form ho3
        have HZ3 := Lib.hid (Zs.of_own ho3)
        obtain ⟨N, hNl⟩ : ∃ N, N = (pa ++ pb).length := ⟨_, rfl⟩
        rw [← hNl]
        have HNLL := Lib.hid hNl
        clear ho3 hg3 hNl
        refine hK.out _ _ (HCQ.out _ HD3.out) (fun hHeld => ?_)
        clear hK K
        try simp only [Act.put, List.setIfInBounds_toArray, List.set_cons_zero, List.set_cons_succ]
        refine wpAnyH_take (i := 7) (oi := ?oi7r) (v := ?v7r) ?hi7r ?hs7r ?hf7r ?hr7r ?hQ7r ?hy7r ?hS7r ?h7r
        case hi7r => exact (by simp only [List.getElem?_toArray, List.getElem?_cons_succ, List.getElem?_cons_zero]; rfl)
        case hs7r => kernel_rfl
        case hf7r => kernel_rfl
        case hr7r => kernel_rfl
        case hQ7r => exact fun _ _ _ h => h
        case hy7r =>
          refine Or.inl ⟨rfl, ?_⟩
          intro W hSw
          obtain ⟨y0, y1⟩ := hSw
          go_simp
          try with_reducible rfl
        case hS7r => assumption
        try simp only [Act.put, List.setIfInBounds_toArray, List.set_cons_zero, List.set_cons_succ]
        refine wpAnyH_done (by kernel_rfl) ?_ _
        have HNL : Hid (N = (ea ++ eb).length) := by simp only [Hid]; rw [HNLL.out, HPAB.out, List.length_map]
        have hN16 : N ≤ 16 := by rw [HNLL.out, List.length_append]; have := HLN.out; omega
        have hNpos : 0 < N := by rw [HNLL.out, List.length_append]; have := HNA.out; omega
        obtain ⟨g, o, rfl, hgl, hgc⟩ := HZ3.out (by rw [← HNLL.out]; exact hNpos)
        have HGC : Hid (∀ W, Below Wr3.heap.size Wr3 W → ∀ (i : Nat) x, (pa ++ pb)[i]? = some x → W.cell? ⟨g, o + i, none⟩ = some (.int .i64 x)) := fun W hW i x hx => (hW.cell (p := ⟨g, o + i, none⟩) hgl).trans (hgc i x hx)
        have HB2R : Hid (Below w2.heap.size w2 Wr3) := HB2F.out.trans (HD3.out.mono HB2F.out.size)
        clear hgl hgc z0 z1 z2 z3 z4
        go_wp2_with fail
        go_loopw [15] (fun u wr => ∃ i : Nat, i ≤ N ∧ u = .int .i64 (i : Int) ∧ Hid (Below Wr3.heap.size Wr3 wr)) (fun u _ => N - (intOf u).toNat)
        case atStart => exact ⟨0, by omega, rfl, Below.refl _ _⟩
        case round =>
          obtain ⟨i, hi, rfl, HI⟩ := hrel
          by_cases hlt : i < N
          · go_wp2_with fail
            go_loopw [16] (fun u wq => ∃ k : Nat, k ≤ i ∧ u = .int .i64 (k : Int) ∧ Hid (Below Wr3.heap.size Wr3 wq)) (fun u _ => N - (intOf u).toNat)
            case atStart => exact ⟨0, by omega, rfl, HI.out⟩
            case round =>
              obtain ⟨k, hk, rfl, HK2⟩ := hrel
              by_cases hki : k < i
              · have hiL : i < (ea ++ eb).length := by rw [← HNL.out]; exact hlt
                have hkL : k < (ea ++ eb).length := by omega
                have hnear := (List.pairwise_iff_getElem.1 HL.out.near) k i hkL hiL hki
                obtain ⟨pi, ti, hti, hei⟩ := HL.out.ents _ (List.getElem_mem hiL)
                obtain ⟨pk, tk, htk, hek⟩ := HL.out.ents _ (List.getElem_mem hkL)
                rw [hei, hek] at hnear
                have hpi : (pa ++ pb)[i]? = some (pi : Int) := by rw [HPAB.out, List.getElem?_map, List.getElem?_eq_getElem hiL, hei]; rfl
                have hpk : (pa ++ pb)[k]? = some (pk : Int) := by rw [HPAB.out, List.getElem?_map, List.getElem?_eq_getElem hkL, hek]; rfl
                have hpin : pi < n := by rw [HN.out]; exact (List.getElem?_eq_some_iff.1 hti).1
                have hpkn : pk < n := by rw [HN.out]; exact (List.getElem?_eq_some_iff.1 htk).1
                have HIX : Hid (i < N ∧ k < N ∧ pi < n ∧ pk < n) := ⟨hlt, by omega, hpin, hpkn⟩
                have HPN : Hid (¬ (pi : Int) = (pk : Int)) := fun h => hnear.1 h.symm
                obtain ⟨b1, o1, hAe, hbb1, ha1⟩ := HE0.out (by have := HN.out; omega)
                obtain ⟨ux, uy, uP, uc, ⟨u0, u1, u2, u3, u4⟩, -⟩ := ha1 pi ti hti
                obtain ⟨vx, vy, vP, vc, ⟨v0, v1, v2, v3, v4⟩, -⟩ := ha1 pk tk htk
                have HST1 : Hid (In64 ti.s) := (HS.out ti (List.mem_of_getElem? hti)).2
                have HST2 : Hid (In64 tk.s) := (HS.out tk (List.mem_of_getElem? htk)).2
                have hnd : dist (rt ti.r) (rt tk.r) ≤ min (m.win (waitP now ti.s)) (m.win (waitP now tk.s)) := by
                  have h1 := hnear.2
                  rw [dist_comm] at h1
                  show dist (rt ti.r) (rt tk.r) ≤ _
                  have h2 : dist (rt ti.r) (rt tk.r) ≤ min (m.win (waitP now tk.s)) (m.win (waitP now ti.s)) := h1
                  omega
                obtain ⟨un, ur, us⟩ := ti
                obtain ⟨vn, vr, vs⟩ := tk
                simp only at u2 u3 u4 v2 v3 v4 hnd HST1 HST2
                have HBX : Hid (∀ W, Below wr.heap.size wr W → Below w'.heap.size w' W) := fun W hW => HBW.out W (HB2R.out.trans ((HK2.out.trans (hW.mono HK2.out.size)).mono HB2R.out.size))
                have HC18 : Hid (∀ W, Below wr.heap.size wr W → W.cell? ⟨g, o + i, none⟩ = some (.int .i64 (pi : Int)) ∧ W.cell? ⟨g, o + k, none⟩ = some (.int .i64 (pk : Int)) ∧ W.cell? ⟨b1, o1 + pi * 5, none⟩ = some (.int .u32 ux) ∧ W.cell? ⟨b1, o1 + pi * 5 + 1, none⟩ = some (.int .i64 uy) ∧ W.cell? ⟨b1, o1 + pi * 5 + 2, none⟩ = some (.slice uP un uc) ∧ W.cell? ⟨b1, o1 + pi * 5 + 3, none⟩ = some (.int .i64 ur) ∧ W.cell? ⟨b1, o1 + pi * 5 + 4, none⟩ = some (.int .i64 us) ∧ W.cell? ⟨b1, o1 + pk * 5, none⟩ = some (.int .u32 vx) ∧ W.cell? ⟨b1, o1 + pk * 5 + 1, none⟩ = some (.int .i64 vy) ∧ W.cell? ⟨b1, o1 + pk * 5 + 2, none⟩ = some (.slice vP vn vc) ∧ W.cell? ⟨b1, o1 + pk * 5 + 3, none⟩ = some (.int .i64 vr) ∧ W.cell? ⟨b1, o1 + pk * 5 + 4, none⟩ = some (.int .i64 vs)) := fun W hW => by
                  have hbw := HBX.out W hW
                  have hb3 := HK2.out.trans (hW.mono HK2.out.size)
                  exact ⟨HGC.out W hb3 i _ hpi, HGC.out W hb3 k _ hpk, (hbw.cell (p := ⟨b1, _, none⟩) hbb1).trans u0, (hbw.cell (p := ⟨b1, _, none⟩) hbb1).trans u1, (hbw.cell (p := ⟨b1, _, none⟩) hbb1).trans u2, (hbw.cell (p := ⟨b1, _, none⟩) hbb1).trans u3, (hbw.cell (p := ⟨b1, _, none⟩) hbb1).trans u4, (hbw.cell (p := ⟨b1, _, none⟩) hbb1).trans v0, (hbw.cell (p := ⟨b1, _, none⟩) hbb1).trans v1, (hbw.cell (p := ⟨b1, _, none⟩) hbb1).trans v2, (hbw.cell (p := ⟨b1, _, none⟩) hbb1).trans v3, (hbw.cell (p := ⟨b1, _, none⟩) hbb1).trans v4⟩
                have HWU : Hid (∀ W, Calls Try.prog 10 #[.int .i64 now, .int .i64 us] W fun r w' => r = .returned (.int .i64 (waitP now us)) ∧ Below W.heap.size W w') := fun W => (wait_any now us W HNOW.out HST1.out).mono fun r w' h => ⟨h.1, by rw [h.2]; exact Below.refl _ _⟩
                have HWV : Hid (∀ W, Calls Try.prog 10 #[.int .i64 now, .int .i64 vs] W fun r w' => r = .returned (.int .i64 (waitP now vs)) ∧ Below W.heap.size W w') := fun W => (wait_any now vs W HNOW.out HST2.out).mono fun r w' h => ⟨h.1, by rw [h.2]; exact Below.refl _ _⟩
                have hwb1 := wait_bd now us
                have hwb2 := wait_bd now vs
                obtain ⟨wu, hwu⟩ : ∃ wu, wu = waitP now us := ⟨_, rfl⟩
                obtain ⟨wv, hwv⟩ : ∃ wv, wv = waitP now vs := ⟨_, rfl⟩
                rw [← hwu] at HWU hwb1 hnd
                rw [← hwv] at HWV hwb2 hnd
                have HNU : Hid (∀ W, Calls Try.prog 24 #[m.v, .int .i64 wu] W fun r w' => r = .returned (.int .i64 (m.win wu)) ∧ Below W.heap.size W w') := fun W => window_any m.k m.b m.s m.c m.e wu W (by omega)
                have HNV : Hid (∀ W, Calls Try.prog 24 #[m.v, .int .i64 wv] W fun r w' => r = .returned (.int .i64 (m.win wv)) ∧ Below W.heap.size W w') := fun W => window_any m.k m.b m.s m.c m.e wv W (by omega)
                obtain ⟨iu, hiu⟩ : ∃ iu, iu = m.win wu := ⟨_, rfl⟩
                obtain ⟨iv, hiv⟩ : ∃ iv, iv = m.win wv := ⟨_, rfl⟩
                rw [← hiu] at HNU hnd
                rw [← hiv] at HNV hnd
                have HNE9 : Hid (∀ W, Calls Try.prog 23 #[.int .i64 ur, .int .i64 iu, .int .i64 vr, .int .i64 iv] W fun r w' => r = .returned (.bool true) ∧ Below W.heap.size W w') := fun W => (near_any ur iu vr iv W).mono fun r w' h => ⟨by rw [h.1, decide_eq_true hnd], by rw [h.2]; exact Below.refl _ _⟩
                have HBS : Hid (Below wr.heap.size wr wr) := Below.refl _ _
                clear hnear hti htk hei hek hpi hpk hbb1 ha1 u0 u1 u2 u3 u4 v0 v1 v2 v3 v4 hwb1 hwb2 hwu hwv hiu hiv hnd
                subst hAe
                go_upto_region 18 with (fail)
                go_cut [17, 18] from 100 to 144 (fun x y wx => ∃ G1 G2, x = .pointer (some ⟨G1, 0, none⟩) ∧ y = .pointer (some ⟨G2, 0, none⟩) ∧ Hid (wx.heap[G1]? = some (.cells #[.int .u32 ux, .int .i64 uy, .slice uP un uc, .int .i64 ur, .int .i64 us] 30 (0, 0)) ∧ wx.heap[G2]? = some (.cells #[.int .u32 vx, .int .i64 vy, .slice vP vn vc, .int .i64 vr, .int .i64 vs] 30 (0, 0)) ∧ Below wr.heap.size wr wx))
                case first =>
                  have HDs : Hid (Below wr.heap.size wr wr.drew) := HBS.out.drew
                  refine wp_region_held_drew (S := fun W : World => W.cell? ⟨g, o + i, none⟩ = some (.int .i64 (pi : Int)) ∧ W.cell? ⟨g, o + k, none⟩ = some (.int .i64 (pk : Int)) ∧ W.cell? ⟨b1, o1 + pi * 5, none⟩ = some (.int .u32 ux) ∧ W.cell? ⟨b1, o1 + pi * 5 + 1, none⟩ = some (.int .i64 uy) ∧ W.cell? ⟨b1, o1 + pi * 5 + 2, none⟩ = some (.slice uP un uc) ∧ W.cell? ⟨b1, o1 + pi * 5 + 3, none⟩ = some (.int .i64 ur) ∧ W.cell? ⟨b1, o1 + pi * 5 + 4, none⟩ = some (.int .i64 us) ∧ W.cell? ⟨b1, o1 + pk * 5, none⟩ = some (.int .u32 vx) ∧ W.cell? ⟨b1, o1 + pk * 5 + 1, none⟩ = some (.int .i64 vy) ∧ W.cell? ⟨b1, o1 + pk * 5 + 2, none⟩ = some (.slice vP vn vc) ∧ W.cell? ⟨b1, o1 + pk * 5 + 3, none⟩ = some (.int .i64 vr) ∧ W.cell? ⟨b1, o1 + pk * 5 + 4, none⟩ = some (.int .i64 vs)) (by kernel_rfl) (HC18.out _ HDs.out) (fun hHeld => ?_)
                  obtain ⟨Ws0, hW0⟩ : ∃ W0, W0 = wr.drew := ⟨_, rfl⟩
                  rw [← hW0] at hHeld HDs ⊢
                  clear hW0
                  refine wpAnyH_take (i := 0) (oi := ?oi0s) (v := ?v0s) ?hi0s ?hs0s ?hf0s ?hr0s ?hQ0s ?hy0s ?hS0s ?h0s
                  case hi0s => exact (by simp only [List.getElem?_toArray, List.getElem?_cons_zero]; rfl)
                  case hs0s => kernel_rfl
                  case hf0s => kernel_rfl
                  case hr0s => kernel_rfl
                  case hQ0s => exact fun _ _ _ h => h
                  case hy0s =>
                    refine Or.inl ⟨rfl, ?_⟩
                    intro W hSw
                    obtain ⟨y0, y1, y2, y3, y4, y5, y6, y7, y8, y9, y10, y11⟩ := hSw
                    have q1 := HIX.out.1
                    have q2 := HIX.out.2.1
                    have q3 := HIX.out.2.2.1
                    have q4 := HIX.out.2.2.2
                    go_simp
                    try with_reducible rfl
                  case hS0s => assumption
                  try simp only [Act.put, List.setIfInBounds_toArray, List.set_cons_zero, List.set_cons_succ]
                  refine wpAnyH_take (i := 1) (oi := ?oi1s) (v := ?v1s) ?hi1s ?hs1s ?hf1s ?hr1s ?hQ1s ?hy1s ?hS1s ?h1s
                  case hi1s => exact (by simp only [List.getElem?_toArray, List.getElem?_cons_succ, List.getElem?_cons_zero]; rfl)
                  case hs1s => kernel_rfl
                  case hf1s => kernel_rfl
                  case hr1s => kernel_rfl
                  case hQ1s => exact fun _ _ _ h => h
                  case hy1s =>
                    refine Or.inl ⟨rfl, ?_⟩
                    intro W hSw
                    obtain ⟨y0, y1, y2, y3, y4, y5, y6, y7, y8, y9, y10, y11⟩ := hSw
                    have q1 := HIX.out.1
                    have q2 := HIX.out.2.1
                    have q3 := HIX.out.2.2.1
                    have q4 := HIX.out.2.2.2
                    go_simp
                    try with_reducible rfl
                  case hS1s => assumption
                  try simp only [Act.put, List.setIfInBounds_toArray, List.set_cons_zero, List.set_cons_succ]
                  refine wpAnyH_take (i := 2) (oi := ?oi2s) (v := ?v2s) ?hi2s ?hs2s ?hf2s ?hr2s ?hQ2s ?hy2s ?hS2s ?h2s
                  case hi2s => exact (by simp only [List.getElem?_toArray, List.getElem?_cons_succ, List.getElem?_cons_zero]; rfl)
                  case hs2s => kernel_rfl
                  case hf2s => kernel_rfl
                  case hr2s => kernel_rfl
                  case hQ2s => exact fun _ _ _ h => h
                  case hy2s =>
                    refine Or.inl ⟨rfl, ?_⟩
                    intro W hSw
                    obtain ⟨y0, y1, y2, y3, y4, y5, y6, y7, y8, y9, y10, y11⟩ := hSw
                    have q1 := HIX.out.1
                    have q2 := HIX.out.2.1
                    have q3 := HIX.out.2.2.1
                    have q4 := HIX.out.2.2.2
                    go_simp
                    try with_reducible rfl
                  case hS2s => assumption
                  try simp only [Act.put, List.setIfInBounds_toArray, List.set_cons_zero, List.set_cons_succ]
                  refine wpAnyH_take (i := 3) (oi := ?oi3s) (v := ?v3s) ?hi3s ?hs3s ?hf3s ?hr3s ?hQ3s ?hy3s ?hS3s ?h3s
                  case hi3s => exact (by simp only [List.getElem?_toArray, List.getElem?_cons_succ, List.getElem?_cons_zero]; rfl)
                  case hs3s => kernel_rfl
                  case hf3s => kernel_rfl
                  case hr3s => kernel_rfl
                  case hQ3s => exact fun _ _ _ h => h
                  case hy3s =>
                    refine Or.inl ⟨rfl, ?_⟩
                    intro W hSw
                    obtain ⟨y0, y1, y2, y3, y4, y5, y6, y7, y8, y9, y10, y11⟩ := hSw
                    have q1 := HIX.out.1
                    have q2 := HIX.out.2.1
                    have q3 := HIX.out.2.2.1
                    have q4 := HIX.out.2.2.2
                    go_simp
                    try with_reducible rfl
                  case hS3s => assumption
                  try simp only [Act.put, List.setIfInBounds_toArray, List.set_cons_zero, List.set_cons_succ]
                  refine wpAnyH_take (i := 4) (oi := ?oi4s) (v := ?v4s) ?hi4s ?hs4s ?hf4s ?hr4s ?hQ4s ?hy4s ?hS4s ?h4s
                  case hi4s => exact (by simp only [List.getElem?_toArray, List.getElem?_cons_succ, List.getElem?_cons_zero]; rfl)
                  case hs4s => kernel_rfl
                  case hf4s => kernel_rfl
                  case hr4s => kernel_rfl
                  case hQ4s => exact fun _ _ _ h => h
                  case hy4s =>
                    refine Or.inl ⟨rfl, ?_⟩
                    intro W hSw
                    obtain ⟨y0, y1, y2, y3, y4, y5, y6, y7, y8, y9, y10, y11⟩ := hSw
                    have q1 := HIX.out.1
                    have q2 := HIX.out.2.1
                    have q3 := HIX.out.2.2.1
                    have q4 := HIX.out.2.2.2
                    go_simp
                    try with_reducible rfl
                  case hS4s => assumption
                  try simp only [Act.put, List.setIfInBounds_toArray, List.set_cons_zero, List.set_cons_succ]
                  refine wpAnyH_take (i := 5) (oi := ?oi5s) (v := ?v5s) ?hi5s ?hs5s ?hf5s ?hr5s ?hQ5s ?hy5s ?hS5s ?h5s
                  case hi5s => exact (by simp only [List.getElem?_toArray, List.getElem?_cons_succ, List.getElem?_cons_zero]; rfl)
                  case hs5s => kernel_rfl
                  case hf5s => kernel_rfl
                  case hr5s => kernel_rfl
                  case hQ5s => exact fun _ _ _ h => h
                  case hy5s =>
                    refine Or.inl ⟨rfl, ?_⟩
                    intro W hSw
                    obtain ⟨y0, y1, y2, y3, y4, y5, y6, y7, y8, y9, y10, y11⟩ := hSw
                    have q1 := HIX.out.1
                    have q2 := HIX.out.2.1
                    have q3 := HIX.out.2.2.1
                    have q4 := HIX.out.2.2.2
                    go_simp
                    try with_reducible rfl
                  case hS5s => assumption
                  try simp only [Act.put, List.setIfInBounds_toArray, List.set_cons_zero, List.set_cons_succ]
                  refine wpAnyH_take (i := 6) (oi := ?oi6s) (v := ?v6s) ?hi6s ?hs6s ?hf6s ?hr6s ?hQ6s ?hy6s ?hS6s ?h6s
                  case hi6s => exact (by simp only [List.getElem?_toArray, List.getElem?_cons_succ, List.getElem?_cons_zero]; rfl)
                  case hs6s => kernel_rfl
                  case hf6s => kernel_rfl
                  case hr6s => kernel_rfl
                  case hQ6s => exact fun _ _ _ h => h
                  case hy6s =>
                    refine Or.inl ⟨rfl, ?_⟩
                    intro W hSw
                    obtain ⟨y0, y1, y2, y3, y4, y5, y6, y7, y8, y9, y10, y11⟩ := hSw
                    have q1 := HIX.out.1
                    have q2 := HIX.out.2.1
                    have q3 := HIX.out.2.2.1
                    have q4 := HIX.out.2.2.2
                    go_simp
                    try with_reducible rfl
                  case hS6s => assumption
                  try simp only [Act.put, List.setIfInBounds_toArray, List.set_cons_zero, List.set_cons_succ]
                  refine wpAnyH_take (i := 7) (oi := ?oi7s) (v := ?v7s) ?hi7s ?hs7s ?hf7s ?hr7s ?hQ7s ?hy7s ?hS7s ?h7s
                  case hi7s => exact (by simp only [List.getElem?_toArray, List.getElem?_cons_succ, List.getElem?_cons_zero]; rfl)
                  case hs7s => kernel_rfl
                  case hf7s => kernel_rfl
                  case hr7s => kernel_rfl
                  case hQ7s => exact fun _ _ _ h => h
                  case hy7s =>
                    refine Or.inl ⟨rfl, ?_⟩
                    intro W hSw
                    obtain ⟨y0, y1, y2, y3, y4, y5, y6, y7, y8, y9, y10, y11⟩ := hSw
                    have q1 := HIX.out.1
                    have q2 := HIX.out.2.1
                    have q3 := HIX.out.2.2.1
                    have q4 := HIX.out.2.2.2
                    go_simp
                    try with_reducible rfl
                  case hS7s => assumption
                  try simp only [Act.put, List.setIfInBounds_toArray, List.set_cons_zero, List.set_cons_succ]
                  refine wpAnyH_take (i := 8) (oi := ?oi8s) (v := ?v8s) ?hi8s ?hs8s ?hf8s ?hr8s ?hQ8s ?hy8s ?hS8s ?h8s
                  case hi8s => exact (by simp only [List.getElem?_toArray, List.getElem?_cons_succ, List.getElem?_cons_zero]; rfl)
                  case hs8s => kernel_rfl
                  case hf8s => kernel_rfl
                  case hr8s => kernel_rfl
                  case hQ8s => exact fun _ _ _ h => h
                  case hy8s =>
                    refine Or.inl ⟨rfl, ?_⟩
                    intro W hSw
                    obtain ⟨y0, y1, y2, y3, y4, y5, y6, y7, y8, y9, y10, y11⟩ := hSw
                    have q1 := HIX.out.1
                    have q2 := HIX.out.2.1
                    have q3 := HIX.out.2.2.1
                    have q4 := HIX.out.2.2.2
                    go_simp
                    try with_reducible rfl
                  case hS8s => assumption
                  try simp only [Act.put, List.setIfInBounds_toArray, List.set_cons_zero, List.set_cons_succ]
                  refine wpAnyH_take (i := 9) (oi := ?oi9s) (v := ?v9s) ?hi9s ?hs9s ?hf9s ?hr9s ?hQ9s ?hy9s ?hS9s ?h9s
                  case hi9s => exact (by simp only [List.getElem?_toArray, List.getElem?_cons_succ, List.getElem?_cons_zero]; rfl)
                  case hs9s => kernel_rfl
                  case hf9s => kernel_rfl
                  case hr9s => kernel_rfl
                  case hQ9s => exact fun _ _ _ h => h
                  case hy9s =>
                    refine Or.inl ⟨rfl, ?_⟩
                    intro W hSw
                    obtain ⟨y0, y1, y2, y3, y4, y5, y6, y7, y8, y9, y10, y11⟩ := hSw
                    have q1 := HIX.out.1
                    have q2 := HIX.out.2.1
                    have q3 := HIX.out.2.2.1
                    have q4 := HIX.out.2.2.2
                    go_simp
                    try with_reducible rfl
                  case hS9s => assumption
                  try simp only [Act.put, List.setIfInBounds_toArray, List.set_cons_zero, List.set_cons_succ]
                  refine wpAnyH_take (i := 10) (oi := ?oi10s) (v := ?v10s) ?hi10s ?hs10s ?hf10s ?hr10s ?hQ10s ?hy10s ?hS10s ?h10s
                  case hi10s => exact (by simp only [List.getElem?_toArray, List.getElem?_cons_succ, List.getElem?_cons_zero]; rfl)
                  case hs10s => kernel_rfl
                  case hf10s => kernel_rfl
                  case hr10s => kernel_rfl
                  case hQ10s => exact fun _ _ _ h => h
                  case hy10s =>
                    refine Or.inl ⟨rfl, ?_⟩
                    intro W hSw
                    obtain ⟨y0, y1, y2, y3, y4, y5, y6, y7, y8, y9, y10, y11⟩ := hSw
                    have q1 := HIX.out.1
                    have q2 := HIX.out.2.1
                    have q3 := HIX.out.2.2.1
                    have q4 := HIX.out.2.2.2
                    go_simp
                    try with_reducible rfl
                  case hS10s => assumption
                  try simp only [Act.put, List.setIfInBounds_toArray, List.set_cons_zero, List.set_cons_succ]
                  refine wpAnyH_take (i := 11) (oi := ?oi11s) (v := ?v11s) ?hi11s ?hs11s ?hf11s ?hr11s ?hQ11s ?hy11s ?hS11s ?h11s
                  case hi11s => exact (by simp only [List.getElem?_toArray, List.getElem?_cons_succ, List.getElem?_cons_zero]; rfl)
                  case hs11s => kernel_rfl
                  case hf11s => kernel_rfl
                  case hr11s => kernel_rfl
                  case hQ11s => exact fun _ _ _ h => h
                  case hy11s =>
                    refine Or.inl ⟨rfl, ?_⟩
                    intro W hSw
                    obtain ⟨y0, y1, y2, y3, y4, y5, y6, y7, y8, y9, y10, y11⟩ := hSw
                    have q1 := HIX.out.1
                    have q2 := HIX.out.2.1
                    have q3 := HIX.out.2.2.1
                    have q4 := HIX.out.2.2.2
                    go_simp
                    try with_reducible rfl
                  case hS11s => assumption
                  try simp only [Act.put, List.setIfInBounds_toArray, List.set_cons_zero, List.set_cons_succ]
                  refine wpAnyH_take (i := 12) (oi := ?oi12s) (v := ?v12s) ?hi12s ?hs12s ?hf12s ?hr12s ?hQ12s ?hy12s ?hS12s ?h12s
                  case hi12s => exact (by simp only [List.getElem?_toArray, List.getElem?_cons_succ, List.getElem?_cons_zero]; rfl)
                  case hs12s => kernel_rfl
                  case hf12s => kernel_rfl
                  case hr12s => kernel_rfl
                  case hQ12s => exact fun _ _ _ h => h
                  case hy12s =>
                    refine Or.inl ⟨rfl, ?_⟩
                    intro W hSw
                    obtain ⟨y0, y1, y2, y3, y4, y5, y6, y7, y8, y9, y10, y11⟩ := hSw
                    have q1 := HIX.out.1
                    have q2 := HIX.out.2.1
                    have q3 := HIX.out.2.2.1
                    have q4 := HIX.out.2.2.2
                    go_simp
                    try with_reducible rfl
                  case hS12s => assumption
                  try simp only [Act.put, List.setIfInBounds_toArray, List.set_cons_zero, List.set_cons_succ]
                  refine wpAnyH_take (i := 13) (oi := ?oi13s) (v := ?v13s) ?hi13s ?hs13s ?hf13s ?hr13s ?hQ13s ?hy13s ?hS13s ?h13s
                  case hi13s => exact (by simp only [List.getElem?_toArray, List.getElem?_cons_succ, List.getElem?_cons_zero]; rfl)
                  case hs13s => kernel_rfl
                  case hf13s => kernel_rfl
                  case hr13s => kernel_rfl
                  case hQ13s => exact fun _ _ _ h => h
                  case hy13s =>
                    refine Or.inl ⟨rfl, ?_⟩
                    intro W hSw
                    obtain ⟨y0, y1, y2, y3, y4, y5, y6, y7, y8, y9, y10, y11⟩ := hSw
                    have q1 := HIX.out.1
                    have q2 := HIX.out.2.1
                    have q3 := HIX.out.2.2.1
                    have q4 := HIX.out.2.2.2
                    go_simp
                    try with_reducible rfl
                  case hS13s => assumption
                  try simp only [Act.put, List.setIfInBounds_toArray, List.set_cons_zero, List.set_cons_succ]
                  refine wpAnyH_ready (rs := [14, 15]) (by kernel_rfl) (by simp) ?_
                  refine AllReadyH.cons (o := _) rfl (fun K hK => ?_) (AllReadyH.cons (o := _) rfl (fun K hK => ?_) AllReadyH.nil)
                  · go_simp
                    obtain ⟨Ws1, hW1⟩ : ∃ W1, W1 = Ws0.alloc (.cells #[.int .u32 0, .int .i64 0, .slice none 0 0, .int .i64 0, .int .i64 0] 30) := ⟨_, rfl⟩
                    rw [← hW1]
                    obtain ⟨G1, hG⟩ : ∃ G, G = Ws0.heap.size := ⟨_, rfl⟩
                    rw [← hG]
                    have HZG1 : Hid (Ws1.heap[G1]? = some (.cells #[.int .u32 0, .int .i64 0, .slice none 0 0, .int .i64 0, .int .i64 0] 30 (0, 0))) := by rw [hW1, hG]; exact heap_alloc_new Ws0 _
                    have HDWs1 : Hid (Below wr.heap.size wr Ws1) := by rw [hW1]; exact HDs.out.alloc HDs.out.size _
                    have HGEG1 : Hid (wr.heap.size ≤ G1) := by rw [hG]; exact HDs.out.size
                    clear hW1 hG
                    refine hK.out _ _ (HC18.out _ HDWs1.out) (fun hHeld => ?_)
                    clear hK K
                    try simp only [Act.put, List.setIfInBounds_toArray, List.set_cons_zero, List.set_cons_succ]
                    refine wpAnyH_ready (rs := [15]) (by kernel_rfl) (by simp) ?_
                    refine AllReadyH.cons (o := _) rfl (fun K hK => ?_) AllReadyH.nil
                    go_simp
                    obtain ⟨Ws2, hW1⟩ : ∃ W1, W1 = Ws1.alloc (.cells #[.int .u32 0, .int .i64 0, .slice none 0 0, .int .i64 0, .int .i64 0] 30) := ⟨_, rfl⟩
                    rw [← hW1]
                    obtain ⟨G2, hG⟩ : ∃ G, G = Ws1.heap.size := ⟨_, rfl⟩
                    rw [← hG]
                    have HZG2 : Hid (Ws2.heap[G2]? = some (.cells #[.int .u32 0, .int .i64 0, .slice none 0 0, .int .i64 0, .int .i64 0] 30 (0, 0))) := by rw [hW1, hG]; exact heap_alloc_new Ws1 _
                    have HDWs2 : Hid (Below wr.heap.size wr Ws2) := by rw [hW1]; exact HDWs1.out.alloc HDWs1.out.size _
                    have HGEG2 : Hid (wr.heap.size ≤ G2) := by rw [hG]; exact HDWs1.out.size
                    have HYG1 : Hid (Ws2.heap[G1]? = some (.cells #[.int .u32 0, .int .i64 0, .slice none 0 0, .int .i64 0, .int .i64 0] 30 (0, 0))) := by rw [hW1]; exact (Below.heap_alloc _ _ _ (lt_of_block HZG1.out)).trans HZG1.out
                    have HNE : Hid (G1 < G2) := by rw [hG]; exact lt_of_block HZG1.out
                    clear hW1 hG
                    refine hK.out _ _ (HC18.out _ HDWs2.out) (fun hHeld => ?_)
                    clear hK K
                    try simp only [Act.put, List.setIfInBounds_toArray, List.set_cons_zero, List.set_cons_succ]
                    refine wpAnyH_ready (rs := [16]) (by kernel_rfl) (by simp) ?_
                    refine AllReadyH.cons (o := _) rfl (fun K hK => ?_) AllReadyH.nil
                    have fz : ∀ j, Ws2.frozen? ⟨G1, j, none⟩ = false := fun j => frozen_of_row Ws2 _ j _ _ HYG1.out
                    have k0 := cell_of_row Ws2 G1 0 _ _ _ HYG1.out
                    have k1 := cell_of_row Ws2 G1 1 _ _ _ HYG1.out
                    have k2 := cell_of_row Ws2 G1 2 _ _ _ HYG1.out
                    have k3 := cell_of_row Ws2 G1 3 _ _ _ HYG1.out
                    have k4 := cell_of_row Ws2 G1 4 _ _ _ HYG1.out
                    simp at k0 k1 k2 k3 k4
                    go_simp
                    obtain ⟨Ws3, hW1⟩ : ∃ W1, W1 = ((((Ws2.setCell ⟨G1, 0, none⟩ (.int .u32 ux)).setCell ⟨G1, 1, none⟩ (.int .i64 uy)).setCell ⟨G1, 2, none⟩ (.slice uP un uc)).setCell ⟨G1, 3, none⟩ (.int .i64 ur)).setCell ⟨G1, 4, none⟩ (.int .i64 us) := ⟨_, rfl⟩
                    rw [← hW1]
                    clear fz k0 k1 k2 k3 k4
                    have HRG1 : Hid (Ws3.heap[G1]? = some (.cells #[.int .u32 ux, .int .i64 uy, .slice uP un uc, .int .i64 ur, .int .i64 us] 30 (0, 0))) := by rw [hW1]; exact five HYG1.out
                    have HDWs3 : Hid (Below wr.heap.size wr Ws3) := by
                      rw [hW1]
                      exact ((((HDWs2.out.setCell HGEG1.out _).setCell HGEG1.out _).setCell HGEG1.out _).setCell HGEG1.out _).setCell HGEG1.out _
                    have HXG2 : Hid (Ws3.heap[G2]? = some (.cells #[.int .u32 0, .int .i64 0, .slice none 0 0, .int .i64 0, .int .i64 0] 30 (0, 0))) := by
                      have hne := HNE.out
                      simp only [Hid]
                      rw [hW1, Below.heap_setCell _ _ _ _ (by show G2 ≠ G1; omega), Below.heap_setCell _ _ _ _ (by show G2 ≠ G1; omega), Below.heap_setCell _ _ _ _ (by show G2 ≠ G1; omega), Below.heap_setCell _ _ _ _ (by show G2 ≠ G1; omega), Below.heap_setCell _ _ _ _ (by show G2 ≠ G1; omega)]
                      exact HZG2.out
                    clear hW1
                    refine hK.out _ _ (HC18.out _ HDWs3.out) (fun hHeld => ?_)
                    clear hK K
                    try simp only [Act.put, List.setIfInBounds_toArray, List.set_cons_zero, List.set_cons_succ]
                    refine wpAnyH_ready (rs := [17]) (by kernel_rfl) (by simp) ?_
                    refine AllReadyH.cons (o := _) rfl (fun K hK => ?_) AllReadyH.nil
                    have fz : ∀ j, Ws3.frozen? ⟨G2, j, none⟩ = false := fun j => frozen_of_row Ws3 _ j _ _ HXG2.out
                    have k0 := cell_of_row Ws3 G2 0 _ _ _ HXG2.out
                    have k1 := cell_of_row Ws3 G2 1 _ _ _ HXG2.out
                    have k2 := cell_of_row Ws3 G2 2 _ _ _ HXG2.out
                    have k3 := cell_of_row Ws3 G2 3 _ _ _ HXG2.out
                    have k4 := cell_of_row Ws3 G2 4 _ _ _ HXG2.out
                    simp at k0 k1 k2 k3 k4
                    go_simp
                    obtain ⟨Ws4, hW1⟩ : ∃ W1, W1 = ((((Ws3.setCell ⟨G2, 0, none⟩ (.int .u32 vx)).setCell ⟨G2, 1, none⟩ (.int .i64 vy)).setCell ⟨G2, 2, none⟩ (.slice vP vn vc)).setCell ⟨G2, 3, none⟩ (.int .i64 vr)).setCell ⟨G2, 4, none⟩ (.int .i64 vs) := ⟨_, rfl⟩
                    rw [← hW1]
                    clear fz k0 k1 k2 k3 k4
                    have HRG2 : Hid (Ws4.heap[G2]? = some (.cells #[.int .u32 vx, .int .i64 vy, .slice vP vn vc, .int .i64 vr, .int .i64 vs] 30 (0, 0))) := by rw [hW1]; exact five HXG2.out
                    have HDWs4 : Hid (Below wr.heap.size wr Ws4) := by
                      rw [hW1]
                      exact ((((HDWs3.out.setCell HGEG2.out _).setCell HGEG2.out _).setCell HGEG2.out _).setCell HGEG2.out _).setCell HGEG2.out _
                    have HXG1 : Hid (Ws4.heap[G1]? = some (.cells #[.int .u32 ux, .int .i64 uy, .slice uP un uc, .int .i64 ur, .int .i64 us] 30 (0, 0))) := by
                      have hne := HNE.out
                      simp only [Hid]
                      rw [hW1, Below.heap_setCell _ _ _ _ (by show G1 ≠ G2; omega), Below.heap_setCell _ _ _ _ (by show G1 ≠ G2; omega), Below.heap_setCell _ _ _ _ (by show G1 ≠ G2; omega), Below.heap_setCell _ _ _ _ (by show G1 ≠ G2; omega), Below.heap_setCell _ _ _ _ (by show G1 ≠ G2; omega)]
                      exact HRG1.out
                    clear hW1
                    refine hK.out _ _ (HC18.out _ HDWs4.out) (fun hHeld => ?_)
                    clear hK K
                    try simp only [Act.put, List.setIfInBounds_toArray, List.set_cons_zero, List.set_cons_succ]
                    refine wpAnyH_done (by kernel_rfl) ?_ _
                    try go_wp2_with fail
                    go_meet
                    exact ⟨G1, G2, rfl, rfl, HXG1.out, HRG2.out, HDWs4.out⟩
                  · go_simp
                    obtain ⟨Ws1, hW1⟩ : ∃ W1, W1 = Ws0.alloc (.cells #[.int .u32 0, .int .i64 0, .slice none 0 0, .int .i64 0, .int .i64 0] 30) := ⟨_, rfl⟩
                    rw [← hW1]
                    obtain ⟨G2, hG⟩ : ∃ G, G = Ws0.heap.size := ⟨_, rfl⟩
                    rw [← hG]
                    have HZG2 : Hid (Ws1.heap[G2]? = some (.cells #[.int .u32 0, .int .i64 0, .slice none 0 0, .int .i64 0, .int .i64 0] 30 (0, 0))) := by rw [hW1, hG]; exact heap_alloc_new Ws0 _
                    have HDWs1 : Hid (Below wr.heap.size wr Ws1) := by rw [hW1]; exact HDs.out.alloc HDs.out.size _
                    have HGEG2 : Hid (wr.heap.size ≤ G2) := by rw [hG]; exact HDs.out.size
                    clear hW1 hG
                    refine hK.out _ _ (HC18.out _ HDWs1.out) (fun hHeld => ?_)
                    clear hK K
                    try simp only [Act.put, List.setIfInBounds_toArray, List.set_cons_zero, List.set_cons_succ]
                    refine wpAnyH_ready (rs := [14]) (by kernel_rfl) (by simp) ?_
                    refine AllReadyH.cons (o := _) rfl (fun K hK => ?_) AllReadyH.nil
                    go_simp
                    obtain ⟨Ws2, hW1⟩ : ∃ W1, W1 = Ws1.alloc (.cells #[.int .u32 0, .int .i64 0, .slice none 0 0, .int .i64 0, .int .i64 0] 30) := ⟨_, rfl⟩
                    rw [← hW1]
                    obtain ⟨G1, hG⟩ : ∃ G, G = Ws1.heap.size := ⟨_, rfl⟩
                    rw [← hG]
                    have HZG1 : Hid (Ws2.heap[G1]? = some (.cells #[.int .u32 0, .int .i64 0, .slice none 0 0, .int .i64 0, .int .i64 0] 30 (0, 0))) := by rw [hW1, hG]; exact heap_alloc_new Ws1 _
                    have HDWs2 : Hid (Below wr.heap.size wr Ws2) := by rw [hW1]; exact HDWs1.out.alloc HDWs1.out.size _
                    have HGEG1 : Hid (wr.heap.size ≤ G1) := by rw [hG]; exact HDWs1.out.size
                    have HYG2 : Hid (Ws2.heap[G2]? = some (.cells #[.int .u32 0, .int .i64 0, .slice none 0 0, .int .i64 0, .int .i64 0] 30 (0, 0))) := by rw [hW1]; exact (Below.heap_alloc _ _ _ (lt_of_block HZG2.out)).trans HZG2.out
                    have HNE : Hid (G2 < G1) := by rw [hG]; exact lt_of_block HZG2.out
                    clear hW1 hG
                    refine hK.out _ _ (HC18.out _ HDWs2.out) (fun hHeld => ?_)
                    clear hK K
                    try simp only [Act.put, List.setIfInBounds_toArray, List.set_cons_zero, List.set_cons_succ]
                    refine wpAnyH_ready (rs := [16]) (by kernel_rfl) (by simp) ?_
                    refine AllReadyH.cons (o := _) rfl (fun K hK => ?_) AllReadyH.nil
                    have fz : ∀ j, Ws2.frozen? ⟨G1, j, none⟩ = false := fun j => frozen_of_row Ws2 _ j _ _ HZG1.out
                    have k0 := cell_of_row Ws2 G1 0 _ _ _ HZG1.out
                    have k1 := cell_of_row Ws2 G1 1 _ _ _ HZG1.out
                    have k2 := cell_of_row Ws2 G1 2 _ _ _ HZG1.out
                    have k3 := cell_of_row Ws2 G1 3 _ _ _ HZG1.out
                    have k4 := cell_of_row Ws2 G1 4 _ _ _ HZG1.out
                    simp at k0 k1 k2 k3 k4
                    go_simp
                    obtain ⟨Ws3, hW1⟩ : ∃ W1, W1 = ((((Ws2.setCell ⟨G1, 0, none⟩ (.int .u32 ux)).setCell ⟨G1, 1, none⟩ (.int .i64 uy)).setCell ⟨G1, 2, none⟩ (.slice uP un uc)).setCell ⟨G1, 3, none⟩ (.int .i64 ur)).setCell ⟨G1, 4, none⟩ (.int .i64 us) := ⟨_, rfl⟩
                    rw [← hW1]
                    clear fz k0 k1 k2 k3 k4
                    have HRG1 : Hid (Ws3.heap[G1]? = some (.cells #[.int .u32 ux, .int .i64 uy, .slice uP un uc, .int .i64 ur, .int .i64 us] 30 (0, 0))) := by rw [hW1]; exact five HZG1.out
                    have HDWs3 : Hid (Below wr.heap.size wr Ws3) := by
                      rw [hW1]
                      exact ((((HDWs2.out.setCell HGEG1.out _).setCell HGEG1.out _).setCell HGEG1.out _).setCell HGEG1.out _).setCell HGEG1.out _
                    have HXG2 : Hid (Ws3.heap[G2]? = some (.cells #[.int .u32 0, .int .i64 0, .slice none 0 0, .int .i64 0, .int .i64 0] 30 (0, 0))) := by
                      have hne := HNE.out
                      simp only [Hid]
                      rw [hW1, Below.heap_setCell _ _ _ _ (by show G2 ≠ G1; omega), Below.heap_setCell _ _ _ _ (by show G2 ≠ G1; omega), Below.heap_setCell _ _ _ _ (by show G2 ≠ G1; omega), Below.heap_setCell _ _ _ _ (by show G2 ≠ G1; omega), Below.heap_setCell _ _ _ _ (by show G2 ≠ G1; omega)]
                      exact HYG2.out
                    clear hW1
                    refine hK.out _ _ (HC18.out _ HDWs3.out) (fun hHeld => ?_)
                    clear hK K
                    try simp only [Act.put, List.setIfInBounds_toArray, List.set_cons_zero, List.set_cons_succ]
                    refine wpAnyH_ready (rs := [17]) (by kernel_rfl) (by simp) ?_
                    refine AllReadyH.cons (o := _) rfl (fun K hK => ?_) AllReadyH.nil
                    have fz : ∀ j, Ws3.frozen? ⟨G2, j, none⟩ = false := fun j => frozen_of_row Ws3 _ j _ _ HXG2.out
                    have k0 := cell_of_row Ws3 G2 0 _ _ _ HXG2.out
                    have k1 := cell_of_row Ws3 G2 1 _ _ _ HXG2.out
                    have k2 := cell_of_row Ws3 G2 2 _ _ _ HXG2.out
                    have k3 := cell_of_row Ws3 G2 3 _ _ _ HXG2.out
                    have k4 := cell_of_row Ws3 G2 4 _ _ _ HXG2.out
                    simp at k0 k1 k2 k3 k4
                    go_simp
                    obtain ⟨Ws4, hW1⟩ : ∃ W1, W1 = ((((Ws3.setCell ⟨G2, 0, none⟩ (.int .u32 vx)).setCell ⟨G2, 1, none⟩ (.int .i64 vy)).setCell ⟨G2, 2, none⟩ (.slice vP vn vc)).setCell ⟨G2, 3, none⟩ (.int .i64 vr)).setCell ⟨G2, 4, none⟩ (.int .i64 vs) := ⟨_, rfl⟩
                    rw [← hW1]
                    clear fz k0 k1 k2 k3 k4
                    have HRG2 : Hid (Ws4.heap[G2]? = some (.cells #[.int .u32 vx, .int .i64 vy, .slice vP vn vc, .int .i64 vr, .int .i64 vs] 30 (0, 0))) := by rw [hW1]; exact five HXG2.out
                    have HDWs4 : Hid (Below wr.heap.size wr Ws4) := by
                      rw [hW1]
                      exact ((((HDWs3.out.setCell HGEG2.out _).setCell HGEG2.out _).setCell HGEG2.out _).setCell HGEG2.out _).setCell HGEG2.out _
                    have HXG1 : Hid (Ws4.heap[G1]? = some (.cells #[.int .u32 ux, .int .i64 uy, .slice uP un uc, .int .i64 ur, .int .i64 us] 30 (0, 0))) := by
                      have hne := HNE.out
                      simp only [Hid]
                      rw [hW1, Below.heap_setCell _ _ _ _ (by show G1 ≠ G2; omega), Below.heap_setCell _ _ _ _ (by show G1 ≠ G2; omega), Below.heap_setCell _ _ _ _ (by show G1 ≠ G2; omega), Below.heap_setCell _ _ _ _ (by show G1 ≠ G2; omega), Below.heap_setCell _ _ _ _ (by show G1 ≠ G2; omega)]
                      exact HRG1.out
                    clear hW1
                    refine hK.out _ _ (HC18.out _ HDWs4.out) (fun hHeld => ?_)
                    clear hK K
                    try simp only [Act.put, List.setIfInBounds_toArray, List.set_cons_zero, List.set_cons_succ]
                    refine wpAnyH_done (by kernel_rfl) ?_ _
                    try go_wp2_with fail
                    go_meet
                    exact ⟨G1, G2, rfl, rfl, HXG1.out, HRG2.out, HDWs4.out⟩
                case rest =>
                  obtain ⟨G1, G2, rfl, rfl, HC⟩ := hcut
                  have HC19 : Hid (∀ W, Below wc.heap.size wc W → W.cell? ⟨g, o + i, none⟩ = some (.int .i64 (pi : Int)) ∧ W.cell? ⟨g, o + k, none⟩ = some (.int .i64 (pk : Int)) ∧ W.cell? ⟨G1, 3, none⟩ = some (.int .i64 ur) ∧ W.cell? ⟨G1, 4, none⟩ = some (.int .i64 us) ∧ W.cell? ⟨G2, 3, none⟩ = some (.int .i64 vr) ∧ W.cell? ⟨G2, 4, none⟩ = some (.int .i64 vs) ∧ W.cell? ⟨w.heap.size, 0, none⟩ = some (.int .i64 m.k) ∧ W.cell? ⟨w.heap.size, 1, none⟩ = some (.int .i64 m.b) ∧ W.cell? ⟨w.heap.size, 2, none⟩ = some (.int .i64 m.s) ∧ W.cell? ⟨w.heap.size, 3, none⟩ = some (.int .i64 m.c) ∧ W.cell? ⟨w.heap.size, 4, none⟩ = some (.int .i64 m.e)) := fun W hW => by
                    have hbw := HC.out.2.2.trans (hW.mono HC.out.2.2.size)
                    obtain ⟨y0, y1, -⟩ := HC18.out W hbw
                    obtain ⟨z0, z1, z2, z3, z4⟩ := HCE.out W (HBX.out W hbw)
                    have e1 := (hW.block _ (lt_of_block HC.out.1)).trans HC.out.1
                    have e2 := (hW.block _ (lt_of_block HC.out.2.1)).trans HC.out.2.1
                    exact ⟨y0, y1, cell_of_row W _ 3 _ _ _ e1, cell_of_row W _ 4 _ _ _ e1, cell_of_row W _ 3 _ _ _ e2, cell_of_row W _ 4 _ _ _ e2, z0, z1, z2, z3, z4⟩
                  go_upto_region 19 with (fail)
                  have HDt : Hid (Below wc.heap.size wc wc.drew) := (Below.refl wc.heap.size wc).drew
                  refine wp_region_held_drew (S := fun W : World => W.cell? ⟨g, o + i, none⟩ = some (.int .i64 (pi : Int)) ∧ W.cell? ⟨g, o + k, none⟩ = some (.int .i64 (pk : Int)) ∧ W.cell? ⟨G1, 3, none⟩ = some (.int .i64 ur) ∧ W.cell? ⟨G1, 4, none⟩ = some (.int .i64 us) ∧ W.cell? ⟨G2, 3, none⟩ = some (.int .i64 vr) ∧ W.cell? ⟨G2, 4, none⟩ = some (.int .i64 vs) ∧ W.cell? ⟨w.heap.size, 0, none⟩ = some (.int .i64 m.k) ∧ W.cell? ⟨w.heap.size, 1, none⟩ = some (.int .i64 m.b) ∧ W.cell? ⟨w.heap.size, 2, none⟩ = some (.int .i64 m.s) ∧ W.cell? ⟨w.heap.size, 3, none⟩ = some (.int .i64 m.c) ∧ W.cell? ⟨w.heap.size, 4, none⟩ = some (.int .i64 m.e)) (by kernel_rfl) (HC19.out _ HDt.out) (fun hHeld => ?_)
                  obtain ⟨Wt0, hW0⟩ : ∃ W0, W0 = wc.drew := ⟨_, rfl⟩
                  rw [← hW0] at hHeld HDt ⊢
                  clear hW0
                  refine wpAnyH_take (i := 0) (oi := ?oi0t) (v := ?v0t) ?hi0t ?hs0t ?hf0t ?hr0t ?hQ0t ?hy0t ?hS0t ?h0t
                  case hi0t => exact (by simp only [List.getElem?_toArray, List.getElem?_cons_zero]; rfl)
                  case hs0t => kernel_rfl
                  case hf0t => kernel_rfl
                  case hr0t => kernel_rfl
                  case hQ0t => exact fun _ _ _ h => h
                  case hy0t =>
                    refine Or.inl ⟨rfl, ?_⟩
                    intro W hSw
                    obtain ⟨y0, y1, y2, y3, y4, y5, y6, y7, y8, y9, y10⟩ := hSw
                    have q1 := HIX.out.1
                    have q2 := HIX.out.2.1
                    have q3 := HPN.out
                    go_simp
                    try with_reducible rfl
                  case hS0t => assumption
                  try simp only [Act.put, List.setIfInBounds_toArray, List.set_cons_zero, List.set_cons_succ]
                  refine wpAnyH_take (i := 1) (oi := ?oi1t) (v := ?v1t) ?hi1t ?hs1t ?hf1t ?hr1t ?hQ1t ?hy1t ?hS1t ?h1t
                  case hi1t => exact (by simp only [List.getElem?_toArray, List.getElem?_cons_succ, List.getElem?_cons_zero]; rfl)
                  case hs1t => kernel_rfl
                  case hf1t => kernel_rfl
                  case hr1t => kernel_rfl
                  case hQ1t => exact fun _ _ _ h => h
                  case hy1t =>
                    refine Or.inl ⟨rfl, ?_⟩
                    intro W hSw
                    obtain ⟨y0, y1, y2, y3, y4, y5, y6, y7, y8, y9, y10⟩ := hSw
                    have q1 := HIX.out.1
                    have q2 := HIX.out.2.1
                    have q3 := HPN.out
                    go_simp
                    try with_reducible rfl
                  case hS1t => assumption
                  try simp only [Act.put, List.setIfInBounds_toArray, List.set_cons_zero, List.set_cons_succ]
                  refine wpAnyH_take (i := 2) (oi := ?oi2t) (v := ?v2t) ?hi2t ?hs2t ?hf2t ?hr2t ?hQ2t ?hy2t ?hS2t ?h2t
                  case hi2t => exact (by simp only [List.getElem?_toArray, List.getElem?_cons_succ, List.getElem?_cons_zero]; rfl)
                  case hs2t => kernel_rfl
                  case hf2t => kernel_rfl
                  case hr2t => kernel_rfl
                  case hQ2t => exact fun _ _ _ h => h
                  case hy2t =>
                    refine Or.inl ⟨rfl, ?_⟩
                    intro W hSw
                    obtain ⟨y0, y1, y2, y3, y4, y5, y6, y7, y8, y9, y10⟩ := hSw
                    have q1 := HIX.out.1
                    have q2 := HIX.out.2.1
                    have q3 := HPN.out
                    go_simp
                    try with_reducible rfl
                  case hS2t => assumption
                  try simp only [Act.put, List.setIfInBounds_toArray, List.set_cons_zero, List.set_cons_succ]
                  refine wpAnyH_take (i := 3) (oi := ?oi3t) (v := ?v3t) ?hi3t ?hs3t ?hf3t ?hr3t ?hQ3t ?hy3t ?hS3t ?h3t
                  case hi3t => exact (by simp only [List.getElem?_toArray, List.getElem?_cons_succ, List.getElem?_cons_zero]; rfl)
                  case hs3t => kernel_rfl
                  case hf3t => kernel_rfl
                  case hr3t => kernel_rfl
                  case hQ3t => exact fun _ _ _ h => h
                  case hy3t =>
                    refine Or.inl ⟨rfl, ?_⟩
                    intro W hSw
                    obtain ⟨y0, y1, y2, y3, y4, y5, y6, y7, y8, y9, y10⟩ := hSw
                    have q1 := HIX.out.1
                    have q2 := HIX.out.2.1
                    have q3 := HPN.out
                    go_simp
                    try with_reducible rfl
                  case hS3t => assumption
                  try simp only [Act.put, List.setIfInBounds_toArray, List.set_cons_zero, List.set_cons_succ]
                  refine wpAnyH_take (i := 4) (oi := ?oi4t) (v := ?v4t) ?hi4t ?hs4t ?hf4t ?hr4t ?hQ4t ?hy4t ?hS4t ?h4t
                  case hi4t => exact (by simp only [List.getElem?_toArray, List.getElem?_cons_succ, List.getElem?_cons_zero]; rfl)
                  case hs4t => kernel_rfl
                  case hf4t => kernel_rfl
                  case hr4t => kernel_rfl
                  case hQ4t => exact fun _ _ _ h => h
                  case hy4t =>
                    refine Or.inl ⟨rfl, ?_⟩
                    intro W hSw
                    obtain ⟨y0, y1, y2, y3, y4, y5, y6, y7, y8, y9, y10⟩ := hSw
                    have q1 := HIX.out.1
                    have q2 := HIX.out.2.1
                    have q3 := HPN.out
                    go_simp
                    try with_reducible rfl
                  case hS4t => assumption
                  try simp only [Act.put, List.setIfInBounds_toArray, List.set_cons_zero, List.set_cons_succ]
                  refine wpAnyH_take (i := 5) (oi := ?oi5t) (v := ?v5t) ?hi5t ?hs5t ?hf5t ?hr5t ?hQ5t ?hy5t ?hS5t ?h5t
                  case hi5t => exact (by simp only [List.getElem?_toArray, List.getElem?_cons_succ, List.getElem?_cons_zero]; rfl)
                  case hs5t => kernel_rfl
                  case hf5t => kernel_rfl
                  case hr5t => kernel_rfl
                  case hQ5t => exact fun _ _ _ h => h
                  case hy5t =>
                    refine Or.inl ⟨rfl, ?_⟩
                    intro W hSw
                    obtain ⟨y0, y1, y2, y3, y4, y5, y6, y7, y8, y9, y10⟩ := hSw
                    have q1 := HIX.out.1
                    have q2 := HIX.out.2.1
                    have q3 := HPN.out
                    go_simp
                    try with_reducible rfl
                  case hS5t => assumption
                  try simp only [Act.put, List.setIfInBounds_toArray, List.set_cons_zero, List.set_cons_succ]
                  refine wpAnyH_take (i := 6) (oi := ?oi6t) (v := ?v6t) ?hi6t ?hs6t ?hf6t ?hr6t ?hQ6t ?hy6t ?hS6t ?h6t
                  case hi6t => exact (by simp only [List.getElem?_toArray, List.getElem?_cons_succ, List.getElem?_cons_zero]; rfl)
                  case hs6t => kernel_rfl
                  case hf6t => kernel_rfl
                  case hr6t => kernel_rfl
                  case hQ6t => exact fun _ _ _ h => h
                  case hy6t =>
                    refine Or.inl ⟨rfl, ?_⟩
                    intro W hSw
                    obtain ⟨y0, y1, y2, y3, y4, y5, y6, y7, y8, y9, y10⟩ := hSw
                    have q1 := HIX.out.1
                    have q2 := HIX.out.2.1
                    have q3 := HPN.out
                    go_simp
                    try with_reducible rfl
                  case hS6t => assumption
                  try simp only [Act.put, List.setIfInBounds_toArray, List.set_cons_zero, List.set_cons_succ]
                  refine wpAnyH_take (i := 7) (oi := ?oi7t) (v := ?v7t) ?hi7t ?hs7t ?hf7t ?hr7t ?hQ7t ?hy7t ?hS7t ?h7t
                  case hi7t => exact (by simp only [List.getElem?_toArray, List.getElem?_cons_succ, List.getElem?_cons_zero]; rfl)
                  case hs7t => kernel_rfl
                  case hf7t => kernel_rfl
                  case hr7t => kernel_rfl
                  case hQ7t => exact fun _ _ _ h => h
                  case hy7t =>
                    refine Or.inl ⟨rfl, ?_⟩
                    intro W hSw
                    obtain ⟨y0, y1, y2, y3, y4, y5, y6, y7, y8, y9, y10⟩ := hSw
                    have q1 := HIX.out.1
                    have q2 := HIX.out.2.1
                    have q3 := HPN.out
                    go_simp
                    try with_reducible rfl
                  case hS7t => assumption
                  try simp only [Act.put, List.setIfInBounds_toArray, List.set_cons_zero, List.set_cons_succ]
                  refine wpAnyH_take (i := 8) (oi := ?oi8t) (v := (.bool false)) ?hi8t ?hs8t ?hf8t ?hr8t ?hQ8t ?hy8t ?hS8t ?h8t
                  case hi8t => exact (by simp only [List.getElem?_toArray, List.getElem?_cons_succ, List.getElem?_cons_zero]; rfl)
                  case hs8t => kernel_rfl
                  case hf8t => kernel_rfl
                  case hr8t => kernel_rfl
                  case hQ8t => exact fun _ _ _ h => h
                  case hy8t =>
                    refine Or.inl ⟨rfl, ?_⟩
                    intro W hSw
                    obtain ⟨y0, y1, y2, y3, y4, y5, y6, y7, y8, y9, y10⟩ := hSw
                    have q1 := HIX.out.1
                    have q2 := HIX.out.2.1
                    have q3 := HPN.out
                    go_simp
                    all_goals first | with_reducible rfl | (simp; done) | (simp; omega) | omega
                  case hS8t => assumption
                  try simp only [Act.put, List.setIfInBounds_toArray, List.set_cons_zero, List.set_cons_succ]
                  refine wpAnyH_take (i := 9) (oi := ?oi9t) (v := ?v9t) ?hi9t ?hs9t ?hf9t ?hr9t ?hQ9t ?hy9t ?hS9t ?h9t
                  case hi9t => exact (by simp only [List.getElem?_toArray, List.getElem?_cons_succ, List.getElem?_cons_zero]; rfl)
                  case hs9t => kernel_rfl
                  case hf9t => kernel_rfl
                  case hr9t => kernel_rfl
                  case hQ9t => exact fun _ _ _ h => h
                  case hy9t =>
                    refine Or.inl ⟨rfl, ?_⟩
                    intro W hSw
                    obtain ⟨y0, y1, y2, y3, y4, y5, y6, y7, y8, y9, y10⟩ := hSw
                    have q1 := HIX.out.1
                    have q2 := HIX.out.2.1
                    have q3 := HPN.out
                    go_simp
                    try with_reducible rfl
                  case hS9t => assumption
                  try simp only [Act.put, List.setIfInBounds_toArray, List.set_cons_zero, List.set_cons_succ]
                  refine wpAnyH_take (i := 10) (oi := ?oi10t) (v := ?v10t) ?hi10t ?hs10t ?hf10t ?hr10t ?hQ10t ?hy10t ?hS10t ?h10t
                  case hi10t => exact (by simp only [List.getElem?_toArray, List.getElem?_cons_succ, List.getElem?_cons_zero]; rfl)
                  case hs10t => kernel_rfl
                  case hf10t => kernel_rfl
                  case hr10t => kernel_rfl
                  case hQ10t => exact fun _ _ _ h => h
                  case hy10t =>
                    refine Or.inl ⟨rfl, ?_⟩
                    intro W hSw
                    obtain ⟨y0, y1, y2, y3, y4, y5, y6, y7, y8, y9, y10⟩ := hSw
                    have q1 := HIX.out.1
                    have q2 := HIX.out.2.1
                    have q3 := HPN.out
                    go_simp
                    try with_reducible rfl
                  case hS10t => assumption
                  try simp only [Act.put, List.setIfInBounds_toArray, List.set_cons_zero, List.set_cons_succ]
                  refine wpAnyH_take (i := 11) (oi := ?oi11t) (v := ?v11t) ?hi11t ?hs11t ?hf11t ?hr11t ?hQ11t ?hy11t ?hS11t ?h11t
                  case hi11t => exact (by simp only [List.getElem?_toArray, List.getElem?_cons_succ, List.getElem?_cons_zero]; rfl)
                  case hs11t => kernel_rfl
                  case hf11t => kernel_rfl
                  case hr11t => kernel_rfl
                  case hQ11t => exact fun _ _ _ h => h
                  case hy11t =>
                    refine Or.inl ⟨rfl, ?_⟩
                    intro W hSw
                    obtain ⟨y0, y1, y2, y3, y4, y5, y6, y7, y8, y9, y10⟩ := hSw
                    have q1 := HIX.out.1
                    have q2 := HIX.out.2.1
                    have q3 := HPN.out
                    go_simp
                    try with_reducible rfl
                  case hS11t => assumption
                  try simp only [Act.put, List.setIfInBounds_toArray, List.set_cons_zero, List.set_cons_succ]
                  refine wpAnyH_take (i := 12) (oi := ?oi12t) (v := ?v12t) ?hi12t ?hs12t ?hf12t ?hr12t ?hQ12t ?hy12t ?hS12t ?h12t
                  case hi12t => exact (by simp only [List.getElem?_toArray, List.getElem?_cons_succ, List.getElem?_cons_zero]; rfl)
                  case hs12t => kernel_rfl
                  case hf12t => kernel_rfl
                  case hr12t => kernel_rfl
                  case hQ12t => exact fun _ _ _ h => h
                  case hy12t =>
                    refine Or.inl ⟨rfl, ?_⟩
                    intro W hSw
                    obtain ⟨y0, y1, y2, y3, y4, y5, y6, y7, y8, y9, y10⟩ := hSw
                    have q1 := HIX.out.1
                    have q2 := HIX.out.2.1
                    have q3 := HPN.out
                    go_simp
                    try with_reducible rfl
                  case hS12t => assumption
                  try simp only [Act.put, List.setIfInBounds_toArray, List.set_cons_zero, List.set_cons_succ]
                  refine wpAnyH_take (i := 14) (oi := ?oi14t) (v := ?v14t) ?hi14t ?hs14t ?hf14t ?hr14t ?hQ14t ?hy14t ?hS14t ?h14t
                  case hi14t => exact (by simp only [List.getElem?_toArray, List.getElem?_cons_succ, List.getElem?_cons_zero]; rfl)
                  case hs14t => kernel_rfl
                  case hf14t => kernel_rfl
                  case hr14t => kernel_rfl
                  case hQ14t => exact fun _ _ _ h => h
                  case hy14t =>
                    refine Or.inl ⟨rfl, ?_⟩
                    intro W hSw
                    obtain ⟨y0, y1, y2, y3, y4, y5, y6, y7, y8, y9, y10⟩ := hSw
                    have q1 := HIX.out.1
                    have q2 := HIX.out.2.1
                    have q3 := HPN.out
                    go_simp
                    try with_reducible rfl
                  case hS14t => assumption
                  try simp only [Act.put, List.setIfInBounds_toArray, List.set_cons_zero, List.set_cons_succ]
                  refine wpAnyH_take (i := 15) (oi := ?oi15t) (v := ?v15t) ?hi15t ?hs15t ?hf15t ?hr15t ?hQ15t ?hy15t ?hS15t ?h15t
                  case hi15t => exact (by simp only [List.getElem?_toArray, List.getElem?_cons_succ, List.getElem?_cons_zero]; rfl)
                  case hs15t => kernel_rfl
                  case hf15t => kernel_rfl
                  case hr15t => kernel_rfl
                  case hQ15t => exact fun _ _ _ h => h
                  case hy15t =>
                    refine Or.inl ⟨rfl, ?_⟩
                    intro W hSw
                    obtain ⟨y0, y1, y2, y3, y4, y5, y6, y7, y8, y9, y10⟩ := hSw
                    have q1 := HIX.out.1
                    have q2 := HIX.out.2.1
                    have q3 := HPN.out
                    go_simp
                    try with_reducible rfl
                  case hS15t => assumption
                  try simp only [Act.put, List.setIfInBounds_toArray, List.set_cons_zero, List.set_cons_succ]
                  refine wpAnyH_take (i := 16) (oi := ?oi16t) (v := ?v16t) ?hi16t ?hs16t ?hf16t ?hr16t ?hQ16t ?hy16t ?hS16t ?h16t
                  case hi16t => exact (by simp only [List.getElem?_toArray, List.getElem?_cons_succ, List.getElem?_cons_zero]; rfl)
                  case hs16t => kernel_rfl
                  case hf16t => kernel_rfl
                  case hr16t => kernel_rfl
                  case hQ16t => exact fun _ _ _ h => h
                  case hy16t =>
                    refine Or.inl ⟨rfl, ?_⟩
                    intro W hSw
                    obtain ⟨y0, y1, y2, y3, y4, y5, y6, y7, y8, y9, y10⟩ := hSw
                    have q1 := HIX.out.1
                    have q2 := HIX.out.2.1
                    have q3 := HPN.out
                    go_simp
                    try with_reducible rfl
                  case hS16t => assumption
                  try simp only [Act.put, List.setIfInBounds_toArray, List.set_cons_zero, List.set_cons_succ]
                  refine wpAnyH_take (i := 19) (oi := ?oi19t) (v := ?v19t) ?hi19t ?hs19t ?hf19t ?hr19t ?hQ19t ?hy19t ?hS19t ?h19t
                  case hi19t => exact (by simp only [List.getElem?_toArray, List.getElem?_cons_succ, List.getElem?_cons_zero]; rfl)
                  case hs19t => kernel_rfl
                  case hf19t => kernel_rfl
                  case hr19t => kernel_rfl
                  case hQ19t => exact fun _ _ _ h => h
                  case hy19t =>
                    refine Or.inl ⟨rfl, ?_⟩
                    intro W hSw
                    obtain ⟨y0, y1, y2, y3, y4, y5, y6, y7, y8, y9, y10⟩ := hSw
                    have q1 := HIX.out.1
                    have q2 := HIX.out.2.1
                    have q3 := HPN.out
                    go_simp
                    try with_reducible rfl
                  case hS19t => assumption
                  try simp only [Act.put, List.setIfInBounds_toArray, List.set_cons_zero, List.set_cons_succ]
                  refine wpAnyH_take (i := 20) (oi := ?oi20t) (v := ?v20t) ?hi20t ?hs20t ?hf20t ?hr20t ?hQ20t ?hy20t ?hS20t ?h20t
                  case hi20t => exact (by simp only [List.getElem?_toArray, List.getElem?_cons_succ, List.getElem?_cons_zero]; rfl)
                  case hs20t => kernel_rfl
                  case hf20t => kernel_rfl
                  case hr20t => kernel_rfl
                  case hQ20t => exact fun _ _ _ h => h
                  case hy20t =>
                    refine Or.inl ⟨rfl, ?_⟩
                    intro W hSw
                    obtain ⟨y0, y1, y2, y3, y4, y5, y6, y7, y8, y9, y10⟩ := hSw
                    have q1 := HIX.out.1
                    have q2 := HIX.out.2.1
                    have q3 := HPN.out
                    go_simp
                    try with_reducible rfl
                  case hS20t => assumption
                  try simp only [Act.put, List.setIfInBounds_toArray, List.set_cons_zero, List.set_cons_succ]
                  refine wpAnyH_take (i := 21) (oi := ?oi21t) (v := ?v21t) ?hi21t ?hs21t ?hf21t ?hr21t ?hQ21t ?hy21t ?hS21t ?h21t
                  case hi21t => exact (by simp only [List.getElem?_toArray, List.getElem?_cons_succ, List.getElem?_cons_zero]; rfl)
                  case hs21t => kernel_rfl
                  case hf21t => kernel_rfl
                  case hr21t => kernel_rfl
                  case hQ21t => exact fun _ _ _ h => h
                  case hy21t =>
                    refine Or.inl ⟨rfl, ?_⟩
                    intro W hSw
                    obtain ⟨y0, y1, y2, y3, y4, y5, y6, y7, y8, y9, y10⟩ := hSw
                    have q1 := HIX.out.1
                    have q2 := HIX.out.2.1
                    have q3 := HPN.out
                    go_simp
                    try with_reducible rfl
                  case hS21t => assumption
                  try simp only [Act.put, List.setIfInBounds_toArray, List.set_cons_zero, List.set_cons_succ]
                  refine wpAnyH_take (i := 23) (oi := ?oi23t) (v := ?v23t) ?hi23t ?hs23t ?hf23t ?hr23t ?hQ23t ?hy23t ?hS23t ?h23t
                  case hi23t => exact (by simp only [List.getElem?_toArray, List.getElem?_cons_succ, List.getElem?_cons_zero]; rfl)
                  case hs23t => kernel_rfl
                  case hf23t => kernel_rfl
                  case hr23t => kernel_rfl
                  case hQ23t => exact fun _ _ _ h => h
                  case hy23t =>
                    refine Or.inl ⟨rfl, ?_⟩
                    intro W hSw
                    obtain ⟨y0, y1, y2, y3, y4, y5, y6, y7, y8, y9, y10⟩ := hSw
                    have q1 := HIX.out.1
                    have q2 := HIX.out.2.1
                    have q3 := HPN.out
                    go_simp
                    try with_reducible rfl
                  case hS23t => assumption
                  try simp only [Act.put, List.setIfInBounds_toArray, List.set_cons_zero, List.set_cons_succ]
                  refine wpAnyH_take (i := 24) (oi := ?oi24t) (v := ?v24t) ?hi24t ?hs24t ?hf24t ?hr24t ?hQ24t ?hy24t ?hS24t ?h24t
                  case hi24t => exact (by simp only [List.getElem?_toArray, List.getElem?_cons_succ, List.getElem?_cons_zero]; rfl)
                  case hs24t => kernel_rfl
                  case hf24t => kernel_rfl
                  case hr24t => kernel_rfl
                  case hQ24t => exact fun _ _ _ h => h
                  case hy24t =>
                    refine Or.inl ⟨rfl, ?_⟩
                    intro W hSw
                    obtain ⟨y0, y1, y2, y3, y4, y5, y6, y7, y8, y9, y10⟩ := hSw
                    have q1 := HIX.out.1
                    have q2 := HIX.out.2.1
                    have q3 := HPN.out
                    go_simp
                    try with_reducible rfl
                  case hS24t => assumption
                  try simp only [Act.put, List.setIfInBounds_toArray, List.set_cons_zero, List.set_cons_succ]
                  refine wpAnyH_take (i := 25) (oi := ?oi25t) (v := ?v25t) ?hi25t ?hs25t ?hf25t ?hr25t ?hQ25t ?hy25t ?hS25t ?h25t
                  case hi25t => exact (by simp only [List.getElem?_toArray, List.getElem?_cons_succ, List.getElem?_cons_zero]; rfl)
                  case hs25t => kernel_rfl
                  case hf25t => kernel_rfl
                  case hr25t => kernel_rfl
                  case hQ25t => exact fun _ _ _ h => h
                  case hy25t =>
                    refine Or.inl ⟨rfl, ?_⟩
                    intro W hSw
                    obtain ⟨y0, y1, y2, y3, y4, y5, y6, y7, y8, y9, y10⟩ := hSw
                    have q1 := HIX.out.1
                    have q2 := HIX.out.2.1
                    have q3 := HPN.out
                    go_simp
                    try with_reducible rfl
                  case hS25t => assumption
                  try simp only [Act.put, List.setIfInBounds_toArray, List.set_cons_zero, List.set_cons_succ]
                  refine wpAnyH_ready (rs := [13]) (by kernel_rfl) (by simp) ?_
                  refine AllReadyH.cons (o := _) rfl (fun K hK => ?_) AllReadyH.nil
                  go_simp
                  refine (HMO.out Wt0).mono ?_
                  rintro r Wt1 ⟨rfl, hbq⟩
                  have HDt1 : Hid (Below wc.heap.size wc Wt1) := HDt.out.trans (hbq.mono HDt.out.size)
                  clear hbq
                  refine hK.out _ _ (HC19.out _ HDt1.out) (fun hHeld => ?_)
                  clear hK K
                  try simp only [Act.put, List.setIfInBounds_toArray, List.set_cons_zero, List.set_cons_succ]
                  refine wpAnyH_ready (rs := [17]) (by kernel_rfl) (by simp) ?_
                  refine AllReadyH.cons (o := _) rfl (fun K hK => ?_) AllReadyH.nil
                  go_simp
                  refine (HWU.out Wt1).mono ?_
                  rintro r Wt2 ⟨rfl, hbq⟩
                  have HDt2 : Hid (Below wc.heap.size wc Wt2) := HDt1.out.trans (hbq.mono HDt1.out.size)
                  clear hbq
                  refine hK.out _ _ (HC19.out _ HDt2.out) (fun hHeld => ?_)
                  clear hK K
                  try simp only [Act.put, List.setIfInBounds_toArray, List.set_cons_zero, List.set_cons_succ]
                  refine wpAnyH_ready (rs := [18]) (by kernel_rfl) (by simp) ?_
                  refine AllReadyH.cons (o := _) rfl (fun K hK => ?_) AllReadyH.nil
                  go_simp
                  refine (HNU.out Wt2).mono ?_
                  rintro r Wt3 ⟨rfl, hbq⟩
                  have HDt3 : Hid (Below wc.heap.size wc Wt3) := HDt2.out.trans (hbq.mono HDt2.out.size)
                  clear hbq
                  refine hK.out _ _ (HC19.out _ HDt3.out) (fun hHeld => ?_)
                  clear hK K
                  try simp only [Act.put, List.setIfInBounds_toArray, List.set_cons_zero, List.set_cons_succ]
                  refine wpAnyH_ready (rs := [22]) (by kernel_rfl) (by simp) ?_
                  refine AllReadyH.cons (o := _) rfl (fun K hK => ?_) AllReadyH.nil
                  go_simp
                  refine (HMO.out Wt3).mono ?_
                  rintro r Wt4 ⟨rfl, hbq⟩
                  have HDt4 : Hid (Below wc.heap.size wc Wt4) := HDt3.out.trans (hbq.mono HDt3.out.size)
                  clear hbq
                  refine hK.out _ _ (HC19.out _ HDt4.out) (fun hHeld => ?_)
                  clear hK K
                  try simp only [Act.put, List.setIfInBounds_toArray, List.set_cons_zero, List.set_cons_succ]
                  refine wpAnyH_ready (rs := [26]) (by kernel_rfl) (by simp) ?_
                  refine AllReadyH.cons (o := _) rfl (fun K hK => ?_) AllReadyH.nil
                  go_simp
                  refine (HWV.out Wt4).mono ?_
                  rintro r Wt5 ⟨rfl, hbq⟩
                  have HDt5 : Hid (Below wc.heap.size wc Wt5) := HDt4.out.trans (hbq.mono HDt4.out.size)
                  clear hbq
                  refine hK.out _ _ (HC19.out _ HDt5.out) (fun hHeld => ?_)
                  clear hK K
                  try simp only [Act.put, List.setIfInBounds_toArray, List.set_cons_zero, List.set_cons_succ]
                  refine wpAnyH_ready (rs := [27]) (by kernel_rfl) (by simp) ?_
                  refine AllReadyH.cons (o := _) rfl (fun K hK => ?_) AllReadyH.nil
                  go_simp
                  refine (HNV.out Wt5).mono ?_
                  rintro r Wt6 ⟨rfl, hbq⟩
                  have HDt6 : Hid (Below wc.heap.size wc Wt6) := HDt5.out.trans (hbq.mono HDt5.out.size)
                  clear hbq
                  refine hK.out _ _ (HC19.out _ HDt6.out) (fun hHeld => ?_)
                  clear hK K
                  try simp only [Act.put, List.setIfInBounds_toArray, List.set_cons_zero, List.set_cons_succ]
                  refine wpAnyH_ready (rs := [28]) (by kernel_rfl) (by simp) ?_
                  refine AllReadyH.cons (o := _) rfl (fun K hK => ?_) AllReadyH.nil
                  go_simp
                  refine (HNE9.out Wt6).mono ?_
                  rintro r Wt7 ⟨rfl, hbq⟩
                  have HDt7 : Hid (Below wc.heap.size wc Wt7) := HDt6.out.trans (hbq.mono HDt6.out.size)
                  clear hbq
                  refine hK.out _ _ (HC19.out _ HDt7.out) (fun hHeld => ?_)
                  clear hK K
                  try simp only [Act.put, List.setIfInBounds_toArray, List.set_cons_zero, List.set_cons_succ]
                  refine wpAnyH_take (i := 29) (oi := ?oi29t) (v := (.bool false)) ?hi29t ?hs29t ?hf29t ?hr29t ?hQ29t ?hy29t ?hS29t ?h29t
                  case hi29t => exact (by simp only [List.getElem?_toArray, List.getElem?_cons_succ, List.getElem?_cons_zero]; rfl)
                  case hs29t => kernel_rfl
                  case hf29t => kernel_rfl
                  case hr29t => kernel_rfl
                  case hQ29t => exact fun _ _ _ h => h
                  case hy29t =>
                    refine Or.inl ⟨rfl, ?_⟩
                    intro W hSw
                    obtain ⟨y0, y1, y2, y3, y4, y5, y6, y7, y8, y9, y10⟩ := hSw
                    have q1 := HIX.out.1
                    have q2 := HIX.out.2.1
                    have q3 := HPN.out
                    go_simp
                    try with_reducible rfl
                  case hS29t => assumption
                  try simp only [Act.put, List.setIfInBounds_toArray, List.set_cons_zero, List.set_cons_succ]
                  refine wpAnyH_take (i := 30) (oi := ?oi30t) (v := (.bool false)) ?hi30t ?hs30t ?hf30t ?hr30t ?hQ30t ?hy30t ?hS30t ?h30t
                  case hi30t => exact (by simp only [List.getElem?_toArray, List.getElem?_cons_succ, List.getElem?_cons_zero]; rfl)
                  case hs30t => kernel_rfl
                  case hf30t => kernel_rfl
                  case hr30t => kernel_rfl
                  case hQ30t => exact fun _ _ _ h => h
                  case hy30t =>
                    refine Or.inl ⟨rfl, ?_⟩
                    intro W hSw
                    obtain ⟨y0, y1, y2, y3, y4, y5, y6, y7, y8, y9, y10⟩ := hSw
                    have q1 := HIX.out.1
                    have q2 := HIX.out.2.1
                    have q3 := HPN.out
                    go_simp
                    try with_reducible rfl
                  case hS30t => assumption
                  try simp only [Act.put, List.setIfInBounds_toArray, List.set_cons_zero, List.set_cons_succ]
                  refine wpAnyH_done (by kernel_rfl) ?_ _
                  go_wp2
                  go_roundw
                  case rel => exact ⟨k + 1, by omega, by go_num, HK2.out.trans ((HC.out.2.2.trans (HDt7.out.mono HC.out.2.2.size)).mono HK2.out.size)⟩
                  case measure => simp [intOf] <;> omega
              · have hik : k = i := by omega
                subst hik
                go_wp2_with fail
                go_roundw
                case rel => exact ⟨k + 1, by omega, by go_num, HK2.out⟩
                case measure => simp [intOf] <;> omega
          · have hkn : i = N := by omega
            subst hkn
            obtain ⟨e, a', f, b', hea, heb, hef⟩ := HL.out.first
            have HEF : Hid (e.p < f.p) := hef
            obtain ⟨ba, oa, rfl, hba, hca⟩ := HZA.out (by have := HNA.out; omega)
            obtain ⟨bb, ob, rfl, hbb, hcb⟩ := HZB.out (by have := HNB.out; omega)
            have d1 := hca 0 e.p (by rw [HPP.out.1, hea]; rfl)
            have d2 := hcb 0 f.p (by rw [HPP.out.2, heb]; rfl)
            simp only [Nat.add_zero] at d1 d2
            have HBWF : Hid (∀ W, Below wr.heap.size wr W → Below wf.heap.size wf W) := fun W hW => HD3.out.trans ((HI.out.trans (hW.mono HI.out.size)).mono HD3.out.size)
            have HC21 : Hid (∀ W, Below wr.heap.size wr W → W.cell? ⟨Q, 0, none⟩ = some (.slice (some ⟨ba, oa, none⟩) n1 c1) ∧ W.cell? ⟨Q, 1, none⟩ = some (.slice (some ⟨bb, ob, none⟩) n2 c2) ∧ W.cell? ⟨ba, oa, none⟩ = some (.int .i64 e.p) ∧ W.cell? ⟨bb, ob, none⟩ = some (.int .i64 f.p)) := fun W hW => by
              have hbw := HBWF.out W hW
              obtain ⟨y0, y1⟩ := HCQ.out W hbw
              exact ⟨y0, y1, (hbw.cell (p := ⟨ba, oa, none⟩) hba).trans d1, (hbw.cell (p := ⟨bb, ob, none⟩) hbb).trans d2⟩
            clear hea heb hef hba hca hbb hcb d1 d2
            go_upto_region 21 with (fail)
            have HDv : Hid (Below wr.heap.size wr wr.drew) := (Below.refl wr.heap.size wr).drew
            refine wp_region_held_drew (S := fun W : World => W.cell? ⟨Q, 0, none⟩ = some (.slice (some ⟨ba, oa, none⟩) n1 c1) ∧ W.cell? ⟨Q, 1, none⟩ = some (.slice (some ⟨bb, ob, none⟩) n2 c2) ∧ W.cell? ⟨ba, oa, none⟩ = some (.int .i64 e.p) ∧ W.cell? ⟨bb, ob, none⟩ = some (.int .i64 f.p)) (by kernel_rfl) (HC21.out _ HDv.out) (fun hHeld => ?_)
            obtain ⟨Wv0, hW0⟩ : ∃ W0, W0 = wr.drew := ⟨_, rfl⟩
            rw [← hW0] at hHeld HDv ⊢
            clear hW0
            refine wpAnyH_take (i := 0) (oi := ?oi0v) (v := ?v0v) ?hi0v ?hs0v ?hf0v ?hr0v ?hQ0v ?hy0v ?hS0v ?h0v
            case hi0v => exact (by simp only [List.getElem?_toArray, List.getElem?_cons_zero]; rfl)
            case hs0v => kernel_rfl
            case hf0v => kernel_rfl
            case hr0v => kernel_rfl
            case hQ0v => exact fun _ _ _ h => h
            case hy0v =>
              refine Or.inl ⟨rfl, ?_⟩
              intro W hSw
              obtain ⟨y0, y1, y2, y3⟩ := hSw
              have q1 := HPOS.out.1
              have q2 := HPOS.out.2
              go_simp
              try with_reducible rfl
            case hS0v => assumption
            try simp only [Act.put, List.setIfInBounds_toArray, List.set_cons_zero, List.set_cons_succ]
            refine wpAnyH_take (i := 1) (oi := ?oi1v) (v := ?v1v) ?hi1v ?hs1v ?hf1v ?hr1v ?hQ1v ?hy1v ?hS1v ?h1v
            case hi1v => exact (by simp only [List.getElem?_toArray, List.getElem?_cons_succ, List.getElem?_cons_zero]; rfl)
            case hs1v => kernel_rfl
            case hf1v => kernel_rfl
            case hr1v => kernel_rfl
            case hQ1v => exact fun _ _ _ h => h
            case hy1v =>
              refine Or.inl ⟨rfl, ?_⟩
              intro W hSw
              obtain ⟨y0, y1, y2, y3⟩ := hSw
              have q1 := HPOS.out.1
              have q2 := HPOS.out.2
              go_simp
              try with_reducible rfl
            case hS1v => assumption
            try simp only [Act.put, List.setIfInBounds_toArray, List.set_cons_zero, List.set_cons_succ]
            refine wpAnyH_take (i := 2) (oi := ?oi2v) (v := ?v2v) ?hi2v ?hs2v ?hf2v ?hr2v ?hQ2v ?hy2v ?hS2v ?h2v
            case hi2v => exact (by simp only [List.getElem?_toArray, List.getElem?_cons_succ, List.getElem?_cons_zero]; rfl)
            case hs2v => kernel_rfl
            case hf2v => kernel_rfl
            case hr2v => kernel_rfl
            case hQ2v => exact fun _ _ _ h => h
            case hy2v =>
              refine Or.inl ⟨rfl, ?_⟩
              intro W hSw
              obtain ⟨y0, y1, y2, y3⟩ := hSw
              have q1 := HPOS.out.1
              have q2 := HPOS.out.2
              go_simp
              try with_reducible rfl
            case hS2v => assumption
            try simp only [Act.put, List.setIfInBounds_toArray, List.set_cons_zero, List.set_cons_succ]
            refine wpAnyH_take (i := 3) (oi := ?oi3v) (v := ?v3v) ?hi3v ?hs3v ?hf3v ?hr3v ?hQ3v ?hy3v ?hS3v ?h3v
            case hi3v => exact (by simp only [List.getElem?_toArray, List.getElem?_cons_succ, List.getElem?_cons_zero]; rfl)
            case hs3v => kernel_rfl
            case hf3v => kernel_rfl
            case hr3v => kernel_rfl
            case hQ3v => exact fun _ _ _ h => h
            case hy3v =>
              refine Or.inl ⟨rfl, ?_⟩
              intro W hSw
              obtain ⟨y0, y1, y2, y3⟩ := hSw
              have q1 := HPOS.out.1
              have q2 := HPOS.out.2
              go_simp
              try with_reducible rfl
            case hS3v => assumption
            try simp only [Act.put, List.setIfInBounds_toArray, List.set_cons_zero, List.set_cons_succ]
            refine wpAnyH_take (i := 4) (oi := ?oi4v) (v := ?v4v) ?hi4v ?hs4v ?hf4v ?hr4v ?hQ4v ?hy4v ?hS4v ?h4v
            case hi4v => exact (by simp only [List.getElem?_toArray, List.getElem?_cons_succ, List.getElem?_cons_zero]; rfl)
            case hs4v => kernel_rfl
            case hf4v => kernel_rfl
            case hr4v => kernel_rfl
            case hQ4v => exact fun _ _ _ h => h
            case hy4v =>
              refine Or.inl ⟨rfl, ?_⟩
              intro W hSw
              obtain ⟨y0, y1, y2, y3⟩ := hSw
              have q1 := HPOS.out.1
              have q2 := HPOS.out.2
              go_simp
              try with_reducible rfl
            case hS4v => assumption
            try simp only [Act.put, List.setIfInBounds_toArray, List.set_cons_zero, List.set_cons_succ]
            refine wpAnyH_take (i := 5) (oi := ?oi5v) (v := ?v5v) ?hi5v ?hs5v ?hf5v ?hr5v ?hQ5v ?hy5v ?hS5v ?h5v
            case hi5v => exact (by simp only [List.getElem?_toArray, List.getElem?_cons_succ, List.getElem?_cons_zero]; rfl)
            case hs5v => kernel_rfl
            case hf5v => kernel_rfl
            case hr5v => kernel_rfl
            case hQ5v => exact fun _ _ _ h => h
            case hy5v =>
              refine Or.inl ⟨rfl, ?_⟩
              intro W hSw
              obtain ⟨y0, y1, y2, y3⟩ := hSw
              have q1 := HPOS.out.1
              have q2 := HPOS.out.2
              go_simp
              try with_reducible rfl
            case hS5v => assumption
            try simp only [Act.put, List.setIfInBounds_toArray, List.set_cons_zero, List.set_cons_succ]
            refine wpAnyH_take (i := 6) (oi := ?oi6v) (v := ?v6v) ?hi6v ?hs6v ?hf6v ?hr6v ?hQ6v ?hy6v ?hS6v ?h6v
            case hi6v => exact (by simp only [List.getElem?_toArray, List.getElem?_cons_succ, List.getElem?_cons_zero]; rfl)
            case hs6v => kernel_rfl
            case hf6v => kernel_rfl
            case hr6v => kernel_rfl
            case hQ6v => exact fun _ _ _ h => h
            case hy6v =>
              refine Or.inl ⟨rfl, ?_⟩
              intro W hSw
              obtain ⟨y0, y1, y2, y3⟩ := hSw
              have q1 := HPOS.out.1
              have q2 := HPOS.out.2
              go_simp
              try with_reducible rfl
            case hS6v => assumption
            try simp only [Act.put, List.setIfInBounds_toArray, List.set_cons_zero, List.set_cons_succ]
            refine wpAnyH_take (i := 7) (oi := ?oi7v) (v := ?v7v) ?hi7v ?hs7v ?hf7v ?hr7v ?hQ7v ?hy7v ?hS7v ?h7v
            case hi7v => exact (by simp only [List.getElem?_toArray, List.getElem?_cons_succ, List.getElem?_cons_zero]; rfl)
            case hs7v => kernel_rfl
            case hf7v => kernel_rfl
            case hr7v => kernel_rfl
            case hQ7v => exact fun _ _ _ h => h
            case hy7v =>
              refine Or.inl ⟨rfl, ?_⟩
              intro W hSw
              obtain ⟨y0, y1, y2, y3⟩ := hSw
              have q1 := HPOS.out.1
              have q2 := HPOS.out.2
              go_simp
              try with_reducible rfl
            case hS7v => assumption
            try simp only [Act.put, List.setIfInBounds_toArray, List.set_cons_zero, List.set_cons_succ]
            refine wpAnyH_take (i := 8) (oi := ?oi8v) (v := (.bool true)) ?hi8v ?hs8v ?hf8v ?hr8v ?hQ8v ?hy8v ?hS8v ?h8v
            case hi8v => exact (by simp only [List.getElem?_toArray, List.getElem?_cons_succ, List.getElem?_cons_zero]; rfl)
            case hs8v => kernel_rfl
            case hf8v => kernel_rfl
            case hr8v => kernel_rfl
            case hQ8v => exact fun _ _ _ h => h
            case hy8v =>
              refine Or.inl ⟨rfl, ?_⟩
              intro W hSw
              obtain ⟨y0, y1, y2, y3⟩ := hSw
              have q1 := HPOS.out.1
              have q2 := HPOS.out.2
              have q3 := HEF.out
              go_simp
              all_goals first | with_reducible rfl | (simp; done) | (simp; omega) | omega
            case hS8v => assumption
            try simp only [Act.put, List.setIfInBounds_toArray, List.set_cons_zero, List.set_cons_succ]
            refine wpAnyH_take (i := 9) (oi := ?oi9v) (v := ?v9v) ?hi9v ?hs9v ?hf9v ?hr9v ?hQ9v ?hy9v ?hS9v ?h9v
            case hi9v => exact (by simp only [List.getElem?_toArray, List.getElem?_cons_succ, List.getElem?_cons_zero]; rfl)
            case hs9v => kernel_rfl
            case hf9v => kernel_rfl
            case hr9v => kernel_rfl
            case hQ9v => exact fun _ _ _ h => h
            case hy9v =>
              refine Or.inl ⟨rfl, ?_⟩
              intro W hSw
              obtain ⟨y0, y1, y2, y3⟩ := hSw
              have q1 := HPOS.out.1
              have q2 := HPOS.out.2
              go_simp
              try with_reducible rfl
            case hS9v => assumption
            try simp only [Act.put, List.setIfInBounds_toArray, List.set_cons_zero, List.set_cons_succ]
            refine wpAnyH_ready (rs := [10]) (by kernel_rfl) (by simp) ?_
            refine AllReadyH.cons (o := _) rfl (fun K hK => ?_) AllReadyH.nil
            go_simp
            refine (HAW.out Wv0).mono ?_
            rintro r Wv1 ⟨rfl, hbq⟩
            have HDv1 : Hid (Below wr.heap.size wr Wv1) := HDv.out.trans (hbq.mono HDv.out.size)
            clear hbq
            refine hK.out _ _ (HC21.out _ HDv1.out) (fun hHeld => ?_)
            clear hK K
            try simp only [Act.put, List.setIfInBounds_toArray, List.set_cons_zero, List.set_cons_succ]
            refine wpAnyH_take (i := 11) (oi := ?oi11v) (v := (.bool true)) ?hi11v ?hs11v ?hf11v ?hr11v ?hQ11v ?hy11v ?hS11v ?h11v
            case hi11v => exact (by simp only [List.getElem?_toArray, List.getElem?_cons_succ, List.getElem?_cons_zero]; rfl)
            case hs11v => kernel_rfl
            case hf11v => kernel_rfl
            case hr11v => kernel_rfl
            case hQ11v => exact fun _ _ _ h => h
            case hy11v =>
              refine Or.inl ⟨rfl, ?_⟩
              intro W hSw
              obtain ⟨y0, y1, y2, y3⟩ := hSw
              have q1 := HPOS.out.1
              have q2 := HPOS.out.2
              go_simp
              try with_reducible rfl
            case hS11v => assumption
            try simp only [Act.put, List.setIfInBounds_toArray, List.set_cons_zero, List.set_cons_succ]
            refine wpAnyH_take (i := 12) (oi := ?oi12v) (v := ?v12v) ?hi12v ?hs12v ?hf12v ?hr12v ?hQ12v ?hy12v ?hS12v ?h12v
            case hi12v => exact (by simp only [List.getElem?_toArray, List.getElem?_cons_succ, List.getElem?_cons_zero]; rfl)
            case hs12v => kernel_rfl
            case hf12v => kernel_rfl
            case hr12v => kernel_rfl
            case hQ12v => exact fun _ _ _ h => h
            case hy12v =>
              refine Or.inl ⟨rfl, ?_⟩
              intro W hSw
              obtain ⟨y0, y1, y2, y3⟩ := hSw
              have q1 := HPOS.out.1
              have q2 := HPOS.out.2
              go_simp
              try with_reducible rfl
            case hS12v => assumption
            try simp only [Act.put, List.setIfInBounds_toArray, List.set_cons_zero, List.set_cons_succ]
            refine wpAnyH_done (by kernel_rfl) ?_ _
            try go_wp2
            go_ret
            exact ⟨rfl, HRW.out _ (HB2R.out.trans ((HI.out.trans (HDv1.out.mono HI.out.size)).mono HB2R.out.size))⟩
end Go.Proofs.Ytnloikdfbdpilaa
