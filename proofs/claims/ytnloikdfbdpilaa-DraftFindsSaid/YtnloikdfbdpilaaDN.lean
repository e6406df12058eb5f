/- Draft: DraftNone's walk. -/
import Derived.Test.YtnloikdfbdpilaaDM
import Derived.Test.YtnloikdfbdpilaaDI
namespace Go.Proofs.Ytnloikdfbdpilaa
open Go.RowKit
set_option maxRecDepth 20000
set_option linter.unusedVariables false

theorem mo_any (m : Mo) (w : World) : Calls Try.prog 13 #[m.v] w fun r w' => r = .returned m.v ∧ Below w.heap.size w w' := mode_any m.k m.b m.s m.c m.e w
theorem bool_eq {t : Bool} {p : Prop} [Decidable p] (h : t = true ↔ p) : t = decide p := by
  cases t
  · exact (decide_eq_false fun hp => by have := h.2 hp; cases this).symm
  · exact (decide_eq_true (h.1 rfl)).symm
theorem wpList_append_ft {w : World} {ops : Array Oper} {rest : List Oper} {op : Oper} {a : Act} {Q : Exit → Act → World → Prop} (hgd : op.guard = none) (s x : Operand)
    (ho : op.op = .call { callee := .builtin .append, args := #[s, x], argTypes := #[34, 34] }) (base G : Nat) (v : Value) (m : Nat) (xs : List Value) (e : FT) (hs : a.eval s = v) (hx : a.eval x = .slice (some ⟨G, 0, none⟩) 1 1)
    (hown : w.ownsRow base 56 5 v m xs) (hG : w.heap[G]? = some (.cells (fc e).toArray 56 (0, 0))) (hm : m ≤ 1000) (hbase : base ≤ w.heap.size)
    (h : ∀ v' w', w'.ownsRow base 56 5 v' (m + 1) (xs ++ fc e) → w.grownBy w' v.ownBlock → wpList Try.prog ops Q rest (a.put op.dst v') w') : wpList Try.prog ops Q (op :: rest) a w := by
  refine wpList_plain hgd fun K hK => ?_
  obtain ⟨v', w', hr, h2, h3⟩ := run_append_ft w base G op.type m v xs e hown hG hm hbase
  unfold Oper.wp execOp
  simp only [ho, resolve, invoke, builtin, Sem.run_bind, Sem.run_pure, Result.andThen_ok, List.map_toArray, List.map_cons, List.map_nil, hs, hx, hr]
  exact hK _ _ (h v' w' h2 h3)
/-- Is a bit set? -/
def bitS (sm i : Nat) : Bool := decide (sm / 2 ^ i % 2 = 1)
theorem Spl.form {w : World} {lo : Nat} {v : Value} {o : Option (List Int × List Int)} (h : Spl w lo v o) : ∃ A1 c1 A2 c2, v = .tuple #[.agg #[.slice A1 (o.getD ([], [])).1.length c1, .slice A2 (o.getD ([], [])).2.length c2], .bool o.isSome] ∧ Zs w w.heap.size A1 (o.getD ([], [])).1 ∧ Zs w w.heap.size A2 (o.getD ([], [])).2 := by
  obtain ⟨A1, c1, A2, c2, h1, h2, h3, _⟩ := h
  exact ⟨A1, c1, A2, c2, h1, h2, h3⟩

set_option linter.unusedSimpArgs false in
set_option maxHeartbeats 16000000 in
theorem none_walk (m : Mo) (now : Int) (sm : Nat) (A : Option Addr) (c : Nat) (l : List Tk) (w : World) (hnow : In64 now) (hsm : sm < 65536) (hE : Tr w w.heap.size A l) (hl : l.length ≤ 9223372036854775807) (hs : ∀ t ∈ l, In64 t.r ∧ In64 t.s) :
    Calls Try.prog 7 #[m.v, .agg #[.int .i64 now, .int .u16 (sm : Int)], .slice A l.length c] w fun r w' => r = .returned (.bool true) ∧ Below w.heap.size w w' := by
  obtain ⟨w0, hw0⟩ : ∃ w0, w0 = (w.alloc (.cells m.cells 23)).alloc (.cells #[.int .i64 now, .int .u16 (sm : Int)] 55) := ⟨_, rfl⟩
  have hb0 : Below w.heap.size w w0 := by rw [hw0]; exact ((Below.refl _ _).alloc (Nat.le_refl _) _).alloc (by simp) _
  have hq0 : w0.heap[w.heap.size]? = some (.cells m.cells 23 (0, 0)) := by rw [hw0]; exact (Below.heap_alloc _ _ _ (by simp)).trans (heap_alloc_new w _)
  have hr0 : w0.heap[w.heap.size + 1]? = some (.cells #[.int .i64 now, .int .u16 (sm : Int)] 55 (0, 0)) := by
    have := heap_alloc_new (w.alloc (.cells m.cells 23)) (.cells #[.int .i64 now, .int .u16 (sm : Int)] 55)
    rw [World.size_alloc] at this
    rw [hw0]; exact this
  have HCE : Hid (∀ W, Below w0.heap.size w0 W → W.cell? ⟨w.heap.size, 0, none⟩ = some (.int .i64 m.k) ∧ W.cell? ⟨w.heap.size, 1, none⟩ = some (.int .i64 m.b) ∧ W.cell? ⟨w.heap.size, 2, none⟩ = some (.int .i64 m.s) ∧ W.cell? ⟨w.heap.size, 3, none⟩ = some (.int .i64 m.c) ∧ W.cell? ⟨w.heap.size, 4, none⟩ = some (.int .i64 m.e)) := fun W hW => by
    have e2 := (hW.block _ (lt_of_block hq0)).trans hq0
    exact ⟨cell_of_row W _ 0 _ _ _ e2, cell_of_row W _ 1 _ _ _ e2, cell_of_row W _ 2 _ _ _ e2, cell_of_row W _ 3 _ _ _ e2, cell_of_row W _ 4 _ _ _ e2⟩
  obtain ⟨n, hn⟩ : ∃ n, n = l.length := ⟨_, rfl⟩
  have HE0 := Lib.hid (hE.later hb0 (Nat.le_refl _))
  have g0 := cell_of_row w0 (w.heap.size + 1) 0 _ _ _ hr0
  have g1 := cell_of_row w0 (w.heap.size + 1) 1 _ _ _ hr0
  simp at g0 g1
  have H0 := Lib.hid hw0
  have HB0 := Lib.hid hb0
  have HN := Lib.hid hn
  have HS := Lib.hid hs
  have HNOW := Lib.hid hnow
  have HAW : Hid (∀ W, Calls Try.prog 16 #[] W fun r w' => r = .returned (.bool true) ∧ Below W.heap.size W w') := fun W => dawake W
  have HMO : Hid (∀ W, Calls Try.prog 13 #[m.v] W fun r w' => r = .returned m.v ∧ Below W.heap.size W w') := fun W => mo_any m W
  rw [← hn] at hl ⊢
  clear hw0 hb0 hq0 hr0 hn hE hs hnow
  by_cases h20 : 16 < n
  · go_enter Try.func7, Try.ntmps7
    go_upto_region 1 with (fail)
    rw [← H0.out]
    go_quiet (fail)
    go_wp2
    go_ret
    exact ⟨rfl, below_drewN HB0.out _⟩
  · have HSM : Hid (∀ W, Below w0.heap.size w0 W → Calls Try.prog 9 #[.slice A n c] W fun r w' => (∃ t : Bool, r = .returned (.bool t) ∧ (t = true ↔ ∀ x ∈ l, x.n ≤ 10)) ∧ w' = W) := fun W hW => small_any A n c l W HN.out (HE0.out.ts.later hW (Nat.le_refl _)) (by omega)
    go_enter Try.func7, Try.ntmps7
    go_upto_region 1 with (fail)
    rw [← H0.out]
    go_quiet (fail)
    go_upto_region 2 with (fail)
    generalize hwd : World.drewN w0 _ = wd
    have HBD : Hid (Below w0.heap.size w0 wd) := by rw [← hwd]; exact below_drewN (Below.refl _ _) _
    clear hwd g0 g1
    go_wp2_with fail
    refine (HSM.out wd HBD.out).mono ?_
    rintro r w' ⟨⟨t, rfl, ht⟩, rfl⟩
    cases t
    · clear ht
      go_wp2
      go_ret
      exact ⟨rfl, HB0.out.trans (HBD.out.mono HB0.out.size)⟩
    · have HSN : Hid (Sm l) := fun t h => ⟨ht.1 rfl t h, (HS.out t h).2⟩
      have HOW := Lib.hid (own_any A n c l w' HN.out (HE0.out.later HBD.out (Nat.le_refl _)) (by omega) (fun t h => (HSN.out t h).1))
      clear ht
      go_wp2_with fail
      refine HOW.out.mono ?_
      rintro r w2 ⟨⟨A9, c9, rfl, hts⟩, hb⟩
      have HTS := Lib.hid hts
      have HB2 : Hid (Below w0.heap.size w0 w2) := HBD.out.trans (hb.mono HBD.out.size)
      clear hts hb HOW HSM
      go_wp2_with fail
      go_loopw [10, 11] (fun o u wr => ∃ (i : Nat) (lf : List FT), i ≤ n ∧ u = .int .i64 (i : Int) ∧ Hid (lf.map (·.t) = sel (bitS sm) (l.take i) ∧ wr.ownsRow w2.heap.size 56 5 o lf.length (fr lf) ∧ Below w2.heap.size w2 wr)) (fun _ u _ => n - (intOf u).toNat)
      case atStart => exact ⟨0, [], by omega, rfl, rfl, World.ownsRow_nil w2 _ 56 5, Below.refl _ _⟩
      case round =>
        obtain ⟨i, lf, hi, rfl, HV⟩ := hrel
        obtain ⟨B, c2, rfl⟩ := own_form HV.out.2.1
        by_cases hlt : i < n
        · obtain ⟨t, hy⟩ : ∃ t, l[i]? = some t := ⟨l[i]'(by rw [← HN.out]; exact hlt), List.getElem?_eq_getElem _⟩
          have HSL := Lib.hid (sel_snoc (bitS sm) l i t hy)
          have HLN : Hid (lf.length ≤ 16) := by
            have h1 := (sel_sub (bitS sm) (l.take i)).length_le
            rw [← HV.out.1, List.length_map, List.length_take] at h1
            simp only [Hid]
            omega
          obtain ⟨fl, hfl⟩ : ∃ fl, fl = lf.length := ⟨_, rfl⟩
          have HFL := Lib.hid hfl
          rw [← hfl] at HV HLN ⊢
          clear hfl
          have HBV : Hid (((sm : Int) / 2 ^ i).tmod 2 = ((sm / 2 ^ i % 2 : Nat) : Int)) := by
            have h2 : ((sm : Int) / 2 ^ i) = ((sm / 2 ^ i : Nat) : Int) := by push_cast; rfl
            simp only [Hid]
            rw [h2, Int.tmod_eq_emod_of_nonneg (Int.natCast_nonneg _)]
            push_cast
            rfl
          by_cases hbt : sm / 2 ^ i % 2 = 1
          · have hbz : (((sm : Int) / 2 ^ i).tmod 2 == 1) = true := by rw [HBV.out, hbt]; rfl
            have HFE : Hid (sel (bitS sm) (l.take (i + 1)) = sel (bitS sm) (l.take i) ++ [t]) := by simp only [Hid]; rw [HSL.out]; unfold bitS; rw [decide_eq_true hbt]; rfl
            obtain ⟨b1, o1, rfl, hb1, ha1⟩ := (HTS.out.below HV.out.2.2) (by have := HN.out; omega)
            obtain ⟨x, y, P, cp, d0, d1, d2, d3, d4⟩ := ha1 i t hy
            obtain ⟨tn, tr, ts⟩ := t
            simp only at d2 d3 d4
            obtain ⟨w4, hw4⟩ : ∃ w4, w4 = wr.alloc (.cells #[.int .u32 x, .int .i64 y, .slice P tn cp, .int .i64 tr, .int .i64 ts] 56) := ⟨_, rfl⟩
            have hg4 : w4.heap[wr.heap.size]? = some (.cells (fc ⟨x, y, P, cp, ⟨tn, tr, ts⟩⟩).toArray 56 (0, 0)) := by rw [hw4]; exact heap_alloc_new wr _
            have hb4 : Below wr.heap.size wr w4 := by rw [hw4]; exact (Below.refl _ _).alloc (Nat.le_refl _) _
            have HO4 : Hid (w4.ownsRow w2.heap.size 56 5 (.slice B fl c2) fl (fr lf)) := own_after HV.out.2.1 fun g hg => hb4.block g (own_lt HV.out.2.1 g hg).2
            have HB4 : Hid (Below w2.heap.size w2 w4) := HV.out.2.2.trans (hb4.mono HV.out.2.2.size)
            have HG4 := Lib.hid hg4
            have H4 := Lib.hid hw4
            have ht4 : Hid (∀ W : World, W = w4 → W.ownsRow w2.heap.size 56 5 (.slice B fl c2) fl (fr lf) ∧ W.heap[wr.heap.size]? = some (.cells (fc ⟨x, y, P, cp, ⟨tn, tr, ts⟩⟩).toArray 56 (0, 0)) ∧ w2.heap.size ≤ W.heap.size) := fun W e => by rw [e]; exact ⟨HO4.out, HG4.out, HB4.out.size⟩
            clear hw4 hg4 hb4 hy ha1 hb1
            go_wp2_with (at_builtin; refine wpList_append_ft rfl (.tmp 41) (.tmp 46) rfl w2.heap.size wr.heap.size (.slice B fl c2) fl (fr lf) ⟨x, y, P, cp, ⟨tn, tr, ts⟩⟩ rfl rfl (ht4.out _ H4.out.symm).1 (ht4.out _ H4.out.symm).2.1 (by have := HLN.out; omega) (ht4.out _ H4.out.symm).2.2 ?_; intro v5 w5 ho5 hg5; rw [← H4.out] at hg5; obtain ⟨B5, c5, rfl⟩ := own_form ho5; have HR5 : Hid (w5.ownsRow w2.heap.size 56 5 (.slice B5 (fl + 1) c5) (fl + 1) (fr lf ++ fc ⟨x, y, P, cp, ⟨tn, tr, ts⟩⟩) ∧ Below w2.heap.size w2 w5) := ⟨ho5, HB4.out.grown hg5 HB4.out.size (fun g h => (own_lt HO4.out g h).1)⟩; clear ho5 hg5)
            go_roundw
            case rel => exact ⟨i + 1, lf ++ [⟨x, y, P, cp, ⟨tn, tr, ts⟩⟩], by omega, by go_num, by rw [List.map_append, HV.out.1, HFE.out]; rfl, by rw [List.length_append, ← HFL.out, fr_snoc]; exact HR5.out.1, HR5.out.2⟩
            case measure => simp [intOf] <;> omega
          · have hbz : (((sm : Int) / 2 ^ i).tmod 2 == 1) = false := by rw [HBV.out, show sm / 2 ^ i % 2 = 0 by omega]; rfl
            have HFE : Hid (sel (bitS sm) (l.take (i + 1)) = sel (bitS sm) (l.take i)) := by simp only [Hid]; rw [HSL.out]; unfold bitS; rw [decide_eq_false hbt]; simp
            clear hy
            go_wp2
            go_roundw
            case rel => exact ⟨i + 1, lf, by omega, by go_num, by rw [HV.out.1, HFE.out], by rw [← HFL.out]; exact HV.out.2.1, HV.out.2.2⟩
            case measure => simp [intOf] <;> omega
        · have hkn : i = n := by omega
          subst hkn
          obtain ⟨few, hfw⟩ : ∃ few, few = lf.map (·.t) := ⟨_, rfl⟩
          have HFW : Hid (few = sel (bitS sm) l) := by
            simp only [Hid]
            rw [hfw, HV.out.1, List.take_of_length_le (by rw [← HN.out]; exact Nat.le_refl _)]
          have HTF : Hid (Ts wr wr.heap.size B few) := by simp only [Hid]; rw [hfw]; exact Ts.of_own HV.out.2.1
          obtain ⟨fl, hfl⟩ : ∃ fl, fl = lf.length := ⟨_, rfl⟩
          have HFL : Hid (fl = few.length) := by simp only [Hid]; rw [hfw, List.length_map, hfl]
          have HF16 : Hid (fl ≤ 16) := by
            have h1 := (sel_sub (bitS sm) l).length_le
            simp only [Hid]
            rw [HFL.out, HFW.out]
            have := HN.out
            omega
          have HSF : Hid (Sm few) := fun t h => HSN.out t (by rw [HFW.out] at h; exact (sel_sub _ _).subset h)
          have HBV := Lib.hid HV.out.2.2
          rw [← hfl]
          have HBW : Hid (∀ W, Below wr.heap.size wr W → Below w0.heap.size w0 W) := fun W hW => (HB2.out.trans (HBV.out.mono HB2.out.size)).trans (hW.mono (HB2.out.trans (HBV.out.mono HB2.out.size)).size)
          have HRW : Hid (∀ W, Below wr.heap.size wr W → Below w.heap.size w W) := fun W hW => HB0.out.trans ((HBW.out W hW).mono HB0.out.size)
          clear hfw hfl HV
          have HFI : Hid (∀ W, Below wr.heap.size wr W → Calls Try.prog 12 #[m.v, .int .i64 now, .slice B fl c2] W fun r w' => (∃ t : Bool, r = .returned (.bool t) ∧ (t = true ↔ m.wr = [] ∧ Fit (entsP m now few))) ∧ Below W.heap.size W w') := fun W hW => fits_any m now B fl c2 few W HFL.out (HTF.out.later hW (Nat.le_refl _)) (by have := HF16.out; omega) HNOW.out HSF.out
          have HTE : Hid (∀ W, Below wr.heap.size wr W → Calls Try.prog 17 #[m.v, .slice B fl c2] W fun r w' => (∃ v, r = .returned v ∧ Spl w' W.heap.size v (teamsP m few)) ∧ Below W.heap.size W w') := fun W hW => teams_any m B fl c2 few W HFL.out (HTF.out.later hW (Nat.le_refl _)) (by have := HF16.out; omega) HSF.out
          have HFD : Hid (∀ W, Below wr.heap.size wr W → Calls Try.prog 20 #[m.v, .int .i64 now, .slice A9 i c9] W fun r w' => (∃ v, r = .returned v ∧ Spl w' W.heap.size v (findP m now l)) ∧ Below W.heap.size W w') := fun W hW => find_any m now A9 i c9 l W HN.out (HTS.out.later (HBV.out.trans (hW.mono HBV.out.size)) (Nat.le_refl _)) (by omega) HNOW.out HSN.out
          by_cases h8 : 8 < fl
          · go_wp2_with fail
            refine (HAW.out _).mono ?_
            rintro r w3 ⟨rfl, hb⟩
            go_wp2
            go_ret
            exact ⟨rfl, HRW.out _ hb⟩
          · obtain ⟨c0, c1, c2', c3, c4⟩ := HCE.out wr (HBW.out wr (Below.refl _ _))
            go_wp2_with fail
            refine (HMO.out _).mono ?_
            rintro r w3 ⟨rfl, hb⟩
            have HB3 := Lib.hid hb
            clear hb c0 c1 c2' c3 c4
            go_wp2_with fail
            refine (HFI.out w3 HB3.out).mono ?_
            rintro r w4 ⟨⟨t, rfl, ht⟩, hb⟩
            have HB4 := Lib.hid (HB3.out.trans (hb.mono HB3.out.size))
            clear hb
            cases t
            · clear ht
              go_wp2_with fail
              refine (HAW.out _).mono ?_
              rintro r w5 ⟨rfl, hb⟩
              go_wp2
              go_ret
              exact ⟨rfl, HRW.out _ (HB4.out.trans (hb.mono HB4.out.size))⟩
            · have HFF : Hid (m.wr = [] ∧ Fit (entsP m now few)) := ht.1 rfl
              obtain ⟨c0, c1, c2', c3, c4⟩ := HCE.out w4 (HBW.out w4 HB4.out)
              clear ht
              go_wp2_with fail
              refine (HMO.out _).mono ?_
              rintro r w5 ⟨rfl, hb⟩
              have HB5 := Lib.hid (HB4.out.trans (hb.mono HB4.out.size))
              clear hb c0 c1 c2' c3 c4
              go_wp2_with fail
              refine (HTE.out w5 HB5.out).mono ?_
              rintro r w6 ⟨⟨v, rfl, hS⟩, hb⟩
              have HB6 := Lib.hid (HB5.out.trans (hb.mono HB5.out.size))
              clear hb
              obtain ⟨o, ho⟩ : ∃ o, o = teamsP m few := ⟨_, rfl⟩
              rw [← ho] at hS
              have HO := Lib.hid ho
              obtain ⟨A1, c1, A2, c2', rfl, -, -⟩ := hS.form
              obtain ⟨n1, hn1⟩ : ∃ n1, n1 = (o.getD ([], [])).1.length := ⟨_, rfl⟩
              obtain ⟨n2, hn2⟩ : ∃ n2, n2 = (o.getD ([], [])).2.length := ⟨_, rfl⟩
              rw [← hn1, ← hn2]
              have HB7 : Hid (Below wr.heap.size wr (w6.alloc (.cells #[.slice A1 n1 c1, .slice A2 n2 c2'] 40))) := HB6.out.alloc HB6.out.size _
              clear ho hS hn1 hn2
              cases o with
              | none =>
                go_wp2_with fail
                refine (HAW.out _).mono ?_
                rintro r w8 ⟨rfl, hb⟩
                go_wp2
                go_ret
                exact ⟨rfl, HRW.out _ (HB7.out.trans (hb.mono HB7.out.size))⟩
              | some q =>
                obtain ⟨w7, hw7⟩ : ∃ w7, w7 = w6.alloc (.cells #[.slice A1 n1 c1, .slice A2 n2 c2'] 40) := ⟨_, rfl⟩
                rw [← hw7] at HB7
                have H7 := Lib.hid hw7
                have hnf := none_facts m now l few (bitS sm) HFW.out (by have := HN.out; omega) HFF.out.1 HFF.out.2 (by rw [← HO.out]; rfl)
                obtain ⟨a, A', B', hfd, hf0⟩ := hnf
                have HF0 : Hid (sm % 2 = 1 → a = 0) := fun h => hf0 (by unfold bitS; rw [decide_eq_true_iff]; simpa using h)
                rw [hfd] at HFD
                obtain ⟨z0, z1, z2, z3, z4⟩ := HCE.out w7 (HBW.out w7 HB7.out)
                clear hw7 hfd hf0
                go_upto_region 14 with (fail)
                rw [← H7.out]
                go_wp2_with fail
                refine (HMO.out _).mono ?_
                rintro r w8 ⟨rfl, hb⟩
                have HB8 := Lib.hid (HB7.out.trans (hb.mono HB7.out.size))
                clear hb z0 z1 z2 z3 z4
                go_wp2_with fail
                refine (HFD.out w8 HB8.out).mono ?_
                rintro r w9 ⟨⟨v, rfl, hS⟩, hb⟩
                have HB9 := Lib.hid (HB8.out.trans (hb.mono HB8.out.size))
                clear hb
                obtain ⟨A3, c3, A4, c4, rfl, hz3, hz4⟩ := hS.form
                simp only [Option.getD_some, Option.isSome_some] at hz3 hz4 ⊢
                obtain ⟨b3, o3, rfl, hb3, hc3⟩ := hz3 (by simp)
                have hA0 := hc3 0 a rfl
                obtain ⟨n3, hn3⟩ : ∃ n3, n3 = A'.length := ⟨_, rfl⟩
                obtain ⟨n4, hn4⟩ : ∃ n4, n4 = B'.length := ⟨_, rfl⟩
                rw [List.length_cons, ← hn3, ← hn4]
                obtain ⟨wa, hwa⟩ : ∃ wa, wa = w9.alloc (.cells #[.slice (some ⟨b3, o3, none⟩) (n3 + 1) c3, .slice A4 n4 c4] 40) := ⟨_, rfl⟩
                have hba : Below w9.heap.size w9 wa := by rw [hwa]; exact (Below.refl _ _).alloc (Nat.le_refl _) _
                have hqa : wa.heap[w9.heap.size]? = some (.cells #[.slice (some ⟨b3, o3, none⟩) (n3 + 1) c3, .slice A4 n4 c4] 40 (0, 0)) := by rw [hwa]; exact heap_alloc_new w9 _
                have q0 := cell_of_row wa w9.heap.size 0 _ _ _ hqa
                simp at q0
                have q1 := (hba.cell (p := ⟨b3, o3 + 0, none⟩) hb3).trans hA0
                simp only [Nat.add_zero] at q1
                have HBA := Lib.hid (HB9.out.trans (hba.mono HB9.out.size))
                have HA := Lib.hid hwa
                clear hS hz3 hz4 hb3 hc3 hA0 hn3 hn4 hwa hba hqa
                go_upto_region 17 with (fail)
                rw [← HA.out]
                by_cases hm2 : sm % 2 = 1
                · have ha0 : a = 0 := HF0.out hm2
                  subst ha0
                  have hbz : ((sm : Int).tmod 2 == 0) = false := by
                    rw [Int.tmod_eq_emod_of_nonneg (by omega), show (sm : Int) % 2 = 1 by omega]; rfl
                  go_wp2_with fail
                  refine (HAW.out _).mono ?_
                  rintro r wb ⟨rfl, hb⟩
                  go_wp2
                  go_ret
                  exact ⟨rfl, HRW.out _ (HBA.out.trans (hb.mono HBA.out.size))⟩
                · have hbz : ((sm : Int).tmod 2 == 0) = true := by
                    rw [Int.tmod_eq_emod_of_nonneg (by omega), show (sm : Int) % 2 = 0 by omega]; rfl
                  go_wp2_with fail
                  refine (HAW.out _).mono ?_
                  rintro r wb ⟨rfl, hb⟩
                  go_wp2
                  go_ret
                  exact ⟨rfl, HRW.out _ (HBA.out.trans (hb.mono HBA.out.size))⟩
end Go.Proofs.Ytnloikdfbdpilaa
