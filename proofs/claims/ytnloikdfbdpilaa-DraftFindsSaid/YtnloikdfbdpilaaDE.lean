/- Draft: match. -/
import Derived.Test.YtnloikdfbdpilaaDD
namespace Go.Proofs.Ytnloikdfbdpilaa
open Go.RowKit
set_option maxRecDepth 20000
set_option linter.unusedVariables false

theorem len_sum (l : List En) (h : ∀ e ∈ l, Ok e ∧ 1 ≤ e.n) : (l.length : Int) ≤ sumN l := by
  induction l with
  | nil => simp [sumN]
  | cons a l ih =>
    have h1 := ih fun e he => h e (List.mem_cons_of_mem _ he)
    have h2 := (h a (List.mem_cons_self ..)).2
    simp only [sumN, List.map_cons, List.sum_cons, List.length_cons] at h1 ⊢
    push_cast
    omega
theorem sumN_snoc (l : List En) (e : En) : sumN (l ++ [e]) = sumN l + e.n := by simp [sumN]
theorem Es.drop {w : World} {B : Nat} {A A' : Option Addr} {l : List En} (h : Es w B A l) (i : Nat) (hA : i < l.length → ∀ b o, A = some ⟨b, o, none⟩ → A' = some ⟨b, o + i * 4, none⟩) : Es w B A' (l.drop i) := fun hl => by
  rw [List.length_drop] at hl
  obtain ⟨b, o, h1, h2, h3⟩ := h (by omega)
  refine ⟨b, o + i * 4, hA (by omega) b o h1, h2, fun j e he => ?_⟩
  rw [List.getElem?_drop] at he
  have h4 := h3 (i + j) e he
  rw [show o + i * 4 + j * 4 = o + (i + j) * 4 by omega]
  exact h4
theorem run_sub (A : Option Addr) (n c i : Nat) (hi : i ≤ n) : ∃ A', (∀ W : World, (Instr.slice 64 (.slice A n c) (some (.int .i64 (i : Int))) none none).run Try.prog W = .ok (.slice A' (n - i) (c - i)) W) ∧ (¬ c = i → ∀ b o, A = some ⟨b, o, none⟩ → A' = some ⟨b, o + i * 4, none⟩) := by
  obtain ⟨i0, hi0, hz0, hz1, hz2⟩ := info_parts info80
  have hs : ∀ W : World, (sizeOf (Try.prog.elem 64)).run Try.prog W = .ok 4 W := fun W => by
    have e : Try.prog.elem 64 = 80 := by kernel_rfl
    rw [e]
    simp [sizeOf, typeInfo, hi0, hz1]
  have hu : Try.prog.underlying 64 = some (.slice (Try.prog.elem 64)) := by
    have e : Try.prog.elem 64 = 80 := by kernel_rfl
    rw [e]
    exact Try.underlying64
  refine ⟨if c = i then A else A.map (·.add (i * 4)), fun W => ?_, fun hc b o hA => ?_⟩
  · rw [run_slice_l W 64 A n c hu .i64 (i : Int) (by omega) (by omega), hs]
    simp [sliced, Result.andThen]
  · rw [if_neg hc, hA, Option.map_some, Go.WideShapes.add_plain]
theorem step_append_en {w : World} {ops : Array Oper} {o : Oper} {a : Act} {K : Act → World → Prop} {Q : Exit → Act → World → Prop} {E : Prop} (hgd : o.guard = none) (s x : Operand)
    (ho : o.op = .call { callee := .builtin .append, args := #[s, x], argTypes := #[64, 64] }) (base G : Nat) (v : Value) (m : Nat) (xs : List Value) (e : En) (hs : a.eval s = v) (hx : a.eval x = .slice (some ⟨G, 0, none⟩) 1 1)
    (hown : w.ownsRow base 80 4 v m xs) (hG : w.heap[G]? = some (.cells (ec e).toArray 80 (0, 0))) (hm : m ≤ 1000) (hbase : base ≤ w.heap.size)
    (h : ∀ v' w', w'.ownsRow base 80 4 v' (m + 1) (xs ++ ec e) → w.grownBy w' v.ownBlock → K (a.put o.dst v') w') :
    if Region.wanted o (yielded ops a.tmps) = true then Oper.wp Try.prog o a w K Q else E := by
  have hw : Region.wanted o (yielded ops a.tmps) = true := by simp [Region.wanted, hgd]
  rw [if_pos hw]
  obtain ⟨v', w', hr, h2, h3, _⟩ := run_append_en w base G o.type m v xs e hown hG hm hbase
  unfold Oper.wp execOp
  simp only [ho, resolve, invoke, builtin, Sem.run_bind, Sem.run_pure, Result.andThen_ok, List.map_toArray, List.map_cons, List.map_nil, hs, hx, hr]
  exact h v' w' h2 h3

set_option linter.unusedSimpArgs false in
set_option maxHeartbeats 16000000 in
theorem match_step (k : Int) (hk : 1 ≤ k ∧ k ≤ 4) (rest taken : List En) (A : Option Addr) (n c : Nat) (A' : Option Addr) (n' c' : Nat) (w : World)
    (IH : ∀ (rest' taken' : List En) (A : Option Addr) (n c : Nat) (A' : Option Addr) (n' c' : Nat) (w : World), rest'.length < rest.length → n = rest'.length → n' = taken'.length → Es w w.heap.size A rest' → Es w w.heap.size A' taken' → n ≤ c → n' ≤ c' → (∀ e ∈ rest', Ok e) → (∀ e ∈ taken', Ok e ∧ 1 ≤ e.n) → sumN taken' ≤ 2 * k → n ≤ 100 →
      Calls Try.prog 35 #[.int .i64 k, .slice A n c, .slice A' n' c'] w fun r w' => (∃ v, r = .returned v ∧ Spl w' w.heap.size v (mP k rest' taken')) ∧ Below w.heap.size w w')
    (hn : n = rest.length) (hn' : n' = taken.length) (hE : Es w w.heap.size A rest) (hE' : Es w w.heap.size A' taken) (hc : n ≤ c) (hc' : n' ≤ c') (hO : ∀ e ∈ rest, Ok e) (hO' : ∀ e ∈ taken, Ok e ∧ 1 ≤ e.n) (hsum : sumN taken ≤ 2 * k) (hl : n ≤ 100) :
    Calls Try.prog 35 #[.int .i64 k, .slice A n c, .slice A' n' c'] w fun r w' => (∃ v, r = .returned v ∧ Spl w' w.heap.size v (mP k rest taken)) ∧ Below w.heap.size w w' := by
  obtain ⟨hk1, hk2⟩ := hk
  have hls := len_sum taken hO'
  have htl : n' ≤ 8 := by omega
  obtain ⟨w0, hw0⟩ : ∃ w0, w0 = w.alloc (.cells #[.slice none 0 0, .slice none 0 0] 40) := ⟨_, rfl⟩
  have hb0 : Below w.heap.size w w0 := by rw [hw0]; exact (Below.refl _ _).alloc (Nat.le_refl _) _
  have hq0 : w0.heap[w.heap.size]? = some (.cells #[.slice none 0 0, .slice none 0 0] 40 (0, 0)) := by rw [hw0]; exact heap_alloc_new w _
  obtain ⟨X, hX⟩ : ∃ X, X = sumN taken := ⟨_, rfl⟩
  obtain ⟨Y, hY⟩ : ∃ Y, Y = sumW taken := ⟨_, rfl⟩
  have hX0 : 0 ≤ X := by have := (sum_bd taken fun e he => (hO' e he).1).1; omega
  have HTG : Hid (Calls Try.prog 42 #[.slice A' n' c'] w0 fun r w' => r = .returned (tV X Y) ∧ Below w0.heap.size w0 w') := by
    rw [hX, hY]
    exact together_any A' n' c' taken w0 hn' (hE'.later hb0 (Nat.le_refl _)) (fun e he => (hO' e he).1) (by omega)
  have HPA : Hid (∀ W, Below w.heap.size w W → Calls Try.prog 32 #[.int .i64 k, .slice A' n' c'] W fun r w' => (∃ v, r = .returned v ∧ Spl w' W.heap.size v (partP k taken)) ∧ Below W.heap.size W w') := fun W hW =>
    parted_any k A' n' c' taken W hn' (hE'.later hW (Nat.le_refl _)) (fun e he => (hO' e he).1) htl
  have hF := field_n X Y
  rw [← hX] at hsum
  have H0 := Lib.hid hw0
  have HB0 := Lib.hid hb0
  have HQ0 := Lib.hid hq0
  have HE := Lib.hid hE
  have HE' := Lib.hid hE'
  have HN := Lib.hid hn
  have HN' := Lib.hid hn'
  have HO := Lib.hid hO
  have HO' := Lib.hid hO'
  have HX := Lib.hid hX
  have HIH := Lib.hid IH
  clear hw0 hb0 hq0 hX hY hE hE' hn hn' hO hO' hls IH
  by_cases h0 : 2 * k - X = 0
  · have HMP : Hid (mP k rest taken = partP k taken) := mP_full (by rw [← HX.out]; exact h0)
    rw [HMP.out]
    clear HMP
    go_enter Try.func35, Try.ntmps35
    go_upto_region 1 with (fail)
    rw [← H0.out]
    go_wp2_with fail
    refine HTG.out.mono ?_
    rintro r w1 ⟨rfl, hb⟩
    have HB1 := Lib.hid (HB0.out.trans (hb.mono HB0.out.size))
    have HQ1 : Hid (w1.heap[w.heap.size]? = some (.cells #[.slice none 0 0, .slice none 0 0] 40 (0, 0))) := (hb.block _ (lt_of_block HQ0.out)).trans HQ0.out
    clear hb
    go_wp2_with fail
    refine (HPA.out w1 HB1.out).mono ?_
    rintro r w2 ⟨⟨v, rfl, hS⟩, hb⟩
    have HB2 := Lib.hid (HB1.out.trans (hb.mono HB1.out.size))
    have HQ2 : Hid (w2.heap[w.heap.size]? = some (.cells #[.slice none 0 0, .slice none 0 0] 40 (0, 0))) := (hb.block _ (lt_of_block HQ1.out)).trans HQ1.out
    have HS := Lib.hid (And.intro hS (lt_of_block HQ1.out))
    clear hb hS
    obtain ⟨A1, c1, A2, c2, rfl, hz1, hz2, hz3, hz4⟩ := HS.out.1
    obtain ⟨l1, hl1⟩ : ∃ l1, l1 = ((partP k taken).getD ([], [])).1 := ⟨_, rfl⟩
    obtain ⟨l2, hl2⟩ : ∃ l2, l2 = ((partP k taken).getD ([], [])).2 := ⟨_, rfl⟩
    obtain ⟨bl, hbl⟩ : ∃ bl, bl = (partP k taken).isSome := ⟨_, rfl⟩
    rw [← hl1, ← hl2, ← hbl] at HS
    rw [← hl1, ← hl2, ← hbl]
    clear hz1 hz2 hz3 hz4 hl1 hl2 hbl
    have zf : ∀ i, w2.frozen? ⟨w.heap.size, i, none⟩ = false := fun i => frozen_of_row w2 _ i _ _ HQ2.out
    have z0 := cell_of_row w2 w.heap.size 0 _ _ _ HQ2.out
    have z1 := cell_of_row w2 w.heap.size 1 _ _ _ HQ2.out
    simp at z0 z1
    have hT := two (.slice A1 l1.length c1) (.slice A2 l2.length c2) HQ2.out
    have HBB := Lib.hid ((HB2.out.setCell (p := ⟨w.heap.size, 0, none⟩) (Nat.le_refl _) (.slice A1 l1.length c1)).setCell (p := ⟨w.heap.size, 1, none⟩) (Nat.le_refl _) (.slice A2 l2.length c2))
    have e0 := cell_of_row _ w.heap.size 0 _ _ _ hT
    have e1 := cell_of_row _ w.heap.size 1 _ _ _ hT
    simp at e0 e1
    have HZ := Lib.hid (And.intro e0 e1)
    clear hT e0 e1
    go_wp2
    obtain ⟨e0, e1⟩ := HZ.out
    exact bodyPost_ret (v := .tuple #[.agg #[.slice A1 l1.length c1, .slice A2 l2.length c2], .bool bl]) (by simp [results, Try.results35, go_sem, e0, e1]) rfl ⟨⟨_, rfl, ((HS.out.1.set HS.out.2).set HS.out.2).lo (Nat.le_of_lt HS.out.2)⟩, HBB.out⟩
  · have HM0 : Hid (¬ 2 * k - sumN taken = 0) := by rw [← HX.out]; exact h0
    have h0b : ((2 * k - X : Int) == 0) = false := by simp [h0]
    have HSB : Hid (∀ i, i ≤ n → ∃ A2, (∀ W : World, (Instr.slice 64 (.slice A n c) (some (.int .i64 (i : Int))) none none).run Try.prog W = .ok (.slice A2 (n - i) (c - i)) W) ∧ (¬ c = i → ∀ b o, A = some ⟨b, o, none⟩ → A2 = some ⟨b, o + i * 4, none⟩)) := fun i hi => run_sub A n c i hi
    obtain ⟨res, hres⟩ : ∃ res, res = mP k rest taken := ⟨_, rfl⟩
    rw [← hres]
    have HRES := Lib.hid hres
    clear hres
    go_enter Try.func35, Try.ntmps35
    go_upto_region 1 with (fail)
    rw [← H0.out]
    go_wp2_with fail
    refine HTG.out.mono ?_
    rintro r w1 ⟨rfl, hb⟩
    have HB1 := Lib.hid (HB0.out.trans (hb.mono HB0.out.size))
    have HQ1 : Hid (w1.heap[w.heap.size]? = some (.cells #[.slice none 0 0, .slice none 0 0] 40 (0, 0))) := (hb.block _ (lt_of_block HQ0.out)).trans HQ0.out
    clear hb
    go_wp2_with fail
    go_loopw [29] (fun u wr => ∃ i : Nat, i ≤ n ∧ u = .int .i64 (i : Int) ∧ Hid (res = mP k (rest.drop i) taken ∧ Below w.heap.size w wr ∧ wr.heap[w.heap.size]? = some (.cells #[.slice none 0 0, .slice none 0 0] 40 (0, 0)))) (fun u _ => n - (intOf u).toNat)
    case atStart => exact ⟨0, by omega, rfl, by rw [List.drop_zero]; exact HRES.out, HB1.out, HQ1.out⟩
    case round =>
      obtain ⟨i, hi, rfl, HV⟩ := hrel
      by_cases hlt : i < n
      · obtain ⟨e, hy⟩ : ∃ e, rest[i]? = some e := ⟨rest[i]'(by rw [← HN.out]; exact hlt), List.getElem?_eq_getElem _⟩
        have hlr : i < rest.length := by rw [← HN.out]; exact hlt
        have HDR : Hid (rest.drop i = e :: rest.drop (i + 1)) := by
          simp only [Hid]
          rw [List.drop_eq_getElem_cons hlr]
          congr 1
          exact Option.some.inj ((List.getElem?_eq_getElem hlr).symm.trans hy)
        obtain ⟨b1, o1, hAe, hbb1, ha1⟩ := HE.out (by omega)
        have HBB1 := Lib.hid hbb1
        obtain ⟨d0', d1', d2', d3'⟩ := ha1 i e hy
        have d0 := (HV.out.2.1.cell (p := ⟨b1, _, none⟩) hbb1).trans d0'
        have d1 := (HV.out.2.1.cell (p := ⟨b1, _, none⟩) hbb1).trans d1'
        have d2 := (HV.out.2.1.cell (p := ⟨b1, _, none⟩) hbb1).trans d2'
        have d3 := (HV.out.2.1.cell (p := ⟨b1, _, none⟩) hbb1).trans d3'
        have HOE := Lib.hid (HO.out e (List.mem_of_getElem? hy))
        obtain ⟨w2, hw2⟩ : ∃ w2, w2 = wr.alloc (.cells (ec e).toArray 80) := ⟨_, rfl⟩
        obtain ⟨G, hG⟩ : ∃ G, G = wr.heap.size := ⟨_, rfl⟩
        have hg2 : w2.heap[G]? = some (.cells (ec e).toArray 80 (0, 0)) := by rw [hw2, hG]; exact heap_alloc_new wr _
        have hb2 : Below wr.heap.size wr w2 := by rw [hw2]; exact (Below.refl _ _).alloc (Nat.le_refl _) _
        have HB2 : Hid (Below w.heap.size w w2) := HV.out.2.1.trans (hb2.mono HV.out.2.1.size)
        have HQ2 : Hid (w2.heap[w.heap.size]? = some (.cells #[.slice none 0 0, .slice none 0 0] 40 (0, 0))) := (hb2.block _ (lt_of_block HV.out.2.2)).trans HV.out.2.2
        have HG2 := Lib.hid hg2
        have HCE : Hid (∀ W, Below w2.heap.size w2 W → W.cell? ⟨G, 0, none⟩ = some (.int .i64 e.p) ∧ W.cell? ⟨G, 1, none⟩ = some (.int .i64 e.n) ∧ W.cell? ⟨G, 2, none⟩ = some (.int .i64 e.r) ∧ W.cell? ⟨G, 3, none⟩ = some (.int .i64 e.v)) := fun W hW => by
          have e1 := (hW.block _ (lt_of_block hg2)).trans hg2
          exact ⟨cell_of_row W _ 0 _ _ _ e1, cell_of_row W _ 1 _ _ _ e1, cell_of_row W _ 2 _ _ _ e1, cell_of_row W _ 3 _ _ _ e1⟩
        have HCL : Hid (∀ W, Below w.heap.size w W → Calls Try.prog 45 #[.slice A' n' c'] W fun r w' => ∃ B c'', r = .returned (.slice B n' c'') ∧ w'.ownsRow W.heap.size 80 4 (.slice B n' c'') n' (er taken) ∧ Below W.heap.size W w') := fun W hW => clone_any A' n' c' taken W HN'.out (HE'.out.later hW (Nat.le_refl _)) (by omega)
        have HBS : Hid (Below w2.heap.size w2 w2) := Below.refl _ _
        have H2 := Lib.hid hw2
        simp only [ec] at H2
        have HGE := Lib.hid hG
        clear hy hbb1 ha1 d0' d1' d2' d3' hw2 hG hg2 hb2
        subst hAe
        go_upto_region 7 with (fail)
        rw [← H2.out]
        rw [← HGE.out]
        clear d0 d1 d2 d3 H2 HGE
        go_cut [11] from 34 to 65 (fun x wx => ∃ (B2 : Option Addr) (c2 : Nat), x = .slice B2 (n' + 1) c2 ∧ Hid (n' + 1 ≤ c2 ∧ Es wx wx.heap.size B2 (taken ++ [e]) ∧ Below w2.heap.size w2 wx))
        case first =>
          have HDp : Hid (Below w2.heap.size w2 w2.drew) := HBS.out.drew
          refine wp_region_held_drew (S := fun W : World => W.cell? ⟨G, 0, none⟩ = some (.int .i64 e.p) ∧ W.cell? ⟨G, 1, none⟩ = some (.int .i64 e.n) ∧ W.cell? ⟨G, 2, none⟩ = some (.int .i64 e.r) ∧ W.cell? ⟨G, 3, none⟩ = some (.int .i64 e.v)) (by kernel_rfl) (HCE.out _ HDp.out) (fun hHeld => ?_)
          obtain ⟨W0, hW0⟩ : ∃ W0, W0 = w2.drew := ⟨_, rfl⟩
          rw [← hW0] at hHeld HDp ⊢
          clear hW0
          refine wpAnyH_take (i := 0) (oi := ?oi0p) (v := ?v0p) ?hi0p ?hs0p ?hf0p ?hr0p ?hQ0p ?hy0p ?hS0p ?h0p
          case hi0p => exact (by simp only [List.getElem?_toArray, List.getElem?_cons_zero]; rfl)
          case hs0p => kernel_rfl
          case hf0p => kernel_rfl
          case hr0p => kernel_rfl
          case hQ0p => exact fun _ _ _ h => h
          case hy0p =>
            refine Or.inl ⟨rfl, ?_⟩
            intro W hSw
            obtain ⟨y0, y1, y2, y3⟩ := hSw
            go_simp
            try with_reducible rfl
          case hS0p => assumption
          try simp only [Act.put, List.setIfInBounds_toArray, List.set_cons_zero, List.set_cons_succ]
          refine wpAnyH_take (i := 2) (oi := ?oi2p) (v := ?v2p) ?hi2p ?hs2p ?hf2p ?hr2p ?hQ2p ?hy2p ?hS2p ?h2p
          case hi2p => exact (by simp only [List.getElem?_toArray, List.getElem?_cons_succ, List.getElem?_cons_zero]; rfl)
          case hs2p => kernel_rfl
          case hf2p => kernel_rfl
          case hr2p => kernel_rfl
          case hQ2p => exact fun _ _ _ h => h
          case hy2p =>
            refine Or.inl ⟨rfl, ?_⟩
            intro W hSw
            obtain ⟨y0, y1, y2, y3⟩ := hSw
            go_simp
            try with_reducible rfl
          case hS2p => assumption
          try simp only [Act.put, List.setIfInBounds_toArray, List.set_cons_zero, List.set_cons_succ]
          refine wpAnyH_ready (rs := [1, 3]) (by kernel_rfl) (by simp) ?_
          refine AllReadyH.cons (o := _) rfl (fun K hK => ?_) (AllReadyH.cons (o := _) rfl (fun K hK => ?_) AllReadyH.nil)
          · go_simp
            refine (HCL.out W0 (HB2.out.trans (HDp.out.mono HB2.out.size))).mono ?_
            rintro r W1 ⟨B, c'', rfl, hown, hbq⟩
            have HOW := Lib.hid hown
            have HBn : Hid (Below w2.heap.size w2 W1) := HDp.out.trans (hbq.mono HDp.out.size)
            have HBq := Lib.hid hbq
            clear hown hbq
            refine hK.out _ _ (HCE.out _ HBn.out) (fun hHeld => ?_)
            clear hK K
            try simp only [Act.put, List.setIfInBounds_toArray, List.set_cons_zero, List.set_cons_succ]
            refine wpAnyH_ready (rs := [3]) (by kernel_rfl) (by simp) ?_
            refine AllReadyH.cons (o := _) rfl (fun K hK => ?_) AllReadyH.nil
            go_simp
            obtain ⟨W2, hW2⟩ : ∃ W2, W2 = W1.alloc (.cells (ec e).toArray 80) := ⟨_, rfl⟩
            have hxW2 : W2 = W1.alloc (.cells #[.int .i64 e.p, .int .i64 e.n, .int .i64 e.r, .int .i64 e.v] 80) := hW2
            rw [← hxW2]
            have HGG : Hid (W2.heap[W1.heap.size]? = some (.cells (ec e).toArray 80 (0, 0))) := by rw [hW2]; exact heap_alloc_new W1 _
            have HBa : Hid (Below W1.heap.size W1 W2) := by rw [hW2]; exact (Below.refl _ _).alloc (Nat.le_refl _) _
            have HBm : Hid (Below w2.heap.size w2 W2) := HBn.out.trans (HBa.out.mono HBn.out.size)
            clear hW2 hxW2
            refine hK.out _ _ (HCE.out _ HBm.out) (fun hHeld => ?_)
            clear hK K
            try simp only [Act.put, List.setIfInBounds_toArray, List.set_cons_zero, List.set_cons_succ]
            refine wpAnyH_ready (rs := [4]) (by kernel_rfl) (by simp) ?_
            refine AllReadyH.cons (o := _) rfl (fun K hK => ?_) AllReadyH.nil
            have hown : W2.ownsRow W0.heap.size 80 4 (.slice B n' c'') n' (er taken) := own_after HOW.out (fun g hg => HBa.out.block g (own_lt HOW.out g hg).2)
            refine step_append_en rfl _ _ rfl W0.heap.size W1.heap.size (.slice B n' c'') n' (er taken) e rfl rfl hown HGG.out (by omega) (Nat.le_trans HBq.out.size HBa.out.size) ?_
            intro v9 w9 ho9 hg9
            change K (Act.put _ (some 38) v9) w9
            obtain ⟨B9, c9, rfl⟩ := own_form ho9
            have HB9 : Hid (Below w2.heap.size w2 w9) := HBm.out.grown hg9 HBm.out.size (fun g hg => Nat.le_trans HDp.out.size (own_lt hown g hg).1)
            have HE9 : Hid (n' + 1 ≤ c9 ∧ Es w9 w9.heap.size B9 (taken ++ [e])) := ⟨own_cap ho9, Es.of_own (by rw [er_snoc]; exact ho9)⟩
            clear ho9 hg9 hown
            refine hK.out _ _ (HCE.out _ HB9.out) (fun hHeld => ?_)
            clear hK K
            try simp only [Act.put, List.setIfInBounds_toArray, List.set_cons_zero, List.set_cons_succ]
            refine wpAnyH_take (i := 5) (oi := ?oi5a) (v := ?v5a) ?hi5a ?hs5a ?hf5a ?hr5a ?hQ5a ?hy5a ?hS5a ?h5a
            case hi5a => exact (by simp only [List.getElem?_toArray, List.getElem?_cons_succ, List.getElem?_cons_zero]; rfl)
            case hs5a => kernel_rfl
            case hf5a => kernel_rfl
            case hr5a => kernel_rfl
            case hQ5a => exact fun _ _ _ h => h
            case hy5a =>
              refine Or.inl ⟨rfl, ?_⟩
              intro W hSw
              obtain ⟨y0, y1, y2, y3⟩ := hSw
              go_simp
              try with_reducible rfl
            case hS5a => assumption
            try simp only [Act.put, List.setIfInBounds_toArray, List.set_cons_zero, List.set_cons_succ]
            refine wpAnyH_done (by kernel_rfl) ?_ _
            try go_wp2_with fail
            go_meet
            exact ⟨B9, c9, rfl, HE9.out.1, HE9.out.2, HB9.out⟩
          · go_simp
            obtain ⟨W1, hW1⟩ : ∃ W1, W1 = W0.alloc (.cells (ec e).toArray 80) := ⟨_, rfl⟩
            have hxW1 : W1 = W0.alloc (.cells #[.int .i64 e.p, .int .i64 e.n, .int .i64 e.r, .int .i64 e.v] 80) := hW1
            rw [← hxW1]
            have HGG : Hid (W1.heap[W0.heap.size]? = some (.cells (ec e).toArray 80 (0, 0))) := by rw [hW1]; exact heap_alloc_new W0 _
            have HBa : Hid (Below W0.heap.size W0 W1) := by rw [hW1]; exact (Below.refl _ _).alloc (Nat.le_refl _) _
            have HBm : Hid (Below w2.heap.size w2 W1) := HDp.out.trans (HBa.out.mono HDp.out.size)
            clear hW1 hxW1
            refine hK.out _ _ (HCE.out _ HBm.out) (fun hHeld => ?_)
            clear hK K
            try simp only [Act.put, List.setIfInBounds_toArray, List.set_cons_zero, List.set_cons_succ]
            refine wpAnyH_ready (rs := [1]) (by kernel_rfl) (by simp) ?_
            refine AllReadyH.cons (o := _) rfl (fun K hK => ?_) AllReadyH.nil
            go_simp
            refine (HCL.out W1 (HB2.out.trans (HBm.out.mono HB2.out.size))).mono ?_
            rintro r W2 ⟨B, c'', rfl, hown, hbq⟩
            have HOW := Lib.hid hown
            have HBn : Hid (Below w2.heap.size w2 W2) := HBm.out.trans (hbq.mono HBm.out.size)
            have HBq := Lib.hid hbq
            clear hown hbq
            refine hK.out _ _ (HCE.out _ HBn.out) (fun hHeld => ?_)
            clear hK K
            try simp only [Act.put, List.setIfInBounds_toArray, List.set_cons_zero, List.set_cons_succ]
            refine wpAnyH_ready (rs := [4]) (by kernel_rfl) (by simp) ?_
            refine AllReadyH.cons (o := _) rfl (fun K hK => ?_) AllReadyH.nil
            have hown : W2.ownsRow W1.heap.size 80 4 (.slice B n' c'') n' (er taken) := HOW.out
            refine step_append_en rfl _ _ rfl W1.heap.size W0.heap.size (.slice B n' c'') n' (er taken) e rfl rfl hown ((HBq.out.block _ (lt_of_block HGG.out)).trans HGG.out) (by omega) (HBq.out.size) ?_
            intro v9 w9 ho9 hg9
            change K (Act.put _ (some 38) v9) w9
            obtain ⟨B9, c9, rfl⟩ := own_form ho9
            have HB9 : Hid (Below w2.heap.size w2 w9) := HBn.out.grown hg9 HBn.out.size (fun g hg => Nat.le_trans HBm.out.size (own_lt hown g hg).1)
            have HE9 : Hid (n' + 1 ≤ c9 ∧ Es w9 w9.heap.size B9 (taken ++ [e])) := ⟨own_cap ho9, Es.of_own (by rw [er_snoc]; exact ho9)⟩
            clear ho9 hg9 hown
            refine hK.out _ _ (HCE.out _ HB9.out) (fun hHeld => ?_)
            clear hK K
            try simp only [Act.put, List.setIfInBounds_toArray, List.set_cons_zero, List.set_cons_succ]
            refine wpAnyH_take (i := 5) (oi := ?oi5b) (v := ?v5b) ?hi5b ?hs5b ?hf5b ?hr5b ?hQ5b ?hy5b ?hS5b ?h5b
            case hi5b => exact (by simp only [List.getElem?_toArray, List.getElem?_cons_succ, List.getElem?_cons_zero]; rfl)
            case hs5b => kernel_rfl
            case hf5b => kernel_rfl
            case hr5b => kernel_rfl
            case hQ5b => exact fun _ _ _ h => h
            case hy5b =>
              refine Or.inl ⟨rfl, ?_⟩
              intro W hSw
              obtain ⟨y0, y1, y2, y3⟩ := hSw
              go_simp
              try with_reducible rfl
            case hS5b => assumption
            try simp only [Act.put, List.setIfInBounds_toArray, List.set_cons_zero, List.set_cons_succ]
            refine wpAnyH_done (by kernel_rfl) ?_ _
            try go_wp2_with fail
            go_meet
            exact ⟨B9, c9, rfl, HE9.out.1, HE9.out.2, HB9.out⟩
        case rest =>
          obtain ⟨B2, c2, rfl, HC⟩ := hcut
          obtain ⟨y0, y1, y2, y3⟩ := HCE.out wc HC.out.2.2
          obtain ⟨M, hM⟩ : ∃ M, M = 2 * k - X := ⟨_, rfl⟩
          have HBC : Hid (Below w.heap.size w wc) := HB2.out.trans (HC.out.2.2.mono HB2.out.size)
          have HQC : Hid (wc.heap[w.heap.size]? = some (.cells #[.slice none 0 0, .slice none 0 0] 40 (0, 0))) := (HC.out.2.2.block _ (lt_of_block HQ2.out)).trans HQ2.out
          have HNEXT : Hid (mP k (e :: rest.drop (i + 1)) taken = mP k (rest.drop (i + 1)) taken → (res = mP k (rest.drop (i + 1)) taken)) := fun h => by rw [HV.out.1, HDR.out, h]
          by_cases h1 : e.n < 1
          · have HNX := Lib.hid (HNEXT.out (mP_skip HM0.out (.inl h1)))
            go_wp2
            go_roundw
            case rel => exact ⟨i + 1, by omega, by go_num, HNX.out, HBC.out, HQC.out⟩
            case measure => simp [intOf] <;> omega
          · by_cases h2 : 2 * k - X < e.n
            · have HNX := Lib.hid (HNEXT.out (mP_skip HM0.out (.inr (.inl (by rw [← HX.out]; exact h2)))))
              go_wp2
              go_roundw
              case rel => exact ⟨i + 1, by omega, by go_num, HNX.out, HBC.out, HQC.out⟩
              case measure => simp [intOf] <;> omega
            · have HTO : Hid (∀ x ∈ taken ++ [e], Ok x ∧ 1 ≤ x.n) := fun x hx => by
                rcases List.mem_append.1 hx with h | h
                · exact HO'.out x h
                · simp at h
                  subst h
                  exact ⟨HOE.out, by omega⟩
              have HLN : Hid (n' + 1 = (taken ++ [e]).length) := by simp only [Hid]; rw [List.length_append, ← HN'.out]; rfl
              have HFI := Lib.hid (fit_any B2 (n' + 1) c2 (taken ++ [e]) wc HLN.out HC.out.2.1 (fun x hx => (HTO.out x hx).1) (by omega) HC.out.1)
              have h2' : ¬ 2 * k - X < e.n := h2
              go_wp2_with fail
              refine HFI.out.mono ?_
              rintro r w4 ⟨⟨t, rfl, ht⟩, hb⟩
              have HT := Lib.hid ht
              have HB4 := Lib.hid hb
              have HBD : Hid (Below w.heap.size w w4) := HBC.out.trans (hb.mono HBC.out.size)
              have HQD : Hid (w4.heap[w.heap.size]? = some (.cells #[.slice none 0 0, .slice none 0 0] 40 (0, 0))) := (hb.block _ (lt_of_block HQC.out)).trans HQC.out
              clear ht hb
              cases t
              · have HNX := Lib.hid (HNEXT.out (mP_skip HM0.out (.inr (.inr (fun h => by have := HT.out.2 h; cases this)))))
                go_wp2
                go_roundw
                case rel => exact ⟨i + 1, by omega, by go_num, HNX.out, HBD.out, HQD.out⟩
                case measure => simp [intOf] <;> omega
              · have HNB : Hid (¬ (e.n < 1 ∨ 2 * k - sumN taken < e.n ∨ ¬ Fit (taken ++ [e]))) := by
                  rintro (h | h | h)
                  · omega
                  · rw [← HX.out] at h; omega
                  · exact h (HT.out.1 rfl)
                have HSM : Hid (sumN (taken ++ [e]) ≤ 2 * k) := by simp only [Hid]; rw [sumN_snoc, ← HX.out]; omega
                obtain ⟨A2, hA2, hA2'⟩ := HSB.out (i + 1) (by omega)
                have hpush : (((i + 1 : Nat) : Int)) = (i : Int) + 1 := by push_cast; rfl
                rw [hpush] at hA2
                have HA2 := Lib.hid hA2'
                have HES2 : Hid (Es w w.heap.size A2 (rest.drop (i + 1))) := HE.out.drop (i + 1) (fun hlr2 b o hb => HA2.out (by have := HN.out; omega) b o hb)
                clear hA2' hpush
                have HIHC := Lib.hid (HIH.out (rest.drop (i + 1)) (taken ++ [e]) A2 (n - (i + 1)) (c - (i + 1)) B2 (n' + 1) c2 w4 (by rw [List.length_drop]; have := HN.out; omega) (by rw [List.length_drop, ← HN.out]) HLN.out (HES2.out.later HBD.out (Nat.le_refl _)) (HC.out.2.1.later HB4.out (Nat.le_refl _)) (by omega) HC.out.1 (fun x hx => HO.out x (List.mem_of_mem_drop hx)) HTO.out HSM.out (by omega))
                go_wp2_with fail
                refine HIHC.out.mono ?_
                rintro r w5 ⟨⟨v, rfl, hS⟩, hb⟩
                have HLO : Hid (w.heap.size < w4.heap.size) := lt_of_block HQD.out
                have HBE : Hid (Below w.heap.size w w5) := HBD.out.trans (hb.mono HBD.out.size)
                have HQE : Hid (w5.heap[w.heap.size]? = some (.cells #[.slice none 0 0, .slice none 0 0] 40 (0, 0))) := (hb.block _ (lt_of_block HQD.out)).trans HQD.out
                clear hb hA2
                obtain ⟨o2, ho2⟩ : ∃ o2, o2 = mP k (rest.drop (i + 1)) (taken ++ [e]) := ⟨_, rfl⟩
                rw [← ho2] at hS
                have HO2 := Lib.hid ho2
                clear ho2
                obtain ⟨A1, c1, A2, c2, rfl, hz1, hz2, hz3, hz4⟩ := hS
                obtain ⟨l1, hl1⟩ : ∃ l1, l1 = (o2.getD ([], [])).1 := ⟨_, rfl⟩
                obtain ⟨l2, hl2⟩ : ∃ l2, l2 = (o2.getD ([], [])).2 := ⟨_, rfl⟩
                rw [← hl1, ← hl2]
                rw [← hl1] at hz1
                rw [← hl2] at hz2
                cases o2 with
                | none =>
                  have HNX := Lib.hid (HNEXT.out (mP_none HM0.out HNB.out HO2.out.symm))
                  have HBF : Hid (Below w.heap.size w (w5.alloc (.cells #[.slice A1 l1.length c1, .slice A2 l2.length c2] 40))) := HBE.out.alloc HBE.out.size _
                  have HQF : Hid ((w5.alloc (.cells #[.slice A1 l1.length c1, .slice A2 l2.length c2] 40)).heap[w.heap.size]? = some (.cells #[.slice none 0 0, .slice none 0 0] 40 (0, 0))) := (Below.heap_alloc _ _ _ (lt_of_block HQE.out)).trans HQE.out
                  clear hl1 hl2 hz1 hz2 hz3 hz4
                  go_wp2
                  go_roundw
                  case rel => exact ⟨i + 1, by omega, by go_num, HNX.out, HBF.out, HQF.out⟩
                  case measure => simp [intOf] <;> omega
                | some s2 =>
                  have HRR : Hid (res = some s2) := by simp only [Hid]; rw [HV.out.1, HDR.out]; exact mP_some HM0.out HNB.out HO2.out.symm
                  have HS : Hid (Spl w5 w4.heap.size (.tuple #[.agg #[.slice A1 l1.length c1, .slice A2 l2.length c2], .bool true]) (some s2)) := ⟨A1, c1, A2, c2, by rw [hl1, hl2]; rfl, by rw [← hl1]; exact hz1, by rw [← hl2]; exact hz2, hz3, hz4⟩
                  obtain ⟨w6, hw6⟩ : ∃ w6, w6 = w5.alloc (.cells #[.slice A1 l1.length c1, .slice A2 l2.length c2] 40) := ⟨_, rfl⟩
                  have hb6 : Below w5.heap.size w5 w6 := by rw [hw6]; exact (Below.refl _ _).alloc (Nat.le_refl _) _
                  have hq6 : w6.heap[w5.heap.size]? = some (.cells #[.slice A1 l1.length c1, .slice A2 l2.length c2] 40 (0, 0)) := by rw [hw6]; exact heap_alloc_new w5 _
                  have HQ6 : Hid (w6.heap[w.heap.size]? = some (.cells #[.slice none 0 0, .slice none 0 0] 40 (0, 0))) := (hb6.block _ (lt_of_block HQE.out)).trans HQE.out
                  have HB6 : Hid (Below w.heap.size w w6) := HBE.out.trans (hb6.mono HBE.out.size)
                  have HS6 := Lib.hid (And.intro (HS.out.later hb6) HLO.out)
                  have t0 := cell_of_row w6 w5.heap.size 0 _ _ _ hq6
                  have t1 := cell_of_row w6 w5.heap.size 1 _ _ _ hq6
                  simp at t0 t1
                  have H6 := Lib.hid hw6
                  clear hl1 hl2 hz1 hz2 hz3 hz4 hw6 hb6 hq6 HS
                  go_upto_region 10 with (fail)
                  rw [← H6.out]
                  have zf : ∀ i, w6.frozen? ⟨w.heap.size, i, none⟩ = false := fun i => frozen_of_row w6 _ i _ _ HQ6.out
                  have z0 := cell_of_row w6 w.heap.size 0 _ _ _ HQ6.out
                  have z1 := cell_of_row w6 w.heap.size 1 _ _ _ HQ6.out
                  simp at z0 z1
                  have hT := two (.slice A1 l1.length c1) (.slice A2 l2.length c2) HQ6.out
                  have HBB := Lib.hid ((HB6.out.setCell (p := ⟨w.heap.size, 0, none⟩) (Nat.le_refl _) (.slice A1 l1.length c1)).setCell (p := ⟨w.heap.size, 1, none⟩) (Nat.le_refl _) (.slice A2 l2.length c2))
                  have e0 := cell_of_row _ w.heap.size 0 _ _ _ hT
                  have e1 := cell_of_row _ w.heap.size 1 _ _ _ hT
                  simp at e0 e1
                  have HZ := Lib.hid (And.intro e0 e1)
                  clear hT e0 e1
                  go_wp2
                  obtain ⟨e0, e1⟩ := HZ.out
                  exact bodyPost_ret (v := .tuple #[.agg #[.slice A1 l1.length c1, .slice A2 l2.length c2], .bool true]) (by simp [results, Try.results35, go_sem, e0, e1]) rfl ⟨⟨_, rfl, by rw [HRR.out]; exact ((HS6.out.1.set HS6.out.2).set HS6.out.2).lo (Nat.le_of_lt HS6.out.2)⟩, HBB.out⟩
      · have hkn : i = n := by omega
        subst hkn
        have HRR : Hid (res = none) := by
          simp only [Hid]
          rw [HV.out.1, List.drop_of_length_le (by rw [← HN.out]; exact Nat.le_refl _)]
          exact mP_nil HM0.out
        have HB2 := Lib.hid HV.out.2.1
        have HQ2 := Lib.hid HV.out.2.2
        have zf : ∀ i, wr.frozen? ⟨w.heap.size, i, none⟩ = false := fun i => frozen_of_row wr _ i _ _ HQ2.out
        have z0 := cell_of_row wr w.heap.size 0 _ _ _ HQ2.out
        have z1 := cell_of_row wr w.heap.size 1 _ _ _ HQ2.out
        simp at z0 z1
        have hT := two (.slice none 0 0) (.slice none 0 0) HQ2.out
        have HBB := Lib.hid ((HB2.out.setCell (p := ⟨w.heap.size, 0, none⟩) (Nat.le_refl _) (.slice none 0 0)).setCell (p := ⟨w.heap.size, 1, none⟩) (Nat.le_refl _) (.slice none 0 0))
        have e0 := cell_of_row _ w.heap.size 0 _ _ _ hT
        have e1 := cell_of_row _ w.heap.size 1 _ _ _ hT
        simp at e0 e1
        have HZ := Lib.hid (And.intro e0 e1)
        clear hT e0 e1
        go_wp2
        obtain ⟨e0, e1⟩ := HZ.out
        exact bodyPost_ret (v := .tuple #[.agg #[.slice none 0 0, .slice none 0 0], .bool false]) (by simp [results, Try.results35, go_sem, e0, e1]) rfl ⟨⟨_, rfl, by rw [HRR.out]; exact spl_none _ _⟩, HBB.out⟩
theorem match_any (k : Int) (hk : 1 ≤ k ∧ k ≤ 4) : ∀ (N : Nat) (rest taken : List En) (A : Option Addr) (n c : Nat) (A' : Option Addr) (n' c' : Nat) (w : World), rest.length < N → n = rest.length → n' = taken.length → Es w w.heap.size A rest → Es w w.heap.size A' taken → n ≤ c → n' ≤ c' → (∀ e ∈ rest, Ok e) → (∀ e ∈ taken, Ok e ∧ 1 ≤ e.n) → sumN taken ≤ 2 * k → n ≤ 100 →
      Calls Try.prog 35 #[.int .i64 k, .slice A n c, .slice A' n' c'] w fun r w' => (∃ v, r = .returned v ∧ Spl w' w.heap.size v (mP k rest taken)) ∧ Below w.heap.size w w' := by
  intro N
  induction N with
  | zero => intro rest taken A n c A' n' c' w h; omega
  | succ N ih =>
    intro rest taken A n c A' n' c' w h h1 h2 h3 h4 h5 h6 h7 h8 h9 h10
    exact match_step k hk rest taken A n c A' n' c' w (fun rest' taken' A n c A' n' c' w g => ih rest' taken' A n c A' n' c' w (by omega)) h1 h2 h3 h4 h5 h6 h7 h8 h9 h10
end Go.Proofs.Ytnloikdfbdpilaa
