/- Party: the document's invite, a new party. -/
import Derived.Test.YtjlpmdokmfmdiaaDI
namespace Go.Proofs.Ytjlpmdokmfmdiaa.P
open Go.RowKit
set_option maxRecDepth 20000
set_option linter.unusedVariables false
set_option linter.unusedSimpArgs false

set_option maxHeartbeats 16000000 in
theorem dinvite_none (R : Nat) (vi : Value) (A : Option Addr) (n c : Nat) (L : List Pt) (most : Int) (a p : Nat) (w : World) (h : Dd w R vi A n L) (hI : Inv L) (hl : n ≤ 100) (ha : okI a) (hp : okI p) (hap : ¬ a = p) (hg : getP L (ofP L a) = none) :
    Calls Try.prog 53 #[.slice A n c, .int .i64 most, .int .u32 (a : Int), .int .u32 (p : Int)] w fun r w' => DP4 R vi (if most ≤ (L.length : Int) then (L, 0, 10) else (insL L ⟨lst L, a, [a], [p]⟩, lst L, 0)) w r w' := by
  have HD := Lib.hid h
  have HI := Lib.hid hI
  have HL := Lib.hid hl
  have HRA := Lib.hid (dright_t a w ha)
  have HRB := Lib.hid (dright_t p w hp)
  have hap' : ¬ ((a : Int) = (p : Int)) := by omega
  have HOF := Lib.hid (dof_any R vi A n c L a w h.n h.dr hl (fun e he => by have := (hI.each e he).four; omega))
  obtain ⟨x0, hx0⟩ : ∃ x, x = ofP L a := ⟨_, rfl⟩
  rw [← hx0] at HOF hg
  have HG := Lib.hid (dget_none R vi A n c L x0 w h.n h.dr hl hg)
  have HN : Hid (n = L.length) := h.n
  clear hx0 hg h hI hl ha hp hap
  by_cases hmo : most ≤ (L.length : Int)
  · rw [if_pos hmo]
    have hmn : most ≤ (n : Int) := by rw [HN.out]; exact hmo
    clear hmo
    go_enter Try.func53, Try.ntmps53
    go_wp2_with fail
    refine HRA.out.mono ?_
    rintro r wq ⟨rfl, hw⟩
    have hw := hw.symm
    subst hw
    go_wp2_with fail
    refine HRB.out.mono ?_
    rintro r wq ⟨rfl, hw⟩
    have hw := hw.symm
    subst hw
    go_wp2_with fail
    refine HOF.out.mono ?_
    rintro r wq ⟨rfl, hw⟩
    have hw := hw.symm
    subst hw
    go_wp2_with fail
    refine HG.out.mono ?_
    rintro r w1 ⟨rfl, hb⟩
    obtain ⟨G, hG⟩ : ∃ G, G = w1.heap.size := ⟨_, rfl⟩
    obtain ⟨w3, hw3⟩ : ∃ W, W = w1.alloc (.cells #[.int .u32 0, .int .u32 0, .slice none 0 0, .slice none 0 0] 124) := ⟨_, rfl⟩
    have hq : w3.heap[G]? = some (.cells #[.int .u32 0, .int .u32 0, .slice none 0 0, .slice none 0 0] 124 (0, 0)) := by rw [hw3, hG]; exact heap_alloc_new w1 _
    have hb3 : Below w1.heap.size w1 w3 := by rw [hw3]; exact (Below.refl _ _).alloc (Nat.le_refl _) _
    have HW3 : Hid (Below w.heap.size w w3 ∧ w3.heap[G]? = some (.cells #[.int .u32 0, .int .u32 0, .slice none 0 0, .slice none 0 0] 124 (0, 0))) := ⟨hb.trans (hb3.mono hb.size), hq⟩
    have HGW : Hid (w.heap.size ≤ G) := by have := hb.size; simp only [Hid]; omega
    have HGW3 : Hid (G < w3.heap.size) := lt_of_block hq
    have H3 := Lib.hid hw3
    have HGG := Lib.hid hG
    clear hw3 hG hq hb3 hb
    go_upto_region 6 with (fail)
    try (rw [← H3.out, ← HGG.out])
    have HFIN : Hid (DP4 R vi (L, 0, 10) w (.returned (.tuple #[.slice A n c, .int .u32 0, .int .i64 10])) w3) := ⟨_, _, _, rfl, HD.out.after HW3.out.1, HW3.out.1⟩
    go_wp2
    exact bodyPost_ret (v := .tuple #[.slice A n c, .int .u32 0, .int .i64 10]) (by simp [results, Try.results53, go_sem]) rfl HFIN.out
  · rw [if_neg hmo]
    have hmn : ¬ (most ≤ (n : Int)) := by rw [HN.out]; exact hmo
    obtain ⟨x, hx⟩ : ∃ x, x = lst L := ⟨_, rfl⟩
    rw [← hx]
    have HX := Lib.hid hx
    clear hmo hx
    go_enter Try.func53, Try.ntmps53
    go_wp2_with fail
    refine HRA.out.mono ?_
    rintro r wq ⟨rfl, hw⟩
    have hw := hw.symm
    subst hw
    go_wp2_with fail
    refine HRB.out.mono ?_
    rintro r wq ⟨rfl, hw⟩
    have hw := hw.symm
    subst hw
    go_wp2_with fail
    refine HOF.out.mono ?_
    rintro r wq ⟨rfl, hw⟩
    have hw := hw.symm
    subst hw
    go_wp2_with fail
    refine HG.out.mono ?_
    rintro r w1 ⟨rfl, hb⟩
    obtain ⟨G, hG⟩ : ∃ G, G = w1.heap.size := ⟨_, rfl⟩
    obtain ⟨w3, hw3⟩ : ∃ W, W = w1.alloc (.cells #[.int .u32 0, .int .u32 0, .slice none 0 0, .slice none 0 0] 124) := ⟨_, rfl⟩
    have hq : w3.heap[G]? = some (.cells #[.int .u32 0, .int .u32 0, .slice none 0 0, .slice none 0 0] 124 (0, 0)) := by rw [hw3, hG]; exact heap_alloc_new w1 _
    have hb3 : Below w1.heap.size w1 w3 := by rw [hw3]; exact (Below.refl _ _).alloc (Nat.le_refl _) _
    have HW3 : Hid (Below w.heap.size w w3 ∧ w3.heap[G]? = some (.cells #[.int .u32 0, .int .u32 0, .slice none 0 0, .slice none 0 0] 124 (0, 0))) := ⟨hb.trans (hb3.mono hb.size), hq⟩
    have HGW : Hid (w.heap.size ≤ G) := by have := hb.size; simp only [Hid]; omega
    have HGW3 : Hid (G < w3.heap.size) := lt_of_block hq
    have H3 := Lib.hid hw3
    have HGG := Lib.hid hG
    clear hw3 hG hq hb3 hb
    go_upto_region 6 with (fail)
    try (rw [← H3.out, ← HGG.out])
    have HB0 : Hid (Below w3.heap.size w3 w3) := Below.refl _ _
    go_wp2_with fail
    go_loopw [13] (fun u wr => ∃ k : Nat, 1 ≤ k ∧ k ≤ n + 1 ∧ u = .int .u32 (k : Int) ∧ Hid (∀ y : Nat, 1 ≤ y → y < k → y ∈ L.map (·.id)) ∧ Hid (Below w3.heap.size w3 wr)) (fun u _ => n + 2 - (intOf u).toNat)
    case atStart => exact ⟨1, by omega, by omega, rfl, (by intro y h1 h2; omega), HB0.out⟩
    case round =>
      obtain ⟨k, hk1, hk, rfl, HV, HB⟩ := hrel
      have HBW3 : Hid (Below w.heap.size w wr) := HW3.out.1.trans (HB.out.mono HW3.out.1.size)
      have HID := Lib.hid (dids_any R vi A n c L wr HN.out (HD.out.dr.after HBW3.out) HL.out)
      go_wp2_with fail
      refine HID.out.mono ?_
      rintro r w5 ⟨A5, c5, rfl, ho5, hb5⟩
      have HH := Lib.hid (has_any A5 n c5 (L.map (·.id)) k w5 (Rn.of_own ho5).1 (Rn.of_own ho5).2 (by have := HL.out; omega))
      have HB5 : Hid (Below w3.heap.size w3 w5) := HB.out.trans (hb5.mono HB.out.size)
      clear ho5 hb5 HBW3 HID
      by_cases hkm : k ∈ L.map (·.id)
      · rw [decide_eq_true hkm] at HH
        have HV2 : Hid (∀ y : Nat, 1 ≤ y → y < k + 1 → y ∈ L.map (·.id)) := fun y h1 h2 => by
          by_cases hyk : y = k
          · rw [hyk]; exact hkm
          · exact HV.out y h1 (by omega)
        have hkn : k ≤ n := by
          have hbl := below_len (k := k) (fun y h1 h2 => HV2.out y h1 (by omega))
          rw [List.length_map, ← HN.out] at hbl
          exact hbl
        clear hkm
        go_wp2_with fail
        refine HH.out.mono ?_
        rintro r wq ⟨rfl, hw⟩
        have hw := hw.symm
        subst hw
        have hln : n ≤ 100 := HL.out
        go_wp2
        go_roundw
        case rel => exact ⟨k + 1, by omega, by omega, by go_num, HV2.out, HB5.out⟩
        case measure => simp [intOf] <;> omega
      · rw [decide_eq_false hkm] at HH
        have hfr : Fr (L.map (·.id)) k := ⟨hk1, by rw [List.length_map, ← HN.out]; exact hk, hkm, HV.out⟩
        obtain rfl : k = x := by rw [HX.out]; exact fr_lst hfr
        have HEQ : Hid (putS L ⟨k, a, [a], [p]⟩ = insL L ⟨k, a, [a], [p]⟩) := new_eq.1
        have HTF : Hid (overB ⟨k, a, [a], [p]⟩ = false) := (new_eq (L := L)).2
        obtain ⟨K, hK⟩ : ∃ K, K = w5.heap.size := ⟨_, rfl⟩
        have hbk : Below w5.heap.size w5 (w5.alloc (.cells #[.int .u32 (a : Int)] 26)) := (Below.refl _ _).alloc (Nat.le_refl _) _
        have hq5 := (hbk.block _ (Nat.lt_of_lt_of_le HGW3.out HB5.out.size)).trans ((HB5.out.block _ HGW3.out).trans HW3.out.2)
        have hqa : (w5.alloc (.cells #[.int .u32 (a : Int)] 26)).heap[K]? = some (.cells #[.int .u32 (a : Int)] 26 (0, 0)) := by rw [hK]; exact heap_alloc_new w5 _
        have HKG : Hid (G < K ∧ w3.heap.size ≤ K) := by have h1 := HGW3.out; have h2 := HB5.out.size; exact ⟨by omega, by omega⟩
        have HBK : Hid (Below w3.heap.size w3 (w5.alloc (.cells #[.int .u32 (a : Int)] 26))) := HB5.out.trans (hbk.mono HB5.out.size)
        have z0 := cell_of_row _ G 0 _ _ _ hq5
        have z1 := cell_of_row _ G 1 _ _ _ hq5
        have z2 := cell_of_row _ G 2 _ _ _ hq5
        have z3 := cell_of_row _ G 3 _ _ _ hq5
        simp at z0 z1 z2 z3
        have yf : ∀ i, (w5.alloc (.cells #[.int .u32 (a : Int)] 26)).frozen? ⟨G, i, none⟩ = false := fun i => frozen_of_row _ _ i _ _ hq5
        have HQ5 := Lib.hid hq5
        have HQA := Lib.hid hqa
        have HKE := Lib.hid hK
        clear hbk hqa hK
        clear hkm hfr hq5
        go_wp2_with fail
        refine HH.out.mono ?_
        rintro r wq ⟨rfl, hw⟩
        have hw := hw.symm
        subst hw
        go_upto_region 19 with (fail)
        rw [← HKE.out]
        obtain ⟨w5a, hw5a⟩ : ∃ W, W = w5.alloc (.cells #[.int .u32 (a : Int)] 26) := ⟨_, rfl⟩
        rw [← hw5a]
        rw [← hw5a] at HQ5 HQA HBK
        obtain ⟨wS, hwS⟩ : ∃ W, W = (((w5a.setCell ⟨G, 0, none⟩ (.int .u32 (k : Int))).setCell ⟨G, 1, none⟩ (.int .u32 (a : Int))).setCell ⟨G, 2, none⟩ (.slice (some ⟨K, 0, none⟩) 1 1)).setCell ⟨G, 3, none⟩ (.slice none 0 0) := ⟨_, rfl⟩
        rw [← hwS]
        clear z0 z1 z2 z3 yf hw5a
        have HQN : Hid (wS.heap[G]? = some (.cells #[.int .u32 (k : Int), .int .u32 (a : Int), .slice (some ⟨K, 0, none⟩) 1 1, .slice none 0 0] 124 (0, 0))) := by simp only [Hid]; rw [hwS]; exact four_row _ _ _ _ HQ5.out
        have HFN : Hid (Fl wS R vi ⟨none, 0, 0⟩ []) := ⟨rfl, fun hl => absurd hl (by simp)⟩
        have HBS : Hid (Below w.heap.size w wS) := by simp only [Hid]; rw [hwS]; exact four_below _ _ _ _ (HW3.out.1.trans (HBK.out.mono HW3.out.1.size)) HGW.out
        have HFA1 : Hid (Fl wS R vi ⟨some ⟨K, 0, none⟩, 1, 1⟩ [a]) := by
          have hqs : wS.heap[K]? = some (.cells #[.int .u32 (a : Int)] 26 (0, 0)) := by rw [hwS]; exact (four_other _ _ _ _ (by have := HKG.out.1; omega)).trans HQA.out
          refine ⟨rfl, fun _ => ⟨K, 0, rfl, ?_, fun e => ?_, ⟨_, hqs⟩, fun j y hj => ?_⟩⟩
          · have h1 := HD.out.ctx.1; have h2 := HW3.out.1.size; have h3 := HKG.out.2; omega
          · have h1 := HD.out.ctx.2 K e; have h2 := HW3.out.1.size; have h3 := HKG.out.2; omega
          · rcases j with _ | j
            · simp at hj
              subst hj
              exact cell_of_row wS K 0 _ _ _ hqs
            · simp at hj
        have z3 := cell_of_row wS G 3 _ _ _ HQN.out
        simp at z3
        clear hwS
        obtain ⟨we, hwe⟩ : ∃ we, we = wS.alloc (.cells #[] 26) := ⟨_, rfl⟩
        have hbe : Below wS.heap.size wS we := by rw [hwe]; exact (Below.refl _ _).alloc (Nat.le_refl _) _
        have hoe : we.ownsRow wS.heap.size 26 1 (.slice (some ⟨wS.heap.size, 0, none⟩) 0 0) 0 [] := ⟨rfl, .inr ⟨wS.heap.size, 0, #[], rfl, Nat.le_refl _, by rw [hwe]; exact heap_alloc_new wS _, Nat.le_refl _, Nat.zero_le _, rfl, rfl⟩⟩
        obtain ⟨v1, w1e, hr1, ho1, hg1⟩ := app_rn we wS.heap.size 34 0 _ [] hoe none 0 0 [] (HFN.out).1 (((HFN.out).after hbe).rn) (by omega) hbe.size
        rw [Nat.zero_add, List.nil_append] at ho1
        obtain ⟨A1e, c1e, rfl⟩ := own_form1 ho1
        have HO1 := Lib.hid ho1
        have HB1e : Hid (Below wS.heap.size wS w1e) := hbe.grown hg1 hbe.size (fun k hk => by have e : wS.heap.size = k := Option.some.inj hk; omega)
        have HSN : Hid (0 ≤ 4) := by simp only [Hid]; omega
        have HQS := Lib.hid HQN.out
        have HCS := Lib.hid (HD.out.ctx.size HBS.out.size)
        have ze := cell_of_row _ G 3 _ _ _ ((hbe.block _ (lt_of_block HQS.out)).trans HQS.out)
        simp at ze
        rw [hwe] at ze hr1
        clear ho1 hg1 hbe hoe hwe
        go_upto_region 20 with (first
          | (at_builtin; refine Lib.wpList_append_run _ rfl _ _ _ _ rfl _ _ rfl rfl _ _ hr1 ?_; clear hr1 ze)
          | (at_builtin; refine wpList_append_u32 rfl _ _ rfl wS.heap.size w1e.heap.size (.slice A1e 0 c1e) 0 _ p rfl rfl (HO1.out.alloc _) (heap_alloc_new _ _) (by have := HSN.out; omega) (by have := HB1e.out.size; simp; omega) ?_; intro v7 w7 hown7 hg7; obtain ⟨A8, c8, rfl⟩ := own_form1 hown7; have HO7 := Lib.hid hown7; have HB7 : Hid (Below wS.heap.size wS w7) := (HB1e.out.alloc HB1e.out.size _).grown hg7 (by have := HB1e.out.size; simp; omega) (fun g h => (ownlt HO1.out g h).1); clear hown7 hg7; have y2 := cell_of_row _ G 3 _ _ _ ((HB7.out.block _ (lt_of_block HQS.out)).trans HQS.out); simp at y2; have yf : ∀ i, w7.frozen? ⟨G, i, none⟩ = false := fun i => frozen_of_row _ _ i _ _ ((HB7.out.block _ (lt_of_block HQS.out)).trans HQS.out)))
        obtain ⟨w8, hw8⟩ : ∃ w8, w8 = w7.setCell ⟨G, 3, none⟩ (.slice A8 1 c8) := ⟨_, rfl⟩
        have hq7 := (HB7.out.block _ (lt_of_block HQS.out)).trans HQS.out
        have hq8 : w8.heap[G]? = some (.cells #[.int .u32 (k : Int), .int .u32 (a : Int), .slice (some ⟨K, 0, none⟩) 1 1, .slice A8 1 c8] 124 (0, 0)) := by rw [hw8]; exact heap_setCell_same _ G 3 _ 124 _ hq7
        have ho8 : ∀ k, k ≠ G → w8.heap[k]? = w7.heap[k]? := fun k hk => by rw [hw8]; exact Below.heap_setCell _ _ _ _ hk
        have f8 : Fl w8 R vi ⟨A8, 0 + 1, c8⟩ ([] ++ [p]) := fl_oth (Fl.fresh HCS.out (Nat.le_refl _) (by rw [un_snoc]; exact HO7.out)) ho8 (drow hq7)
        have hB8 : Below w.heap.size w w8 := by rw [hw8]; exact (HBS.out.trans (HB7.out.mono HBS.out.size)).setCell HGW.out _
        have g8 : Fl w8 R vi ⟨some ⟨K, 0, none⟩, 1, 1⟩ [a] := fl_oth (HFA1.out.after HB7.out) ho8 (drow hq7)
        have x0 := cell_of_row _ G 0 _ _ _ hq8
        have x1 := cell_of_row _ G 1 _ _ _ hq8
        have x2 := cell_of_row _ G 2 _ _ _ hq8
        have x3 := cell_of_row _ G 3 _ _ _ hq8
        simp at x0 x1 x2 x3
        have HPT : Hid (Calls Try.prog 119 #[.slice A n c, .agg #[.int .u32 (k : Int), .int .u32 (a : Int), .slice (some ⟨K, 0, none⟩) 1 1, .slice A8 1 c8]] w8 fun r w' => DPutP R vi (insL L ⟨k, a, [a], [p]⟩) false w8 r w') := by
          have hh := dput_any R vi A n c L ⟨k, a, [a], [p]⟩ (⟨some ⟨K, 0, none⟩, 1, 1⟩) (⟨A8, 1, c8⟩) w8 (HD.out.ctx.size (hB8).size) HD.out.n (HD.out.dr.after hB8) HL.out HI.out.ris g8 f8 (by show ([a]).length ≤ 100 ∧ ([p]).length ≤ 100; simp)
          dsimp only at hh
          rw [HEQ.out, HTF.out] at hh
          exact hh
        have HBW := Lib.hid (hB8)
        have HW8 := Lib.hid hw8
        have HQ8 := Lib.hid hq8
        clear hw8 hq7 hq8 ho8 hB8 f8 g8
        rw [← HW8.out]
        clear y2 yf
        go_wp2_with fail
        refine HPT.out.mono ?_
        rintro r w9 ⟨A9, n9, c9, rfl, hn9, hd9, hb9⟩
        have HC9 : Hid (∀ W, Below w9.heap.size w9 W → W.cell? ⟨G, 0, none⟩ = some (.int .u32 (k : Int))) := fun W hW => cell_of_row W G 0 _ _ _ ((hW.block _ (Nat.lt_of_lt_of_le (lt_of_block HQ8.out) hb9.size)).trans ((hb9.block _ (lt_of_block HQ8.out)).trans HQ8.out))
        have HFIN2 : Hid (∀ W, Below w9.heap.size w9 W → DP4 R vi (insL L ⟨k, a, [a], [p]⟩, k, 0) w (.returned (.tuple #[.slice A9 n9 c9, .int .u32 (k : Int), .int .i64 0])) W) := fun W hW => ⟨_, _, _, rfl, ⟨hn9, hd9.after hW, ((HD.out.ctx.size HBW.out.size).size hb9.size).size hW.size⟩, (HBW.out.trans (hb9.mono HBW.out.size)).trans (hW.mono (Nat.le_trans HBW.out.size hb9.size))⟩
        have HBB9 : Hid (Below w9.heap.size w9 w9) := Below.refl _ _
        clear x0 x1 x2 x3
        clear hn9 hd9 hb9
        go_upto_region 21 with (fail)
        have HDk : Hid (Below w9.heap.size w9 w9.drew) := HBB9.out.drew
        refine wp_region_held_drew (S := fun W : World => W.cell? ⟨G, 0, none⟩ = some (.int .u32 (k : Int))) (by kernel_rfl) (HC9.out _ (HDk.out)) (fun hHeld => ?_)
        obtain ⟨Wk0, hW0⟩ : ∃ W0, W0 = w9.drew := ⟨_, rfl⟩
        rw [← hW0] at hHeld HDk ⊢
        clear hW0
        refine wpAnyH_take (i := 0) (oi := ?oi0k) (v := ?v0k) ?hi0k ?hs0k ?hf0k ?hr0k ?hQ0k ?hy0k ?hS0k ?h0k
        case hi0k => exact (by simp only [List.getElem?_toArray, List.getElem?_cons_zero]; rfl)
        case hs0k => kernel_rfl
        case hf0k => kernel_rfl
        case hr0k => kernel_rfl
        case hQ0k => exact fun _ _ _ h => h
        case hy0k =>
          refine Or.inl ⟨rfl, ?_⟩
          intro W hSw
          go_simp
          try with_reducible rfl
        case hS0k => assumption
        try simp only [Act.put, List.setIfInBounds_toArray, List.set_cons_zero, List.set_cons_succ]
        refine wpAnyH_take (i := 1) (oi := ?oi1k) (v := ?v1k) ?hi1k ?hs1k ?hf1k ?hr1k ?hQ1k ?hy1k ?hS1k ?h1k
        case hi1k => exact (by simp only [List.getElem?_toArray, List.getElem?_cons_succ, List.getElem?_cons_zero]; rfl)
        case hs1k => kernel_rfl
        case hf1k => kernel_rfl
        case hr1k => kernel_rfl
        case hQ1k => exact fun _ _ _ h => h
        case hy1k =>
          refine Or.inl ⟨rfl, ?_⟩
          intro W hSw
          go_simp
          try with_reducible rfl
        case hS1k => assumption
        try simp only [Act.put, List.setIfInBounds_toArray, List.set_cons_zero, List.set_cons_succ]
        refine wpAnyH_take (i := 2) (oi := ?oi2k) (v := ?v2k) ?hi2k ?hs2k ?hf2k ?hr2k ?hQ2k ?hy2k ?hS2k ?h2k
        case hi2k => exact (by simp only [List.getElem?_toArray, List.getElem?_cons_succ, List.getElem?_cons_zero]; rfl)
        case hs2k => kernel_rfl
        case hf2k => kernel_rfl
        case hr2k => kernel_rfl
        case hQ2k => exact fun _ _ _ h => h
        case hy2k =>
          refine Or.inl ⟨rfl, ?_⟩
          intro W hSw
          go_simp
          try with_reducible rfl
        case hS2k => assumption
        try simp only [Act.put, List.setIfInBounds_toArray, List.set_cons_zero, List.set_cons_succ]
        refine wpAnyH_take (i := 3) (oi := ?oi3k) (v := ?v3k) ?hi3k ?hs3k ?hf3k ?hr3k ?hQ3k ?hy3k ?hS3k ?h3k
        case hi3k => exact (by simp only [List.getElem?_toArray, List.getElem?_cons_succ, List.getElem?_cons_zero]; rfl)
        case hs3k => kernel_rfl
        case hf3k => kernel_rfl
        case hr3k => kernel_rfl
        case hQ3k => exact fun _ _ _ h => h
        case hy3k =>
          refine Or.inl ⟨rfl, ?_⟩
          intro W hSw
          go_simp
          try with_reducible rfl
        case hS3k => assumption
        try simp only [Act.put, List.setIfInBounds_toArray, List.set_cons_zero, List.set_cons_succ]
        refine wpAnyH_take (i := 4) (oi := ?oi4k) (v := ?v4k) ?hi4k ?hs4k ?hf4k ?hr4k ?hQ4k ?hy4k ?hS4k ?h4k
        case hi4k => exact (by simp only [List.getElem?_toArray, List.getElem?_cons_succ, List.getElem?_cons_zero]; rfl)
        case hs4k => kernel_rfl
        case hf4k => kernel_rfl
        case hr4k => kernel_rfl
        case hQ4k => exact fun _ _ _ h => h
        case hy4k =>
          refine Or.inl ⟨rfl, ?_⟩
          intro W hSw
          go_simp
          try with_reducible rfl
        case hS4k => assumption
        try simp only [Act.put, List.setIfInBounds_toArray, List.set_cons_zero, List.set_cons_succ]
        refine wpAnyH_take (i := 5) (oi := ?oi5k) (v := ?v5k) ?hi5k ?hs5k ?hf5k ?hr5k ?hQ5k ?hy5k ?hS5k ?h5k
        case hi5k => exact (by simp only [List.getElem?_toArray, List.getElem?_cons_succ, List.getElem?_cons_zero]; rfl)
        case hs5k => kernel_rfl
        case hf5k => kernel_rfl
        case hr5k => kernel_rfl
        case hQ5k => exact fun _ _ _ h => h
        case hy5k =>
          refine Or.inl ⟨rfl, ?_⟩
          intro W hSw
          go_simp
          try with_reducible rfl
        case hS5k => assumption
        try simp only [Act.put, List.setIfInBounds_toArray, List.set_cons_zero, List.set_cons_succ]
        refine wpAnyH_done (by kernel_rfl) ?_ _
        go_wp2
        exact bodyPost_ret (v := .tuple #[.slice A9 n9 c9, .int .u32 (k : Int), .int .i64 0]) (by simp [results, Try.results53, go_sem]) rfl (HFIN2.out _ HDk.out)
end Go.Proofs.Ytjlpmdokmfmdiaa.P
