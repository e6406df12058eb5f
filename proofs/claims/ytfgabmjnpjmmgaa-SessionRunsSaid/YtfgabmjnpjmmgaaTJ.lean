/- Session: like. -/
import Derived.Test.YtfgabmjnpjmmgaaTI
namespace Go.Proofs.Ytfgabmjnpjmmgaa.T
open Go.RowKit
set_option maxRecDepth 20000
set_option linter.unusedVariables false
set_option linter.unusedSimpArgs false

def LtPost (lst : List Nat) (w : World) (r : Ending) (w' : World) : Prop := ∃ v', r = .returned v' ∧ S32 w' v' lst ∧ Below w.heap.size w w'
theorem S32.after {w w' : World} {v : Value} {l : List Nat} (h : S32 w v l) (hb : Below w.heap.size w w') : S32 w' v l := by
  obtain ⟨A, c, e, h⟩ := h
  refine ⟨A, c, e, fun hl => ?_⟩
  obtain ⟨b, o, e1, e2, e3⟩ := h hl
  exact ⟨b, o, e1, Nat.lt_of_lt_of_le e2 hb.size, fun j x hj => (hb.cell (p := ⟨b, _, none⟩) e2).trans (e3 j x hj)⟩
theorem idleQ_len (idle now : Int) (l : List Lk) : (idleQ idle now l).length ≤ l.length := by unfold idleQ; rw [List.length_map]; exact List.length_filter_le _ _
set_option maxHeartbeats 16000000 in
theorem like_any {B T : Nat} {L : List Lk} (A : Option Addr) (n c x y : Nat) (most most0 idle d now : Int) (w : World) (h : TbL w B T idle most0 L) (hN : Nd L) (hn : n = L.length) (hR : Rs w w.heap.size A L) (hl : n ≤ 100) (hb : inI idle) (hnow : inI now) :
    Calls Try.prog 18 #[.pointer (some ⟨T, 0, none⟩), rV A n c most idle, .agg #[.int .u8 d, .int .u32 (x : Int), .int .u32 (y : Int), .int .i64 now]] w fun r w' => r = .returned (.bool true) ∧ Below w.heap.size w w' := by
  obtain ⟨L1, hL1⟩ : ∃ L1, L1 = L.map Prod.fst := ⟨_, rfl⟩
  obtain ⟨L2, hL2⟩ : ∃ L2, L2 = sortedN (playersQ L) := ⟨_, rfl⟩
  obtain ⟨L3, hL3⟩ : ∃ L3, L3 = idleQ idle now L := ⟨_, rfl⟩
  obtain ⟨w0, hw0⟩ : ∃ w0, w0 = (w.alloc (.cells (rC A n c most idle) 27)).alloc (.cells #[.int .u8 d, .int .u32 (x : Int), .int .u32 (y : Int), .int .i64 now] 30) := ⟨_, rfl⟩
  have hb0 : Below w.heap.size w w0 := by rw [hw0]; exact ((Below.refl _ _).alloc (Nat.le_refl _) _).alloc (by simp) _
  have hq0 : w0.heap[w.heap.size]? = some (.cells (rC A n c most idle) 27 (0, 0)) := by
    rw [hw0]
    exact (Below.heap_alloc _ _ _ (by simp)).trans (heap_alloc_new w _)
  have hv0 : w0.heap[w.heap.size + 1]? = some (.cells #[.int .u8 d, .int .u32 (x : Int), .int .u32 (y : Int), .int .i64 now] 30 (0, 0)) := by
    have h := heap_alloc_new (w.alloc (.cells (rC A n c most idle) 27)) (.cells #[.int .u8 d, .int .u32 (x : Int), .int .u32 (y : Int), .int .i64 now] 30)
    rw [World.size_alloc] at h
    rw [hw0]
    exact h
  have HCE : Hid (∀ W, Below w0.heap.size w0 W → (fun W : World => (W.cell? ⟨w.heap.size, 0, none⟩ = some (.slice A n c) ∧ W.cell? ⟨w.heap.size, 1, none⟩ = some (.int .i64 most) ∧ W.cell? ⟨w.heap.size, 2, none⟩ = some (.int .i64 idle)) ∧ W.cell? ⟨w.heap.size + 1, 1, none⟩ = some (.int .u32 (x : Int)) ∧ W.cell? ⟨w.heap.size + 1, 2, none⟩ = some (.int .u32 (y : Int)) ∧ W.cell? ⟨w.heap.size + 1, 3, none⟩ = some (.int .i64 now)) W) := fun W hW => by
    have e := (hW.block _ (lt_of_block hq0)).trans hq0
    have e' := (hW.block _ (lt_of_block hv0)).trans hv0
    exact ⟨⟨cell_of_row W _ 0 _ _ _ e, cell_of_row W _ 1 _ _ _ e, cell_of_row W _ 2 _ _ _ e⟩, cell_of_row W _ 1 _ _ _ e', cell_of_row W _ 2 _ _ _ e', cell_of_row W _ 3 _ _ _ e'⟩
  have HP : Hid (∀ W, Below w0.heap.size w0 W → TbL W B T idle most0 L) := fun W hW => (h.after hb0).after hW
  have HRR : Hid (∀ W, Below w0.heap.size w0 W → Rs W W.heap.size A L) := fun W hW => ((hR.below hb0).below (hW.mono hb0.size)).mono (Nat.le_trans hb0.size hW.size)
  have hl9 : L.length < 900 := by omega
  have HCO : Hid (∀ W, Below w0.heap.size w0 W → Calls Try.prog 23 #[.pointer (some ⟨T, 0, none⟩)] W (LtPost L1 W)) := fun W hW => by
    rw [hL1]
    exact (conns_any B T idle most0 _ _ W (HP.out W hW) (by simp; omega)).mono fun r w' ⟨v', e, ho, hb⟩ => ⟨v', e, S32.of_own ho, hb⟩
  have HRC : Hid (∀ W, Below w0.heap.size w0 W → Calls Try.prog 36 #[rV A n c most idle] W (LtPost L1 W)) := fun W hW => by
    rw [hL1]
    exact (rconns_any A n c most idle L W hn (HRR.out W hW) hl).mono fun r w' ⟨v', e, ho, hb⟩ => ⟨v', e, S32.of_own ho, hb⟩
  have HPL : Hid (∀ W, Below w0.heap.size w0 W → Calls Try.prog 22 #[.pointer (some ⟨T, 0, none⟩)] W (LtPost L2 W)) := fun W hW => by
    rw [hL2]
    exact (players_any B T idle most0 _ _ W (HP.out W hW) (by simp; omega) (fun y hy => by
      obtain ⟨e, he, rfl⟩ := List.mem_map.1 hy
      have := (hN.2 e he).2.2
      omega)).mono fun r w' ⟨v', e, ho, hb⟩ => ⟨v', e, S32.of_own (by rw [sortedN_len]; rw [zipL] at ho; exact ho), hb⟩
  have HRP : Hid (∀ W, Below w0.heap.size w0 W → Calls Try.prog 37 #[rV A n c most idle] W (LtPost L2 W)) := fun W hW => by
    rw [hL2]
    exact (rplayers_any A n c most idle L W hn (HRR.out W hW) hl hN).mono fun r w' ⟨v', e, ho, hb⟩ => ⟨v', e, S32.of_own (by rw [sortedN_len]; exact ho), hb⟩
  have HID : Hid (∀ W, Below w0.heap.size w0 W → Calls Try.prog 24 #[.pointer (some ⟨T, 0, none⟩), .int .i64 now] W (LtPost L3 W)) := fun W hW => by
    rw [hL3]
    exact (idle_any B T idle most0 _ _ now W (HP.out W hW) (by simp; omega) hb.2 (fun y hy => by
      obtain ⟨e, he, rfl⟩ := List.mem_map.1 hy
      exact (hN.2 e he).2.1)).mono fun r w' ⟨v', e, ho, hb⟩ => ⟨v', e, S32.of_own (by rw [zipL] at ho; exact ho), hb⟩
  have HRI : Hid (∀ W, Below w0.heap.size w0 W → Calls Try.prog 38 #[rV A n c most idle, .int .i64 now] W (LtPost L3 W)) := fun W hW => by
    rw [hL3]
    exact (ridle_any A n c most idle L now W hn (HRR.out W hW) hl (fun e he => (hN.2 e he).2.1) hb hnow).mono fun r w' ⟨v', e, ho, hb⟩ => ⟨v', e, S32.of_own ho, hb⟩
  have HL1 : Hid (L1.length ≤ 1000) := by simp only [Hid]; rw [hL1, List.length_map]; omega
  have HL2 : Hid (L2.length ≤ 1000) := by simp only [Hid]; rw [hL2, sortedN_len]; exact Nat.le_trans (playersQ_len _) (by omega)
  have HL3 : Hid (L3.length ≤ 1000) := by simp only [Hid]; rw [hL3]; exact Nat.le_trans (idleQ_len _ _ _) (by omega)
  have HQ : Hid (∃ q : Int, (∀ W, Below w0.heap.size w0 W → Calls Try.prog 20 #[.pointer (some ⟨T, 0, none⟩), .int .u32 (y : Int)] W fun r w' => r = .returned (.int .u32 q) ∧ Below W.heap.size W w') ∧ ∀ W, Below w0.heap.size w0 W → Calls Try.prog 33 #[rV A n c most idle, .int .u32 (y : Int)] W fun r w' => r = .returned (.int .u32 q) ∧ Below W.heap.size W w') := by
    by_cases hy : y = 0
    · subst hy
      exact ⟨0, fun W hW => connz _ W, fun W hW => rconn_zero A n c most idle L W hn (HRR.out W hW) hl⟩
    · exact ⟨(connQ (y : Int) L : Nat), fun W hW => connL B T idle most0 L (y : Int) W (HP.out W hW) hl9 (by omega), fun W hW => rconn_any A n c most idle L (y : Int) W hn (HRR.out W hW) hl (by omega)⟩
  have HPA : Hid (∀ W, Below w0.heap.size w0 W → ∀ (j : Nat) (s : Nat) (a p : Int), L[j]? = some (s, (a, p)) → Calls Try.prog 21 #[.pointer (some ⟨T, 0, none⟩), .int .u32 (s : Int)] W fun r w' => r = .returned (.int .u32 p) ∧ Below W.heap.size W w') := fun W hW j s a p he => player_at B T idle most0 L j s (a, p) W (HP.out W hW) hN hl9 he
  have HPZ : Hid (∀ W, Below w0.heap.size w0 W → (∀ e ∈ L, e.1 ≠ x) → Calls Try.prog 21 #[.pointer (some ⟨T, 0, none⟩), .int .u32 (x : Int)] W fun r w' => r = .returned (.int .u32 0) ∧ Below W.heap.size W w') := fun W hW hno => player_none B T idle most0 _ _ x W (HP.out W hW) (by simp; omega) (fst_mem hno)
  have HFT : Hid (∀ (j : Nat) y, L[j]? = some (x, y) → ∀ W, Below w0.heap.size w0 W → Calls Try.prog 28 #[rV A n c most idle, .int .u32 (x : Int)] W fun r w' => r = .returned (.int .i64 (j : Int)) ∧ Below W.heap.size W w') := fun j y hj W hW => rfind_there A n c most idle L j x y W hn (HRR.out W hW) hl hj (fun i e h => uni hN.1 hj i e (by omega))
  have HFN : Hid ((∀ e ∈ L, e.1 ≠ x) → ∀ W, Below w0.heap.size w0 W → Calls Try.prog 28 #[rV A n c most idle, .int .u32 (x : Int)] W fun r w' => r = .returned (.int .i64 (-1)) ∧ Below W.heap.size W w') := fun hno W hW => rfind_none A n c most idle L x W hn (HRR.out W hW) hl hno
  have HRW : Hid (∀ (k : Nat) (s : Nat) (a p : Int), L[k]? = some (s, (a, p)) → ∃ b1 o1, A = some ⟨b1, o1, none⟩ ∧ ∀ W, Below w0.heap.size w0 W → W.cell? ⟨b1, o1 + k * 3, none⟩ = some (.int .u32 (s : Int)) ∧ W.cell? ⟨b1, o1 + k * 3 + 1, none⟩ = some (.int .u32 p)) := fun k s a p hk => by
    obtain ⟨b1, o1, e1, hb1, ha1⟩ := hR (by have := (List.getElem?_eq_some_iff.1 hk).1; omega)
    refine ⟨b1, o1, e1, fun W hW => ?_⟩
    obtain ⟨f0, f1, f2⟩ := ha1 k _ hk
    have hb := hb0.trans (hW.mono hb0.size)
    exact ⟨(hb.cell (p := ⟨b1, _, none⟩) hb1).trans f0, (hb.cell (p := ⟨b1, _, none⟩) hb1).trans f1⟩
  have HN := Lib.hid hn
  have HBS : Hid (Below w0.heap.size w0 w0) := Below.refl _ _
  have HB0 := Lib.hid hb0
  have H0 := Lib.hid hw0
  obtain ⟨⟨p0, p1, p2⟩, -⟩ := HCE.out w0 HBS.out
  clear hw0 hb0 hq0 hv0 hL1 hL2 hL3 h hn hR hb hnow hN hl9 p0 p1 p2
  go_enter Try.func18, Try.ntmps18
  go_upto_region 1 with (fail)
  rw [← H0.out]
  have HD : Hid (Below w0.heap.size w0 w0.drew) := HBS.out.drew
  refine wp_region_held_drew (S := fun W : World => (W.cell? ⟨w.heap.size, 0, none⟩ = some (.slice A n c) ∧ W.cell? ⟨w.heap.size, 1, none⟩ = some (.int .i64 most) ∧ W.cell? ⟨w.heap.size, 2, none⟩ = some (.int .i64 idle)) ∧ W.cell? ⟨w.heap.size + 1, 1, none⟩ = some (.int .u32 (x : Int)) ∧ W.cell? ⟨w.heap.size + 1, 2, none⟩ = some (.int .u32 (y : Int)) ∧ W.cell? ⟨w.heap.size + 1, 3, none⟩ = some (.int .i64 now)) (by kernel_rfl) (HCE.out _ (HD.out)) (fun hHeld => ?_)
  obtain ⟨W0, hW0⟩ : ∃ W0, W0 = w0.drew := ⟨_, rfl⟩
  rw [← hW0] at hHeld HD ⊢
  clear hW0
  refine wpAnyH_take (i := 0) (oi := ?oi0) (v := ?v0) ?hi0 ?hs0 ?hf0 ?hr0 ?hQ0 ?hy0 ?hS0 ?h0
  case hi0 => exact (by simp only [List.getElem?_toArray, List.getElem?_cons_zero]; rfl)
  case hs0 => kernel_rfl
  case hf0 => kernel_rfl
  case hr0 => kernel_rfl
  case hQ0 => exact fun _ _ _ h => h
  case hy0 =>
    refine Or.inl ⟨rfl, ?_⟩
    intro W hSw
    obtain ⟨⟨y0, y1, y2⟩, y3, y4, y5⟩ := hSw
    go_simp
    try with_reducible rfl
  case hS0 => assumption
  try simp only [Act.put, List.setIfInBounds_toArray, List.set_cons_zero, List.set_cons_succ]
  refine wpAnyH_take (i := 2) (oi := ?oi2) (v := ?v2) ?hi2 ?hs2 ?hf2 ?hr2 ?hQ2 ?hy2 ?hS2 ?h2
  case hi2 => exact (by simp only [List.getElem?_toArray, List.getElem?_cons_succ, List.getElem?_cons_zero]; rfl)
  case hs2 => kernel_rfl
  case hf2 => kernel_rfl
  case hr2 => kernel_rfl
  case hQ2 => exact fun _ _ _ h => h
  case hy2 =>
    refine Or.inl ⟨rfl, ?_⟩
    intro W hSw
    obtain ⟨⟨y0, y1, y2⟩, y3, y4, y5⟩ := hSw
    go_simp
    try with_reducible rfl
  case hS2 => assumption
  try simp only [Act.put, List.setIfInBounds_toArray, List.set_cons_zero, List.set_cons_succ]
  refine wpAnyH_ready (rs := [1]) (by kernel_rfl) (by simp) ?_
  refine AllReadyH.cons (o := _) rfl (fun K hK => ?_) AllReadyH.nil
  go_simp
  refine ((HCO.out W0 HD.out)).mono ?_
  rintro r W1 ⟨vL1, rfl, hsL, hbq⟩
  have HB1 := Lib.hid (HD.out.trans (hbq.mono HD.out.size))
  have HSL1 := Lib.hid hsL
  obtain ⟨AL1, cL1, hvL, -⟩ := id hsL
  subst hvL
  clear hsL
  clear hbq
  refine hK.out _ _ (HCE.out _ (HB1.out)) (fun hHeld => ?_)
  clear hK K
  try simp only [Act.put, List.setIfInBounds_toArray, List.set_cons_zero, List.set_cons_succ]
  refine wpAnyH_ready (rs := [3]) (by kernel_rfl) (by simp) ?_
  refine AllReadyH.cons (o := _) rfl (fun K hK => ?_) AllReadyH.nil
  go_simp
  refine ((HRC.out W1 HB1.out)).mono ?_
  rintro r W2 ⟨vR1, rfl, hsR, hbq⟩
  have HB2 := Lib.hid (HB1.out.trans (hbq.mono HB1.out.size))
  have HSR1 := Lib.hid hsR
  obtain ⟨AR1, cR1, hvR, -⟩ := id hsR
  subst hvR
  have HSM1 := Lib.hid (S32.after HSL1.out hbq)
  clear hsR
  clear hbq
  refine hK.out _ _ (HCE.out _ (HB2.out)) (fun hHeld => ?_)
  clear hK K
  try simp only [Act.put, List.setIfInBounds_toArray, List.set_cons_zero, List.set_cons_succ]
  refine wpAnyH_ready (rs := [4]) (by kernel_rfl) (by simp) ?_
  refine AllReadyH.cons (o := _) rfl (fun K hK => ?_) AllReadyH.nil
  go_simp
  refine ((same_eq _ _ L1 W2 HL1.out HSM1.out HSR1.out)).mono ?_
  rintro r W3 ⟨rfl, hbq⟩
  have HB3 := Lib.hid (HB2.out.trans (hbq.mono HB2.out.size))
  clear hbq
  refine hK.out _ _ (HCE.out _ (HB3.out)) (fun hHeld => ?_)
  clear hK K
  try simp only [Act.put, List.setIfInBounds_toArray, List.set_cons_zero, List.set_cons_succ]
  refine wpAnyH_take (i := 5) (oi := ?oi5) (v := (.bool false)) ?hi5 ?hs5 ?hf5 ?hr5 ?hQ5 ?hy5 ?hS5 ?h5
  case hi5 => exact (by simp only [List.getElem?_toArray, List.getElem?_cons_succ, List.getElem?_cons_zero]; rfl)
  case hs5 => kernel_rfl
  case hf5 => kernel_rfl
  case hr5 => kernel_rfl
  case hQ5 => exact fun _ _ _ h => h
  case hy5 =>
    refine Or.inl ⟨rfl, ?_⟩
    intro W hSw
    obtain ⟨⟨y0, y1, y2⟩, y3, y4, y5⟩ := hSw
    go_simp
    try simp
  case hS5 => assumption
  try simp only [Act.put, List.setIfInBounds_toArray, List.set_cons_zero, List.set_cons_succ]
  refine wpAnyH_take (i := 6) (oi := ?oi6) (v := ?v6) ?hi6 ?hs6 ?hf6 ?hr6 ?hQ6 ?hy6 ?hS6 ?h6
  case hi6 => exact (by simp only [List.getElem?_toArray, List.getElem?_cons_succ, List.getElem?_cons_zero]; rfl)
  case hs6 => kernel_rfl
  case hf6 => kernel_rfl
  case hr6 => kernel_rfl
  case hQ6 => exact fun _ _ _ h => h
  case hy6 =>
    refine Or.inl ⟨rfl, ?_⟩
    intro W hSw
    obtain ⟨⟨y0, y1, y2⟩, y3, y4, y5⟩ := hSw
    go_simp
    try with_reducible rfl
  case hS6 => assumption
  try simp only [Act.put, List.setIfInBounds_toArray, List.set_cons_zero, List.set_cons_succ]
  refine wpAnyH_take (i := 7) (oi := ?oi7) (v := ?v7) ?hi7 ?hs7 ?hf7 ?hr7 ?hQ7 ?hy7 ?hS7 ?h7
  case hi7 => exact (by simp only [List.getElem?_toArray, List.getElem?_cons_succ, List.getElem?_cons_zero]; rfl)
  case hs7 => kernel_rfl
  case hf7 => kernel_rfl
  case hr7 => kernel_rfl
  case hQ7 => exact fun _ _ _ h => h
  case hy7 =>
    refine Or.inl ⟨rfl, ?_⟩
    intro W hSw
    obtain ⟨⟨y0, y1, y2⟩, y3, y4, y5⟩ := hSw
    go_simp
    try with_reducible rfl
  case hS7 => assumption
  try simp only [Act.put, List.setIfInBounds_toArray, List.set_cons_zero, List.set_cons_succ]
  refine wpAnyH_take (i := 9) (oi := ?oi9) (v := ?v9) ?hi9 ?hs9 ?hf9 ?hr9 ?hQ9 ?hy9 ?hS9 ?h9
  case hi9 => exact (by simp only [List.getElem?_toArray, List.getElem?_cons_succ, List.getElem?_cons_zero]; rfl)
  case hs9 => kernel_rfl
  case hf9 => kernel_rfl
  case hr9 => kernel_rfl
  case hQ9 => exact fun _ _ _ h => h
  case hy9 =>
    refine Or.inl ⟨rfl, ?_⟩
    intro W hSw
    obtain ⟨⟨y0, y1, y2⟩, y3, y4, y5⟩ := hSw
    go_simp
    try with_reducible rfl
  case hS9 => assumption
  try simp only [Act.put, List.setIfInBounds_toArray, List.set_cons_zero, List.set_cons_succ]
  refine wpAnyH_ready (rs := [8]) (by kernel_rfl) (by simp) ?_
  refine AllReadyH.cons (o := _) rfl (fun K hK => ?_) AllReadyH.nil
  go_simp
  refine ((HPL.out W3 HB3.out)).mono ?_
  rintro r W4 ⟨vL2, rfl, hsL, hbq⟩
  have HB4 := Lib.hid (HB3.out.trans (hbq.mono HB3.out.size))
  have HSL2 := Lib.hid hsL
  obtain ⟨AL2, cL2, hvL, -⟩ := id hsL
  subst hvL
  clear hsL
  clear hbq
  refine hK.out _ _ (HCE.out _ (HB4.out)) (fun hHeld => ?_)
  clear hK K
  try simp only [Act.put, List.setIfInBounds_toArray, List.set_cons_zero, List.set_cons_succ]
  refine wpAnyH_ready (rs := [10]) (by kernel_rfl) (by simp) ?_
  refine AllReadyH.cons (o := _) rfl (fun K hK => ?_) AllReadyH.nil
  go_simp
  refine ((HRP.out W4 HB4.out)).mono ?_
  rintro r W5 ⟨vR2, rfl, hsR, hbq⟩
  have HB5 := Lib.hid (HB4.out.trans (hbq.mono HB4.out.size))
  have HSR2 := Lib.hid hsR
  obtain ⟨AR2, cR2, hvR, -⟩ := id hsR
  subst hvR
  have HSM2 := Lib.hid (S32.after HSL2.out hbq)
  clear hsR
  clear hbq
  refine hK.out _ _ (HCE.out _ (HB5.out)) (fun hHeld => ?_)
  clear hK K
  try simp only [Act.put, List.setIfInBounds_toArray, List.set_cons_zero, List.set_cons_succ]
  refine wpAnyH_ready (rs := [11]) (by kernel_rfl) (by simp) ?_
  refine AllReadyH.cons (o := _) rfl (fun K hK => ?_) AllReadyH.nil
  go_simp
  refine ((same_eq _ _ L2 W5 HL2.out HSM2.out HSR2.out)).mono ?_
  rintro r W6 ⟨rfl, hbq⟩
  have HB6 := Lib.hid (HB5.out.trans (hbq.mono HB5.out.size))
  clear hbq
  refine hK.out _ _ (HCE.out _ (HB6.out)) (fun hHeld => ?_)
  clear hK K
  try simp only [Act.put, List.setIfInBounds_toArray, List.set_cons_zero, List.set_cons_succ]
  refine wpAnyH_take (i := 12) (oi := ?oi12) (v := (.bool false)) ?hi12 ?hs12 ?hf12 ?hr12 ?hQ12 ?hy12 ?hS12 ?h12
  case hi12 => exact (by simp only [List.getElem?_toArray, List.getElem?_cons_succ, List.getElem?_cons_zero]; rfl)
  case hs12 => kernel_rfl
  case hf12 => kernel_rfl
  case hr12 => kernel_rfl
  case hQ12 => exact fun _ _ _ h => h
  case hy12 =>
    refine Or.inl ⟨rfl, ?_⟩
    intro W hSw
    obtain ⟨⟨y0, y1, y2⟩, y3, y4, y5⟩ := hSw
    go_simp
    try simp
  case hS12 => assumption
  try simp only [Act.put, List.setIfInBounds_toArray, List.set_cons_zero, List.set_cons_succ]
  refine wpAnyH_take (i := 13) (oi := ?oi13) (v := ?v13) ?hi13 ?hs13 ?hf13 ?hr13 ?hQ13 ?hy13 ?hS13 ?h13
  case hi13 => exact (by simp only [List.getElem?_toArray, List.getElem?_cons_succ, List.getElem?_cons_zero]; rfl)
  case hs13 => kernel_rfl
  case hf13 => kernel_rfl
  case hr13 => kernel_rfl
  case hQ13 => exact fun _ _ _ h => h
  case hy13 =>
    refine Or.inl ⟨rfl, ?_⟩
    intro W hSw
    obtain ⟨⟨y0, y1, y2⟩, y3, y4, y5⟩ := hSw
    go_simp
    try with_reducible rfl
  case hS13 => assumption
  try simp only [Act.put, List.setIfInBounds_toArray, List.set_cons_zero, List.set_cons_succ]
  refine wpAnyH_take (i := 14) (oi := ?oi14) (v := ?v14) ?hi14 ?hs14 ?hf14 ?hr14 ?hQ14 ?hy14 ?hS14 ?h14
  case hi14 => exact (by simp only [List.getElem?_toArray, List.getElem?_cons_succ, List.getElem?_cons_zero]; rfl)
  case hs14 => kernel_rfl
  case hf14 => kernel_rfl
  case hr14 => kernel_rfl
  case hQ14 => exact fun _ _ _ h => h
  case hy14 =>
    refine Or.inl ⟨rfl, ?_⟩
    intro W hSw
    obtain ⟨⟨y0, y1, y2⟩, y3, y4, y5⟩ := hSw
    go_simp
    try with_reducible rfl
  case hS14 => assumption
  try simp only [Act.put, List.setIfInBounds_toArray, List.set_cons_zero, List.set_cons_succ]
  refine wpAnyH_take (i := 15) (oi := ?oi15) (v := ?v15) ?hi15 ?hs15 ?hf15 ?hr15 ?hQ15 ?hy15 ?hS15 ?h15
  case hi15 => exact (by simp only [List.getElem?_toArray, List.getElem?_cons_succ, List.getElem?_cons_zero]; rfl)
  case hs15 => kernel_rfl
  case hf15 => kernel_rfl
  case hr15 => kernel_rfl
  case hQ15 => exact fun _ _ _ h => h
  case hy15 =>
    refine Or.inl ⟨rfl, ?_⟩
    intro W hSw
    obtain ⟨⟨y0, y1, y2⟩, y3, y4, y5⟩ := hSw
    go_simp
    try with_reducible rfl
  case hS15 => assumption
  try simp only [Act.put, List.setIfInBounds_toArray, List.set_cons_zero, List.set_cons_succ]
  refine wpAnyH_take (i := 16) (oi := ?oi16) (v := ?v16) ?hi16 ?hs16 ?hf16 ?hr16 ?hQ16 ?hy16 ?hS16 ?h16
  case hi16 => exact (by simp only [List.getElem?_toArray, List.getElem?_cons_succ, List.getElem?_cons_zero]; rfl)
  case hs16 => kernel_rfl
  case hf16 => kernel_rfl
  case hr16 => kernel_rfl
  case hQ16 => exact fun _ _ _ h => h
  case hy16 =>
    refine Or.inl ⟨rfl, ?_⟩
    intro W hSw
    obtain ⟨⟨y0, y1, y2⟩, y3, y4, y5⟩ := hSw
    go_simp
    try with_reducible rfl
  case hS16 => assumption
  try simp only [Act.put, List.setIfInBounds_toArray, List.set_cons_zero, List.set_cons_succ]
  refine wpAnyH_take (i := 17) (oi := ?oi17) (v := ?v17) ?hi17 ?hs17 ?hf17 ?hr17 ?hQ17 ?hy17 ?hS17 ?h17
  case hi17 => exact (by simp only [List.getElem?_toArray, List.getElem?_cons_succ, List.getElem?_cons_zero]; rfl)
  case hs17 => kernel_rfl
  case hf17 => kernel_rfl
  case hr17 => kernel_rfl
  case hQ17 => exact fun _ _ _ h => h
  case hy17 =>
    refine Or.inl ⟨rfl, ?_⟩
    intro W hSw
    obtain ⟨⟨y0, y1, y2⟩, y3, y4, y5⟩ := hSw
    go_simp
    try with_reducible rfl
  case hS17 => assumption
  try simp only [Act.put, List.setIfInBounds_toArray, List.set_cons_zero, List.set_cons_succ]
  refine wpAnyH_take (i := 19) (oi := ?oi19) (v := ?v19) ?hi19 ?hs19 ?hf19 ?hr19 ?hQ19 ?hy19 ?hS19 ?h19
  case hi19 => exact (by simp only [List.getElem?_toArray, List.getElem?_cons_succ, List.getElem?_cons_zero]; rfl)
  case hs19 => kernel_rfl
  case hf19 => kernel_rfl
  case hr19 => kernel_rfl
  case hQ19 => exact fun _ _ _ h => h
  case hy19 =>
    refine Or.inl ⟨rfl, ?_⟩
    intro W hSw
    obtain ⟨⟨y0, y1, y2⟩, y3, y4, y5⟩ := hSw
    go_simp
    try with_reducible rfl
  case hS19 => assumption
  try simp only [Act.put, List.setIfInBounds_toArray, List.set_cons_zero, List.set_cons_succ]
  refine wpAnyH_take (i := 20) (oi := ?oi20) (v := ?v20) ?hi20 ?hs20 ?hf20 ?hr20 ?hQ20 ?hy20 ?hS20 ?h20
  case hi20 => exact (by simp only [List.getElem?_toArray, List.getElem?_cons_succ, List.getElem?_cons_zero]; rfl)
  case hs20 => kernel_rfl
  case hf20 => kernel_rfl
  case hr20 => kernel_rfl
  case hQ20 => exact fun _ _ _ h => h
  case hy20 =>
    refine Or.inl ⟨rfl, ?_⟩
    intro W hSw
    obtain ⟨⟨y0, y1, y2⟩, y3, y4, y5⟩ := hSw
    go_simp
    try with_reducible rfl
  case hS20 => assumption
  try simp only [Act.put, List.setIfInBounds_toArray, List.set_cons_zero, List.set_cons_succ]
  refine wpAnyH_take (i := 21) (oi := ?oi21) (v := ?v21) ?hi21 ?hs21 ?hf21 ?hr21 ?hQ21 ?hy21 ?hS21 ?h21
  case hi21 => exact (by simp only [List.getElem?_toArray, List.getElem?_cons_succ, List.getElem?_cons_zero]; rfl)
  case hs21 => kernel_rfl
  case hf21 => kernel_rfl
  case hr21 => kernel_rfl
  case hQ21 => exact fun _ _ _ h => h
  case hy21 =>
    refine Or.inl ⟨rfl, ?_⟩
    intro W hSw
    obtain ⟨⟨y0, y1, y2⟩, y3, y4, y5⟩ := hSw
    go_simp
    try with_reducible rfl
  case hS21 => assumption
  try simp only [Act.put, List.setIfInBounds_toArray, List.set_cons_zero, List.set_cons_succ]
  refine wpAnyH_ready (rs := [18]) (by kernel_rfl) (by simp) ?_
  refine AllReadyH.cons (o := _) rfl (fun K hK => ?_) AllReadyH.nil
  go_simp
  refine ((HID.out W6 HB6.out)).mono ?_
  rintro r W7 ⟨vL3, rfl, hsL, hbq⟩
  have HB7 := Lib.hid (HB6.out.trans (hbq.mono HB6.out.size))
  have HSL3 := Lib.hid hsL
  obtain ⟨AL3, cL3, hvL, -⟩ := id hsL
  subst hvL
  clear hsL
  clear hbq
  refine hK.out _ _ (HCE.out _ (HB7.out)) (fun hHeld => ?_)
  clear hK K
  try simp only [Act.put, List.setIfInBounds_toArray, List.set_cons_zero, List.set_cons_succ]
  refine wpAnyH_ready (rs := [22]) (by kernel_rfl) (by simp) ?_
  refine AllReadyH.cons (o := _) rfl (fun K hK => ?_) AllReadyH.nil
  go_simp
  refine ((HRI.out W7 HB7.out)).mono ?_
  rintro r W8 ⟨vR3, rfl, hsR, hbq⟩
  have HB8 := Lib.hid (HB7.out.trans (hbq.mono HB7.out.size))
  have HSR3 := Lib.hid hsR
  obtain ⟨AR3, cR3, hvR, -⟩ := id hsR
  subst hvR
  have HSM3 := Lib.hid (S32.after HSL3.out hbq)
  clear hsR
  clear hbq
  refine hK.out _ _ (HCE.out _ (HB8.out)) (fun hHeld => ?_)
  clear hK K
  try simp only [Act.put, List.setIfInBounds_toArray, List.set_cons_zero, List.set_cons_succ]
  refine wpAnyH_ready (rs := [23]) (by kernel_rfl) (by simp) ?_
  refine AllReadyH.cons (o := _) rfl (fun K hK => ?_) AllReadyH.nil
  go_simp
  refine ((same_eq _ _ L3 W8 HL3.out HSM3.out HSR3.out)).mono ?_
  rintro r W9 ⟨rfl, hbq⟩
  have HB9 := Lib.hid (HB8.out.trans (hbq.mono HB8.out.size))
  clear hbq
  refine hK.out _ _ (HCE.out _ (HB9.out)) (fun hHeld => ?_)
  clear hK K
  try simp only [Act.put, List.setIfInBounds_toArray, List.set_cons_zero, List.set_cons_succ]
  refine wpAnyH_take (i := 24) (oi := ?oi24) (v := (.bool false)) ?hi24 ?hs24 ?hf24 ?hr24 ?hQ24 ?hy24 ?hS24 ?h24
  case hi24 => exact (by simp only [List.getElem?_toArray, List.getElem?_cons_succ, List.getElem?_cons_zero]; rfl)
  case hs24 => kernel_rfl
  case hf24 => kernel_rfl
  case hr24 => kernel_rfl
  case hQ24 => exact fun _ _ _ h => h
  case hy24 =>
    refine Or.inl ⟨rfl, ?_⟩
    intro W hSw
    obtain ⟨⟨y0, y1, y2⟩, y3, y4, y5⟩ := hSw
    go_simp
    try simp
  case hS24 => assumption
  try simp only [Act.put, List.setIfInBounds_toArray, List.set_cons_zero, List.set_cons_succ]
  refine wpAnyH_take (i := 25) (oi := ?oi25) (v := ?v25) ?hi25 ?hs25 ?hf25 ?hr25 ?hQ25 ?hy25 ?hS25 ?h25
  case hi25 => exact (by simp only [List.getElem?_toArray, List.getElem?_cons_succ, List.getElem?_cons_zero]; rfl)
  case hs25 => kernel_rfl
  case hf25 => kernel_rfl
  case hr25 => kernel_rfl
  case hQ25 => exact fun _ _ _ h => h
  case hy25 =>
    refine Or.inl ⟨rfl, ?_⟩
    intro W hSw
    obtain ⟨⟨y0, y1, y2⟩, y3, y4, y5⟩ := hSw
    go_simp
    try with_reducible rfl
  case hS25 => assumption
  try simp only [Act.put, List.setIfInBounds_toArray, List.set_cons_zero, List.set_cons_succ]
  refine wpAnyH_done (by kernel_rfl) ?_ _
  obtain ⟨p0, -, -⟩ := (HCE.out w0 HBS.out).1
  clear p0
  go_wp2_with fail
  go_loopw [7] (fun u wr => ∃ (k : Nat), k ≤ n ∧ u = .int .i64 (k : Int) ∧ Hid (Below w0.heap.size w0 wr)) (fun u _ => n - (intOf u).toNat)
  case atStart => exact ⟨0, by omega, rfl, HB9.out⟩
  case round =>
    obtain ⟨k, hk, rfl, HV⟩ := hrel
    obtain ⟨p0, -, -⟩ := (HCE.out wr HV.out).1
    by_cases hlt : k < n
    · obtain ⟨⟨s, a, p⟩, hy⟩ : ∃ e, L[k]? = some e := ⟨L[k]'(by rw [← HN.out]; exact hlt), List.getElem?_eq_getElem _⟩
      obtain ⟨b1, o1, rfl, hrw⟩ := HRW.out k s a p hy
      have HPK : Hid (∀ W, Below w0.heap.size w0 W → Calls Try.prog 21 #[.pointer (some ⟨T, 0, none⟩), .int .u32 (s : Int)] W fun r w' => r = .returned (.int .u32 p) ∧ Below W.heap.size W w') := fun W hW => HPA.out W hW k s a p hy
      have HS6 : Hid (∀ W, Below w0.heap.size w0 W → (fun W : World => ((W.cell? ⟨w.heap.size, 0, none⟩ = some (.slice (some ⟨b1, o1, none⟩) n c) ∧ W.cell? ⟨w.heap.size, 1, none⟩ = some (.int .i64 most) ∧ W.cell? ⟨w.heap.size, 2, none⟩ = some (.int .i64 idle)) ∧ W.cell? ⟨w.heap.size + 1, 1, none⟩ = some (.int .u32 (x : Int)) ∧ W.cell? ⟨w.heap.size + 1, 2, none⟩ = some (.int .u32 (y : Int)) ∧ W.cell? ⟨w.heap.size + 1, 3, none⟩ = some (.int .i64 now)) ∧ W.cell? ⟨b1, o1 + k * 3, none⟩ = some (.int .u32 (s : Int)) ∧ W.cell? ⟨b1, o1 + k * 3 + 1, none⟩ = some (.int .u32 p)) W) := fun W hW => ⟨HCE.out W hW, hrw W hW⟩
      clear hy hrw
      go_upto_region 6 with (fail)
      clear p0
      have HDq : Hid (Below w0.heap.size w0 wr.drew) := HV.out.drew
      refine wp_region_held_drew (S := fun W : World => ((W.cell? ⟨w.heap.size, 0, none⟩ = some (.slice (some ⟨b1, o1, none⟩) n c) ∧ W.cell? ⟨w.heap.size, 1, none⟩ = some (.int .i64 most) ∧ W.cell? ⟨w.heap.size, 2, none⟩ = some (.int .i64 idle)) ∧ W.cell? ⟨w.heap.size + 1, 1, none⟩ = some (.int .u32 (x : Int)) ∧ W.cell? ⟨w.heap.size + 1, 2, none⟩ = some (.int .u32 (y : Int)) ∧ W.cell? ⟨w.heap.size + 1, 3, none⟩ = some (.int .i64 now)) ∧ W.cell? ⟨b1, o1 + k * 3, none⟩ = some (.int .u32 (s : Int)) ∧ W.cell? ⟨b1, o1 + k * 3 + 1, none⟩ = some (.int .u32 p)) (by kernel_rfl) (HS6.out _ (HDq.out)) (fun hHeld => ?_)
      obtain ⟨Wq0, hW0⟩ : ∃ W0, W0 = wr.drew := ⟨_, rfl⟩
      rw [← hW0] at hHeld HDq ⊢
      clear hW0
      refine wpAnyH_take (i := 0) (oi := ?oi0q) (v := ?v0q) ?hi0q ?hs0q ?hf0q ?hr0q ?hQ0q ?hy0q ?hS0q ?h0q
      case hi0q => exact (by simp only [List.getElem?_toArray, List.getElem?_cons_zero]; rfl)
      case hs0q => kernel_rfl
      case hf0q => kernel_rfl
      case hr0q => kernel_rfl
      case hQ0q => exact fun _ _ _ h => h
      case hy0q =>
        refine Or.inl ⟨rfl, ?_⟩
        intro W hSw
        obtain ⟨⟨⟨y0, y1, y2⟩, y3, y4, y5⟩, y6, y7⟩ := hSw
        go_simp
        try with_reducible rfl
      case hS0q => assumption
      try simp only [Act.put, List.setIfInBounds_toArray, List.set_cons_zero, List.set_cons_succ]
      refine wpAnyH_take (i := 1) (oi := ?oi1q) (v := ?v1q) ?hi1q ?hs1q ?hf1q ?hr1q ?hQ1q ?hy1q ?hS1q ?h1q
      case hi1q => exact (by simp only [List.getElem?_toArray, List.getElem?_cons_succ, List.getElem?_cons_zero]; rfl)
      case hs1q => kernel_rfl
      case hf1q => kernel_rfl
      case hr1q => kernel_rfl
      case hQ1q => exact fun _ _ _ h => h
      case hy1q =>
        refine Or.inl ⟨rfl, ?_⟩
        intro W hSw
        obtain ⟨⟨⟨y0, y1, y2⟩, y3, y4, y5⟩, y6, y7⟩ := hSw
        go_simp
        try with_reducible rfl
      case hS1q => assumption
      try simp only [Act.put, List.setIfInBounds_toArray, List.set_cons_zero, List.set_cons_succ]
      refine wpAnyH_take (i := 2) (oi := ?oi2q) (v := ?v2q) ?hi2q ?hs2q ?hf2q ?hr2q ?hQ2q ?hy2q ?hS2q ?h2q
      case hi2q => exact (by simp only [List.getElem?_toArray, List.getElem?_cons_succ, List.getElem?_cons_zero]; rfl)
      case hs2q => kernel_rfl
      case hf2q => kernel_rfl
      case hr2q => kernel_rfl
      case hQ2q => exact fun _ _ _ h => h
      case hy2q =>
        refine Or.inl ⟨rfl, ?_⟩
        intro W hSw
        obtain ⟨⟨⟨y0, y1, y2⟩, y3, y4, y5⟩, y6, y7⟩ := hSw
        go_simp
        try with_reducible rfl
      case hS2q => assumption
      try simp only [Act.put, List.setIfInBounds_toArray, List.set_cons_zero, List.set_cons_succ]
      refine wpAnyH_take (i := 3) (oi := ?oi3q) (v := ?v3q) ?hi3q ?hs3q ?hf3q ?hr3q ?hQ3q ?hy3q ?hS3q ?h3q
      case hi3q => exact (by simp only [List.getElem?_toArray, List.getElem?_cons_succ, List.getElem?_cons_zero]; rfl)
      case hs3q => kernel_rfl
      case hf3q => kernel_rfl
      case hr3q => kernel_rfl
      case hQ3q => exact fun _ _ _ h => h
      case hy3q =>
        refine Or.inl ⟨rfl, ?_⟩
        intro W hSw
        obtain ⟨⟨⟨y0, y1, y2⟩, y3, y4, y5⟩, y6, y7⟩ := hSw
        go_simp
        try with_reducible rfl
      case hS3q => assumption
      try simp only [Act.put, List.setIfInBounds_toArray, List.set_cons_zero, List.set_cons_succ]
      refine wpAnyH_take (i := 4) (oi := ?oi4q) (v := ?v4q) ?hi4q ?hs4q ?hf4q ?hr4q ?hQ4q ?hy4q ?hS4q ?h4q
      case hi4q => exact (by simp only [List.getElem?_toArray, List.getElem?_cons_succ, List.getElem?_cons_zero]; rfl)
      case hs4q => kernel_rfl
      case hf4q => kernel_rfl
      case hr4q => kernel_rfl
      case hQ4q => exact fun _ _ _ h => h
      case hy4q =>
        refine Or.inl ⟨rfl, ?_⟩
        intro W hSw
        obtain ⟨⟨⟨y0, y1, y2⟩, y3, y4, y5⟩, y6, y7⟩ := hSw
        go_simp
        try with_reducible rfl
      case hS4q => assumption
      try simp only [Act.put, List.setIfInBounds_toArray, List.set_cons_zero, List.set_cons_succ]
      refine wpAnyH_take (i := 5) (oi := ?oi5q) (v := ?v5q) ?hi5q ?hs5q ?hf5q ?hr5q ?hQ5q ?hy5q ?hS5q ?h5q
      case hi5q => exact (by simp only [List.getElem?_toArray, List.getElem?_cons_succ, List.getElem?_cons_zero]; rfl)
      case hs5q => kernel_rfl
      case hf5q => kernel_rfl
      case hr5q => kernel_rfl
      case hQ5q => exact fun _ _ _ h => h
      case hy5q =>
        refine Or.inl ⟨rfl, ?_⟩
        intro W hSw
        obtain ⟨⟨⟨y0, y1, y2⟩, y3, y4, y5⟩, y6, y7⟩ := hSw
        go_simp
        try with_reducible rfl
      case hS5q => assumption
      try simp only [Act.put, List.setIfInBounds_toArray, List.set_cons_zero, List.set_cons_succ]
      refine wpAnyH_take (i := 6) (oi := ?oi6q) (v := ?v6q) ?hi6q ?hs6q ?hf6q ?hr6q ?hQ6q ?hy6q ?hS6q ?h6q
      case hi6q => exact (by simp only [List.getElem?_toArray, List.getElem?_cons_succ, List.getElem?_cons_zero]; rfl)
      case hs6q => kernel_rfl
      case hf6q => kernel_rfl
      case hr6q => kernel_rfl
      case hQ6q => exact fun _ _ _ h => h
      case hy6q =>
        refine Or.inl ⟨rfl, ?_⟩
        intro W hSw
        obtain ⟨⟨⟨y0, y1, y2⟩, y3, y4, y5⟩, y6, y7⟩ := hSw
        go_simp
        try with_reducible rfl
      case hS6q => assumption
      try simp only [Act.put, List.setIfInBounds_toArray, List.set_cons_zero, List.set_cons_succ]
      refine wpAnyH_take (i := 8) (oi := ?oi8q) (v := ?v8q) ?hi8q ?hs8q ?hf8q ?hr8q ?hQ8q ?hy8q ?hS8q ?h8q
      case hi8q => exact (by simp only [List.getElem?_toArray, List.getElem?_cons_succ, List.getElem?_cons_zero]; rfl)
      case hs8q => kernel_rfl
      case hf8q => kernel_rfl
      case hr8q => kernel_rfl
      case hQ8q => exact fun _ _ _ h => h
      case hy8q =>
        refine Or.inl ⟨rfl, ?_⟩
        intro W hSw
        obtain ⟨⟨⟨y0, y1, y2⟩, y3, y4, y5⟩, y6, y7⟩ := hSw
        go_simp
        try with_reducible rfl
      case hS8q => assumption
      try simp only [Act.put, List.setIfInBounds_toArray, List.set_cons_zero, List.set_cons_succ]
      refine wpAnyH_take (i := 9) (oi := ?oi9q) (v := ?v9q) ?hi9q ?hs9q ?hf9q ?hr9q ?hQ9q ?hy9q ?hS9q ?h9q
      case hi9q => exact (by simp only [List.getElem?_toArray, List.getElem?_cons_succ, List.getElem?_cons_zero]; rfl)
      case hs9q => kernel_rfl
      case hf9q => kernel_rfl
      case hr9q => kernel_rfl
      case hQ9q => exact fun _ _ _ h => h
      case hy9q =>
        refine Or.inl ⟨rfl, ?_⟩
        intro W hSw
        obtain ⟨⟨⟨y0, y1, y2⟩, y3, y4, y5⟩, y6, y7⟩ := hSw
        go_simp
        try with_reducible rfl
      case hS9q => assumption
      try simp only [Act.put, List.setIfInBounds_toArray, List.set_cons_zero, List.set_cons_succ]
      refine wpAnyH_take (i := 10) (oi := ?oi10q) (v := ?v10q) ?hi10q ?hs10q ?hf10q ?hr10q ?hQ10q ?hy10q ?hS10q ?h10q
      case hi10q => exact (by simp only [List.getElem?_toArray, List.getElem?_cons_succ, List.getElem?_cons_zero]; rfl)
      case hs10q => kernel_rfl
      case hf10q => kernel_rfl
      case hr10q => kernel_rfl
      case hQ10q => exact fun _ _ _ h => h
      case hy10q =>
        refine Or.inl ⟨rfl, ?_⟩
        intro W hSw
        obtain ⟨⟨⟨y0, y1, y2⟩, y3, y4, y5⟩, y6, y7⟩ := hSw
        go_simp
        try with_reducible rfl
      case hS10q => assumption
      try simp only [Act.put, List.setIfInBounds_toArray, List.set_cons_zero, List.set_cons_succ]
      refine wpAnyH_take (i := 11) (oi := ?oi11q) (v := ?v11q) ?hi11q ?hs11q ?hf11q ?hr11q ?hQ11q ?hy11q ?hS11q ?h11q
      case hi11q => exact (by simp only [List.getElem?_toArray, List.getElem?_cons_succ, List.getElem?_cons_zero]; rfl)
      case hs11q => kernel_rfl
      case hf11q => kernel_rfl
      case hr11q => kernel_rfl
      case hQ11q => exact fun _ _ _ h => h
      case hy11q =>
        refine Or.inl ⟨rfl, ?_⟩
        intro W hSw
        obtain ⟨⟨⟨y0, y1, y2⟩, y3, y4, y5⟩, y6, y7⟩ := hSw
        go_simp
        try with_reducible rfl
      case hS11q => assumption
      try simp only [Act.put, List.setIfInBounds_toArray, List.set_cons_zero, List.set_cons_succ]
      refine wpAnyH_take (i := 12) (oi := ?oi12q) (v := ?v12q) ?hi12q ?hs12q ?hf12q ?hr12q ?hQ12q ?hy12q ?hS12q ?h12q
      case hi12q => exact (by simp only [List.getElem?_toArray, List.getElem?_cons_succ, List.getElem?_cons_zero]; rfl)
      case hs12q => kernel_rfl
      case hf12q => kernel_rfl
      case hr12q => kernel_rfl
      case hQ12q => exact fun _ _ _ h => h
      case hy12q =>
        refine Or.inl ⟨rfl, ?_⟩
        intro W hSw
        obtain ⟨⟨⟨y0, y1, y2⟩, y3, y4, y5⟩, y6, y7⟩ := hSw
        go_simp
        try with_reducible rfl
      case hS12q => assumption
      try simp only [Act.put, List.setIfInBounds_toArray, List.set_cons_zero, List.set_cons_succ]
      refine wpAnyH_take (i := 13) (oi := ?oi13q) (v := ?v13q) ?hi13q ?hs13q ?hf13q ?hr13q ?hQ13q ?hy13q ?hS13q ?h13q
      case hi13q => exact (by simp only [List.getElem?_toArray, List.getElem?_cons_succ, List.getElem?_cons_zero]; rfl)
      case hs13q => kernel_rfl
      case hf13q => kernel_rfl
      case hr13q => kernel_rfl
      case hQ13q => exact fun _ _ _ h => h
      case hy13q =>
        refine Or.inl ⟨rfl, ?_⟩
        intro W hSw
        obtain ⟨⟨⟨y0, y1, y2⟩, y3, y4, y5⟩, y6, y7⟩ := hSw
        go_simp
        try with_reducible rfl
      case hS13q => assumption
      try simp only [Act.put, List.setIfInBounds_toArray, List.set_cons_zero, List.set_cons_succ]
      refine wpAnyH_ready (rs := [7]) (by kernel_rfl) (by simp) ?_
      refine AllReadyH.cons (o := _) rfl (fun K hK => ?_) AllReadyH.nil
      go_simp
      refine ((HPK.out Wq0 HDq.out)).mono ?_
      rintro r Wq1 ⟨rfl, hbq⟩
      have HBq1 := Lib.hid (HDq.out.trans (hbq.mono HDq.out.size))
      clear hbq
      refine hK.out _ _ (HS6.out _ (HBq1.out)) (fun hHeld => ?_)
      clear hK K
      try simp only [Act.put, List.setIfInBounds_toArray, List.set_cons_zero, List.set_cons_succ]
      refine wpAnyH_take (i := 14) (oi := ?oi14q) (v := (.bool false)) ?hi14q ?hs14q ?hf14q ?hr14q ?hQ14q ?hy14q ?hS14q ?h14q
      case hi14q => exact (by simp only [List.getElem?_toArray, List.getElem?_cons_succ, List.getElem?_cons_zero]; rfl)
      case hs14q => kernel_rfl
      case hf14q => kernel_rfl
      case hr14q => kernel_rfl
      case hQ14q => exact fun _ _ _ h => h
      case hy14q =>
        refine Or.inl ⟨rfl, ?_⟩
        intro W hSw
        obtain ⟨⟨⟨y0, y1, y2⟩, y3, y4, y5⟩, y6, y7⟩ := hSw
        go_simp
        try simp
      case hS14q => assumption
      try simp only [Act.put, List.setIfInBounds_toArray, List.set_cons_zero, List.set_cons_succ]
      refine wpAnyH_done (by kernel_rfl) ?_ _
      go_wp2_with fail
      go_roundw
      case rel => exact ⟨k + 1, by omega, by go_num, HBq1.out⟩
      case measure => simp [intOf] <;> omega
    · obtain rfl : k = n := by omega
      obtain ⟨q, hq1, hq2⟩ := HQ.out
      have HCN := Lib.hid hq1
      have HRN := Lib.hid hq2
      clear hq1 hq2
      cases hk2 : look x L with
      | some z =>
        obtain ⟨j, hj⟩ := look_some hk2
        have HFD := Lib.hid (HFT.out j z hj)
        clear hj hk2
        go_upto_region 8 with (fail)
        clear p0
        have HDa : Hid (Below w0.heap.size w0 wr.drew) := HV.out.drew
        refine wp_region_held_drew (S := fun W : World => (W.cell? ⟨w.heap.size, 0, none⟩ = some (.slice A k c) ∧ W.cell? ⟨w.heap.size, 1, none⟩ = some (.int .i64 most) ∧ W.cell? ⟨w.heap.size, 2, none⟩ = some (.int .i64 idle)) ∧ W.cell? ⟨w.heap.size + 1, 1, none⟩ = some (.int .u32 (x : Int)) ∧ W.cell? ⟨w.heap.size + 1, 2, none⟩ = some (.int .u32 (y : Int)) ∧ W.cell? ⟨w.heap.size + 1, 3, none⟩ = some (.int .i64 now)) (by kernel_rfl) (HCE.out _ (HDa.out)) (fun hHeld => ?_)
        obtain ⟨Wa0, hW0⟩ : ∃ W0, W0 = wr.drew := ⟨_, rfl⟩
        rw [← hW0] at hHeld HDa ⊢
        clear hW0
        refine wpAnyH_take (i := 0) (oi := ?oi0a) (v := ?v0a) ?hi0a ?hs0a ?hf0a ?hr0a ?hQ0a ?hy0a ?hS0a ?h0a
        case hi0a => exact (by simp only [List.getElem?_toArray, List.getElem?_cons_zero]; rfl)
        case hs0a => kernel_rfl
        case hf0a => kernel_rfl
        case hr0a => kernel_rfl
        case hQ0a => exact fun _ _ _ h => h
        case hy0a =>
          refine Or.inl ⟨rfl, ?_⟩
          intro W hSw
          obtain ⟨⟨y0, y1, y2⟩, y3, y4, y5⟩ := hSw
          go_simp
          try with_reducible rfl
        case hS0a => assumption
        try simp only [Act.put, List.setIfInBounds_toArray, List.set_cons_zero, List.set_cons_succ]
        refine wpAnyH_take (i := 1) (oi := ?oi1a) (v := ?v1a) ?hi1a ?hs1a ?hf1a ?hr1a ?hQ1a ?hy1a ?hS1a ?h1a
        case hi1a => exact (by simp only [List.getElem?_toArray, List.getElem?_cons_succ, List.getElem?_cons_zero]; rfl)
        case hs1a => kernel_rfl
        case hf1a => kernel_rfl
        case hr1a => kernel_rfl
        case hQ1a => exact fun _ _ _ h => h
        case hy1a =>
          refine Or.inl ⟨rfl, ?_⟩
          intro W hSw
          obtain ⟨⟨y0, y1, y2⟩, y3, y4, y5⟩ := hSw
          go_simp
          try with_reducible rfl
        case hS1a => assumption
        try simp only [Act.put, List.setIfInBounds_toArray, List.set_cons_zero, List.set_cons_succ]
        refine wpAnyH_take (i := 2) (oi := ?oi2a) (v := ?v2a) ?hi2a ?hs2a ?hf2a ?hr2a ?hQ2a ?hy2a ?hS2a ?h2a
        case hi2a => exact (by simp only [List.getElem?_toArray, List.getElem?_cons_succ, List.getElem?_cons_zero]; rfl)
        case hs2a => kernel_rfl
        case hf2a => kernel_rfl
        case hr2a => kernel_rfl
        case hQ2a => exact fun _ _ _ h => h
        case hy2a =>
          refine Or.inl ⟨rfl, ?_⟩
          intro W hSw
          obtain ⟨⟨y0, y1, y2⟩, y3, y4, y5⟩ := hSw
          go_simp
          try with_reducible rfl
        case hS2a => assumption
        try simp only [Act.put, List.setIfInBounds_toArray, List.set_cons_zero, List.set_cons_succ]
        refine wpAnyH_take (i := 4) (oi := ?oi4a) (v := ?v4a) ?hi4a ?hs4a ?hf4a ?hr4a ?hQ4a ?hy4a ?hS4a ?h4a
        case hi4a => exact (by simp only [List.getElem?_toArray, List.getElem?_cons_succ, List.getElem?_cons_zero]; rfl)
        case hs4a => kernel_rfl
        case hf4a => kernel_rfl
        case hr4a => kernel_rfl
        case hQ4a => exact fun _ _ _ h => h
        case hy4a =>
          refine Or.inl ⟨rfl, ?_⟩
          intro W hSw
          obtain ⟨⟨y0, y1, y2⟩, y3, y4, y5⟩ := hSw
          go_simp
          try with_reducible rfl
        case hS4a => assumption
        try simp only [Act.put, List.setIfInBounds_toArray, List.set_cons_zero, List.set_cons_succ]
        refine wpAnyH_take (i := 5) (oi := ?oi5a) (v := ?v5a) ?hi5a ?hs5a ?hf5a ?hr5a ?hQ5a ?hy5a ?hS5a ?h5a
        case hi5a => exact (by simp only [List.getElem?_toArray, List.getElem?_cons_succ, List.getElem?_cons_zero]; rfl)
        case hs5a => kernel_rfl
        case hf5a => kernel_rfl
        case hr5a => kernel_rfl
        case hQ5a => exact fun _ _ _ h => h
        case hy5a =>
          refine Or.inl ⟨rfl, ?_⟩
          intro W hSw
          obtain ⟨⟨y0, y1, y2⟩, y3, y4, y5⟩ := hSw
          go_simp
          try with_reducible rfl
        case hS5a => assumption
        try simp only [Act.put, List.setIfInBounds_toArray, List.set_cons_zero, List.set_cons_succ]
        refine wpAnyH_take (i := 6) (oi := ?oi6a) (v := ?v6a) ?hi6a ?hs6a ?hf6a ?hr6a ?hQ6a ?hy6a ?hS6a ?h6a
        case hi6a => exact (by simp only [List.getElem?_toArray, List.getElem?_cons_succ, List.getElem?_cons_zero]; rfl)
        case hs6a => kernel_rfl
        case hf6a => kernel_rfl
        case hr6a => kernel_rfl
        case hQ6a => exact fun _ _ _ h => h
        case hy6a =>
          refine Or.inl ⟨rfl, ?_⟩
          intro W hSw
          obtain ⟨⟨y0, y1, y2⟩, y3, y4, y5⟩ := hSw
          go_simp
          try with_reducible rfl
        case hS6a => assumption
        try simp only [Act.put, List.setIfInBounds_toArray, List.set_cons_zero, List.set_cons_succ]
        refine wpAnyH_ready (rs := [3]) (by kernel_rfl) (by simp) ?_
        refine AllReadyH.cons (o := _) rfl (fun K hK => ?_) AllReadyH.nil
        go_simp
        refine ((HCN.out Wa0 HDa.out)).mono ?_
        rintro r Wa1 ⟨rfl, hbq⟩
        have HBa1 := Lib.hid (HDa.out.trans (hbq.mono HDa.out.size))
        clear hbq
        refine hK.out _ _ (HCE.out _ (HBa1.out)) (fun hHeld => ?_)
        clear hK K
        try simp only [Act.put, List.setIfInBounds_toArray, List.set_cons_zero, List.set_cons_succ]
        refine wpAnyH_ready (rs := [7]) (by kernel_rfl) (by simp) ?_
        refine AllReadyH.cons (o := _) rfl (fun K hK => ?_) AllReadyH.nil
        go_simp
        refine ((HRN.out Wa1 HBa1.out)).mono ?_
        rintro r Wa2 ⟨rfl, hbq⟩
        have HBa2 := Lib.hid (HBa1.out.trans (hbq.mono HBa1.out.size))
        clear hbq
        refine hK.out _ _ (HCE.out _ (HBa2.out)) (fun hHeld => ?_)
        clear hK K
        try simp only [Act.put, List.setIfInBounds_toArray, List.set_cons_zero, List.set_cons_succ]
        refine wpAnyH_take (i := 8) (oi := ?oi8a) (v := (.bool true)) ?hi8a ?hs8a ?hf8a ?hr8a ?hQ8a ?hy8a ?hS8a ?h8a
        case hi8a => exact (by simp only [List.getElem?_toArray, List.getElem?_cons_succ, List.getElem?_cons_zero]; rfl)
        case hs8a => kernel_rfl
        case hf8a => kernel_rfl
        case hr8a => kernel_rfl
        case hQ8a => exact fun _ _ _ h => h
        case hy8a =>
          refine Or.inl ⟨rfl, ?_⟩
          intro W hSw
          obtain ⟨⟨y0, y1, y2⟩, y3, y4, y5⟩ := hSw
          go_simp
          try simp
        case hS8a => assumption
        try simp only [Act.put, List.setIfInBounds_toArray, List.set_cons_zero, List.set_cons_succ]
        refine wpAnyH_take (i := 9) (oi := ?oi9a) (v := ?v9a) ?hi9a ?hs9a ?hf9a ?hr9a ?hQ9a ?hy9a ?hS9a ?h9a
        case hi9a => exact (by simp only [List.getElem?_toArray, List.getElem?_cons_succ, List.getElem?_cons_zero]; rfl)
        case hs9a => kernel_rfl
        case hf9a => kernel_rfl
        case hr9a => kernel_rfl
        case hQ9a => exact fun _ _ _ h => h
        case hy9a =>
          refine Or.inl ⟨rfl, ?_⟩
          intro W hSw
          obtain ⟨⟨y0, y1, y2⟩, y3, y4, y5⟩ := hSw
          go_simp
          try with_reducible rfl
        case hS9a => assumption
        try simp only [Act.put, List.setIfInBounds_toArray, List.set_cons_zero, List.set_cons_succ]
        refine wpAnyH_take (i := 10) (oi := ?oi10a) (v := ?v10a) ?hi10a ?hs10a ?hf10a ?hr10a ?hQ10a ?hy10a ?hS10a ?h10a
        case hi10a => exact (by simp only [List.getElem?_toArray, List.getElem?_cons_succ, List.getElem?_cons_zero]; rfl)
        case hs10a => kernel_rfl
        case hf10a => kernel_rfl
        case hr10a => kernel_rfl
        case hQ10a => exact fun _ _ _ h => h
        case hy10a =>
          refine Or.inl ⟨rfl, ?_⟩
          intro W hSw
          obtain ⟨⟨y0, y1, y2⟩, y3, y4, y5⟩ := hSw
          go_simp
          try with_reducible rfl
        case hS10a => assumption
        try simp only [Act.put, List.setIfInBounds_toArray, List.set_cons_zero, List.set_cons_succ]
        refine wpAnyH_take (i := 11) (oi := ?oi11a) (v := ?v11a) ?hi11a ?hs11a ?hf11a ?hr11a ?hQ11a ?hy11a ?hS11a ?h11a
        case hi11a => exact (by simp only [List.getElem?_toArray, List.getElem?_cons_succ, List.getElem?_cons_zero]; rfl)
        case hs11a => kernel_rfl
        case hf11a => kernel_rfl
        case hr11a => kernel_rfl
        case hQ11a => exact fun _ _ _ h => h
        case hy11a =>
          refine Or.inl ⟨rfl, ?_⟩
          intro W hSw
          obtain ⟨⟨y0, y1, y2⟩, y3, y4, y5⟩ := hSw
          go_simp
          try with_reducible rfl
        case hS11a => assumption
        try simp only [Act.put, List.setIfInBounds_toArray, List.set_cons_zero, List.set_cons_succ]
        refine wpAnyH_take (i := 12) (oi := ?oi12a) (v := ?v12a) ?hi12a ?hs12a ?hf12a ?hr12a ?hQ12a ?hy12a ?hS12a ?h12a
        case hi12a => exact (by simp only [List.getElem?_toArray, List.getElem?_cons_succ, List.getElem?_cons_zero]; rfl)
        case hs12a => kernel_rfl
        case hf12a => kernel_rfl
        case hr12a => kernel_rfl
        case hQ12a => exact fun _ _ _ h => h
        case hy12a =>
          refine Or.inl ⟨rfl, ?_⟩
          intro W hSw
          obtain ⟨⟨y0, y1, y2⟩, y3, y4, y5⟩ := hSw
          go_simp
          try with_reducible rfl
        case hS12a => assumption
        try simp only [Act.put, List.setIfInBounds_toArray, List.set_cons_zero, List.set_cons_succ]
        refine wpAnyH_ready (rs := [13]) (by kernel_rfl) (by simp) ?_
        refine AllReadyH.cons (o := _) rfl (fun K hK => ?_) AllReadyH.nil
        go_simp
        refine ((HFD.out Wa2 HBa2.out)).mono ?_
        rintro r Wa3 ⟨rfl, hbq⟩
        have HBa3 := Lib.hid (HBa2.out.trans (hbq.mono HBa2.out.size))
        clear hbq
        refine hK.out _ _ (HCE.out _ (HBa3.out)) (fun hHeld => ?_)
        clear hK K
        try simp only [Act.put, List.setIfInBounds_toArray, List.set_cons_zero, List.set_cons_succ]
        refine wpAnyH_take (i := 14) (oi := ?oi14a) (v := (.bool true)) ?hi14a ?hs14a ?hf14a ?hr14a ?hQ14a ?hy14a ?hS14a ?h14a
        case hi14a => exact (by simp only [List.getElem?_toArray, List.getElem?_cons_succ, List.getElem?_cons_zero]; rfl)
        case hs14a => kernel_rfl
        case hf14a => kernel_rfl
        case hr14a => kernel_rfl
        case hQ14a => exact fun _ _ _ h => h
        case hy14a =>
          refine Or.inl ⟨rfl, ?_⟩
          intro W hSw
          obtain ⟨⟨y0, y1, y2⟩, y3, y4, y5⟩ := hSw
          go_simp
          try simp
        case hS14a => assumption
        try simp only [Act.put, List.setIfInBounds_toArray, List.set_cons_zero, List.set_cons_succ]
        refine wpAnyH_take (i := 15) (oi := ?oi15a) (v := ?v15a) ?hi15a ?hs15a ?hf15a ?hr15a ?hQ15a ?hy15a ?hS15a ?h15a
        case hi15a => exact (by simp only [List.getElem?_toArray, List.getElem?_cons_succ, List.getElem?_cons_zero]; rfl)
        case hs15a => kernel_rfl
        case hf15a => kernel_rfl
        case hr15a => kernel_rfl
        case hQ15a => exact fun _ _ _ h => h
        case hy15a =>
          refine Or.inl ⟨rfl, ?_⟩
          intro W hSw
          obtain ⟨⟨y0, y1, y2⟩, y3, y4, y5⟩ := hSw
          go_simp
          try with_reducible rfl
        case hS15a => assumption
        try simp only [Act.put, List.setIfInBounds_toArray, List.set_cons_zero, List.set_cons_succ]
        refine wpAnyH_take (i := 16) (oi := ?oi16a) (v := undef) ?hi16a ?hs16a ?hf16a ?hr16a ?hQ16a ?hy16a ?hS16a ?h16a
        case hi16a => exact (by simp only [List.getElem?_toArray, List.getElem?_cons_succ, List.getElem?_cons_zero]; rfl)
        case hs16a => kernel_rfl
        case hf16a => kernel_rfl
        case hr16a => kernel_rfl
        case hQ16a => exact fun _ _ _ h => h
        case hy16a =>
          exact Or.inr ⟨rfl, rfl⟩
        case hS16a => assumption
        try simp only [Act.put, List.setIfInBounds_toArray, List.set_cons_zero, List.set_cons_succ]
        refine wpAnyH_take (i := 17) (oi := ?oi17a) (v := undef) ?hi17a ?hs17a ?hf17a ?hr17a ?hQ17a ?hy17a ?hS17a ?h17a
        case hi17a => exact (by simp only [List.getElem?_toArray, List.getElem?_cons_succ, List.getElem?_cons_zero]; rfl)
        case hs17a => kernel_rfl
        case hf17a => kernel_rfl
        case hr17a => kernel_rfl
        case hQ17a => exact fun _ _ _ h => h
        case hy17a =>
          exact Or.inr ⟨rfl, rfl⟩
        case hS17a => assumption
        try simp only [Act.put, List.setIfInBounds_toArray, List.set_cons_zero, List.set_cons_succ]
        refine wpAnyH_take (i := 18) (oi := ?oi18a) (v := undef) ?hi18a ?hs18a ?hf18a ?hr18a ?hQ18a ?hy18a ?hS18a ?h18a
        case hi18a => exact (by simp only [List.getElem?_toArray, List.getElem?_cons_succ, List.getElem?_cons_zero]; rfl)
        case hs18a => kernel_rfl
        case hf18a => kernel_rfl
        case hr18a => kernel_rfl
        case hQ18a => exact fun _ _ _ h => h
        case hy18a =>
          exact Or.inr ⟨rfl, rfl⟩
        case hS18a => assumption
        try simp only [Act.put, List.setIfInBounds_toArray, List.set_cons_zero, List.set_cons_succ]
        refine wpAnyH_take (i := 19) (oi := ?oi19a) (v := undef) ?hi19a ?hs19a ?hf19a ?hr19a ?hQ19a ?hy19a ?hS19a ?h19a
        case hi19a => exact (by simp only [List.getElem?_toArray, List.getElem?_cons_succ, List.getElem?_cons_zero]; rfl)
        case hs19a => kernel_rfl
        case hf19a => kernel_rfl
        case hr19a => kernel_rfl
        case hQ19a => exact fun _ _ _ h => h
        case hy19a =>
          exact Or.inr ⟨rfl, rfl⟩
        case hS19a => assumption
        try simp only [Act.put, List.setIfInBounds_toArray, List.set_cons_zero, List.set_cons_succ]
        refine wpAnyH_take (i := 20) (oi := ?oi20a) (v := undef) ?hi20a ?hs20a ?hf20a ?hr20a ?hQ20a ?hy20a ?hS20a ?h20a
        case hi20a => exact (by simp only [List.getElem?_toArray, List.getElem?_cons_succ, List.getElem?_cons_zero]; rfl)
        case hs20a => kernel_rfl
        case hf20a => kernel_rfl
        case hr20a => kernel_rfl
        case hQ20a => exact fun _ _ _ h => h
        case hy20a =>
          exact Or.inr ⟨rfl, rfl⟩
        case hS20a => assumption
        try simp only [Act.put, List.setIfInBounds_toArray, List.set_cons_zero, List.set_cons_succ]
        refine wpAnyH_take (i := 21) (oi := ?oi21a) (v := ?v21a) ?hi21a ?hs21a ?hf21a ?hr21a ?hQ21a ?hy21a ?hS21a ?h21a
        case hi21a => exact (by simp only [List.getElem?_toArray, List.getElem?_cons_succ, List.getElem?_cons_zero]; rfl)
        case hs21a => kernel_rfl
        case hf21a => kernel_rfl
        case hr21a => kernel_rfl
        case hQ21a => exact fun _ _ _ h => h
        case hy21a =>
          refine Or.inl ⟨rfl, ?_⟩
          intro W hSw
          obtain ⟨⟨y0, y1, y2⟩, y3, y4, y5⟩ := hSw
          go_simp
          try with_reducible rfl
        case hS21a => assumption
        try simp only [Act.put, List.setIfInBounds_toArray, List.set_cons_zero, List.set_cons_succ]
        refine wpAnyH_take (i := 22) (oi := ?oi22a) (v := ?v22a) ?hi22a ?hs22a ?hf22a ?hr22a ?hQ22a ?hy22a ?hS22a ?h22a
        case hi22a => exact (by simp only [List.getElem?_toArray, List.getElem?_cons_succ, List.getElem?_cons_zero]; rfl)
        case hs22a => kernel_rfl
        case hf22a => kernel_rfl
        case hr22a => kernel_rfl
        case hQ22a => exact fun _ _ _ h => h
        case hy22a =>
          refine Or.inl ⟨rfl, ?_⟩
          intro W hSw
          obtain ⟨⟨y0, y1, y2⟩, y3, y4, y5⟩ := hSw
          go_simp
          try with_reducible rfl
        case hS22a => assumption
        try simp only [Act.put, List.setIfInBounds_toArray, List.set_cons_zero, List.set_cons_succ]
        refine wpAnyH_take (i := 23) (oi := ?oi23a) (v := ?v23a) ?hi23a ?hs23a ?hf23a ?hr23a ?hQ23a ?hy23a ?hS23a ?h23a
        case hi23a => exact (by simp only [List.getElem?_toArray, List.getElem?_cons_succ, List.getElem?_cons_zero]; rfl)
        case hs23a => kernel_rfl
        case hf23a => kernel_rfl
        case hr23a => kernel_rfl
        case hQ23a => exact fun _ _ _ h => h
        case hy23a =>
          refine Or.inl ⟨rfl, ?_⟩
          intro W hSw
          obtain ⟨⟨y0, y1, y2⟩, y3, y4, y5⟩ := hSw
          go_simp
          try with_reducible rfl
        case hS23a => assumption
        try simp only [Act.put, List.setIfInBounds_toArray, List.set_cons_zero, List.set_cons_succ]
        refine wpAnyH_done (by kernel_rfl) ?_ _
        go_wp2
        go_ret
        exact ⟨rfl, HB0.out.trans (HBa3.out.mono HB0.out.size)⟩
      | none =>
        have HFD := Lib.hid (HFN.out (look_none hk2))
        have HPN : Hid (∀ W, Below w0.heap.size w0 W → Calls Try.prog 21 #[.pointer (some ⟨T, 0, none⟩), .int .u32 (x : Int)] W fun r w' => r = .returned (.int .u32 0) ∧ Below W.heap.size W w') := fun W hW => HPZ.out W hW (look_none hk2)
        clear hk2
        go_upto_region 8 with (fail)
        clear p0
        have HDb : Hid (Below w0.heap.size w0 wr.drew) := HV.out.drew
        refine wp_region_held_drew (S := fun W : World => (W.cell? ⟨w.heap.size, 0, none⟩ = some (.slice A k c) ∧ W.cell? ⟨w.heap.size, 1, none⟩ = some (.int .i64 most) ∧ W.cell? ⟨w.heap.size, 2, none⟩ = some (.int .i64 idle)) ∧ W.cell? ⟨w.heap.size + 1, 1, none⟩ = some (.int .u32 (x : Int)) ∧ W.cell? ⟨w.heap.size + 1, 2, none⟩ = some (.int .u32 (y : Int)) ∧ W.cell? ⟨w.heap.size + 1, 3, none⟩ = some (.int .i64 now)) (by kernel_rfl) (HCE.out _ (HDb.out)) (fun hHeld => ?_)
        obtain ⟨Wb0, hW0⟩ : ∃ W0, W0 = wr.drew := ⟨_, rfl⟩
        rw [← hW0] at hHeld HDb ⊢
        clear hW0
        refine wpAnyH_take (i := 0) (oi := ?oi0b) (v := ?v0b) ?hi0b ?hs0b ?hf0b ?hr0b ?hQ0b ?hy0b ?hS0b ?h0b
        case hi0b => exact (by simp only [List.getElem?_toArray, List.getElem?_cons_zero]; rfl)
        case hs0b => kernel_rfl
        case hf0b => kernel_rfl
        case hr0b => kernel_rfl
        case hQ0b => exact fun _ _ _ h => h
        case hy0b =>
          refine Or.inl ⟨rfl, ?_⟩
          intro W hSw
          obtain ⟨⟨y0, y1, y2⟩, y3, y4, y5⟩ := hSw
          go_simp
          try with_reducible rfl
        case hS0b => assumption
        try simp only [Act.put, List.setIfInBounds_toArray, List.set_cons_zero, List.set_cons_succ]
        refine wpAnyH_take (i := 1) (oi := ?oi1b) (v := ?v1b) ?hi1b ?hs1b ?hf1b ?hr1b ?hQ1b ?hy1b ?hS1b ?h1b
        case hi1b => exact (by simp only [List.getElem?_toArray, List.getElem?_cons_succ, List.getElem?_cons_zero]; rfl)
        case hs1b => kernel_rfl
        case hf1b => kernel_rfl
        case hr1b => kernel_rfl
        case hQ1b => exact fun _ _ _ h => h
        case hy1b =>
          refine Or.inl ⟨rfl, ?_⟩
          intro W hSw
          obtain ⟨⟨y0, y1, y2⟩, y3, y4, y5⟩ := hSw
          go_simp
          try with_reducible rfl
        case hS1b => assumption
        try simp only [Act.put, List.setIfInBounds_toArray, List.set_cons_zero, List.set_cons_succ]
        refine wpAnyH_take (i := 2) (oi := ?oi2b) (v := ?v2b) ?hi2b ?hs2b ?hf2b ?hr2b ?hQ2b ?hy2b ?hS2b ?h2b
        case hi2b => exact (by simp only [List.getElem?_toArray, List.getElem?_cons_succ, List.getElem?_cons_zero]; rfl)
        case hs2b => kernel_rfl
        case hf2b => kernel_rfl
        case hr2b => kernel_rfl
        case hQ2b => exact fun _ _ _ h => h
        case hy2b =>
          refine Or.inl ⟨rfl, ?_⟩
          intro W hSw
          obtain ⟨⟨y0, y1, y2⟩, y3, y4, y5⟩ := hSw
          go_simp
          try with_reducible rfl
        case hS2b => assumption
        try simp only [Act.put, List.setIfInBounds_toArray, List.set_cons_zero, List.set_cons_succ]
        refine wpAnyH_take (i := 4) (oi := ?oi4b) (v := ?v4b) ?hi4b ?hs4b ?hf4b ?hr4b ?hQ4b ?hy4b ?hS4b ?h4b
        case hi4b => exact (by simp only [List.getElem?_toArray, List.getElem?_cons_succ, List.getElem?_cons_zero]; rfl)
        case hs4b => kernel_rfl
        case hf4b => kernel_rfl
        case hr4b => kernel_rfl
        case hQ4b => exact fun _ _ _ h => h
        case hy4b =>
          refine Or.inl ⟨rfl, ?_⟩
          intro W hSw
          obtain ⟨⟨y0, y1, y2⟩, y3, y4, y5⟩ := hSw
          go_simp
          try with_reducible rfl
        case hS4b => assumption
        try simp only [Act.put, List.setIfInBounds_toArray, List.set_cons_zero, List.set_cons_succ]
        refine wpAnyH_take (i := 5) (oi := ?oi5b) (v := ?v5b) ?hi5b ?hs5b ?hf5b ?hr5b ?hQ5b ?hy5b ?hS5b ?h5b
        case hi5b => exact (by simp only [List.getElem?_toArray, List.getElem?_cons_succ, List.getElem?_cons_zero]; rfl)
        case hs5b => kernel_rfl
        case hf5b => kernel_rfl
        case hr5b => kernel_rfl
        case hQ5b => exact fun _ _ _ h => h
        case hy5b =>
          refine Or.inl ⟨rfl, ?_⟩
          intro W hSw
          obtain ⟨⟨y0, y1, y2⟩, y3, y4, y5⟩ := hSw
          go_simp
          try with_reducible rfl
        case hS5b => assumption
        try simp only [Act.put, List.setIfInBounds_toArray, List.set_cons_zero, List.set_cons_succ]
        refine wpAnyH_take (i := 6) (oi := ?oi6b) (v := ?v6b) ?hi6b ?hs6b ?hf6b ?hr6b ?hQ6b ?hy6b ?hS6b ?h6b
        case hi6b => exact (by simp only [List.getElem?_toArray, List.getElem?_cons_succ, List.getElem?_cons_zero]; rfl)
        case hs6b => kernel_rfl
        case hf6b => kernel_rfl
        case hr6b => kernel_rfl
        case hQ6b => exact fun _ _ _ h => h
        case hy6b =>
          refine Or.inl ⟨rfl, ?_⟩
          intro W hSw
          obtain ⟨⟨y0, y1, y2⟩, y3, y4, y5⟩ := hSw
          go_simp
          try with_reducible rfl
        case hS6b => assumption
        try simp only [Act.put, List.setIfInBounds_toArray, List.set_cons_zero, List.set_cons_succ]
        refine wpAnyH_ready (rs := [3]) (by kernel_rfl) (by simp) ?_
        refine AllReadyH.cons (o := _) rfl (fun K hK => ?_) AllReadyH.nil
        go_simp
        refine ((HCN.out Wb0 HDb.out)).mono ?_
        rintro r Wb1 ⟨rfl, hbq⟩
        have HBb1 := Lib.hid (HDb.out.trans (hbq.mono HDb.out.size))
        clear hbq
        refine hK.out _ _ (HCE.out _ (HBb1.out)) (fun hHeld => ?_)
        clear hK K
        try simp only [Act.put, List.setIfInBounds_toArray, List.set_cons_zero, List.set_cons_succ]
        refine wpAnyH_ready (rs := [7]) (by kernel_rfl) (by simp) ?_
        refine AllReadyH.cons (o := _) rfl (fun K hK => ?_) AllReadyH.nil
        go_simp
        refine ((HRN.out Wb1 HBb1.out)).mono ?_
        rintro r Wb2 ⟨rfl, hbq⟩
        have HBb2 := Lib.hid (HBb1.out.trans (hbq.mono HBb1.out.size))
        clear hbq
        refine hK.out _ _ (HCE.out _ (HBb2.out)) (fun hHeld => ?_)
        clear hK K
        try simp only [Act.put, List.setIfInBounds_toArray, List.set_cons_zero, List.set_cons_succ]
        refine wpAnyH_take (i := 8) (oi := ?oi8b) (v := (.bool true)) ?hi8b ?hs8b ?hf8b ?hr8b ?hQ8b ?hy8b ?hS8b ?h8b
        case hi8b => exact (by simp only [List.getElem?_toArray, List.getElem?_cons_succ, List.getElem?_cons_zero]; rfl)
        case hs8b => kernel_rfl
        case hf8b => kernel_rfl
        case hr8b => kernel_rfl
        case hQ8b => exact fun _ _ _ h => h
        case hy8b =>
          refine Or.inl ⟨rfl, ?_⟩
          intro W hSw
          obtain ⟨⟨y0, y1, y2⟩, y3, y4, y5⟩ := hSw
          go_simp
          try simp
        case hS8b => assumption
        try simp only [Act.put, List.setIfInBounds_toArray, List.set_cons_zero, List.set_cons_succ]
        refine wpAnyH_take (i := 9) (oi := ?oi9b) (v := ?v9b) ?hi9b ?hs9b ?hf9b ?hr9b ?hQ9b ?hy9b ?hS9b ?h9b
        case hi9b => exact (by simp only [List.getElem?_toArray, List.getElem?_cons_succ, List.getElem?_cons_zero]; rfl)
        case hs9b => kernel_rfl
        case hf9b => kernel_rfl
        case hr9b => kernel_rfl
        case hQ9b => exact fun _ _ _ h => h
        case hy9b =>
          refine Or.inl ⟨rfl, ?_⟩
          intro W hSw
          obtain ⟨⟨y0, y1, y2⟩, y3, y4, y5⟩ := hSw
          go_simp
          try with_reducible rfl
        case hS9b => assumption
        try simp only [Act.put, List.setIfInBounds_toArray, List.set_cons_zero, List.set_cons_succ]
        refine wpAnyH_take (i := 10) (oi := ?oi10b) (v := ?v10b) ?hi10b ?hs10b ?hf10b ?hr10b ?hQ10b ?hy10b ?hS10b ?h10b
        case hi10b => exact (by simp only [List.getElem?_toArray, List.getElem?_cons_succ, List.getElem?_cons_zero]; rfl)
        case hs10b => kernel_rfl
        case hf10b => kernel_rfl
        case hr10b => kernel_rfl
        case hQ10b => exact fun _ _ _ h => h
        case hy10b =>
          refine Or.inl ⟨rfl, ?_⟩
          intro W hSw
          obtain ⟨⟨y0, y1, y2⟩, y3, y4, y5⟩ := hSw
          go_simp
          try with_reducible rfl
        case hS10b => assumption
        try simp only [Act.put, List.setIfInBounds_toArray, List.set_cons_zero, List.set_cons_succ]
        refine wpAnyH_take (i := 11) (oi := ?oi11b) (v := ?v11b) ?hi11b ?hs11b ?hf11b ?hr11b ?hQ11b ?hy11b ?hS11b ?h11b
        case hi11b => exact (by simp only [List.getElem?_toArray, List.getElem?_cons_succ, List.getElem?_cons_zero]; rfl)
        case hs11b => kernel_rfl
        case hf11b => kernel_rfl
        case hr11b => kernel_rfl
        case hQ11b => exact fun _ _ _ h => h
        case hy11b =>
          refine Or.inl ⟨rfl, ?_⟩
          intro W hSw
          obtain ⟨⟨y0, y1, y2⟩, y3, y4, y5⟩ := hSw
          go_simp
          try with_reducible rfl
        case hS11b => assumption
        try simp only [Act.put, List.setIfInBounds_toArray, List.set_cons_zero, List.set_cons_succ]
        refine wpAnyH_take (i := 12) (oi := ?oi12b) (v := ?v12b) ?hi12b ?hs12b ?hf12b ?hr12b ?hQ12b ?hy12b ?hS12b ?h12b
        case hi12b => exact (by simp only [List.getElem?_toArray, List.getElem?_cons_succ, List.getElem?_cons_zero]; rfl)
        case hs12b => kernel_rfl
        case hf12b => kernel_rfl
        case hr12b => kernel_rfl
        case hQ12b => exact fun _ _ _ h => h
        case hy12b =>
          refine Or.inl ⟨rfl, ?_⟩
          intro W hSw
          obtain ⟨⟨y0, y1, y2⟩, y3, y4, y5⟩ := hSw
          go_simp
          try with_reducible rfl
        case hS12b => assumption
        try simp only [Act.put, List.setIfInBounds_toArray, List.set_cons_zero, List.set_cons_succ]
        refine wpAnyH_ready (rs := [13]) (by kernel_rfl) (by simp) ?_
        refine AllReadyH.cons (o := _) rfl (fun K hK => ?_) AllReadyH.nil
        go_simp
        refine ((HFD.out Wb2 HBb2.out)).mono ?_
        rintro r Wb3 ⟨rfl, hbq⟩
        have HBb3 := Lib.hid (HBb2.out.trans (hbq.mono HBb2.out.size))
        clear hbq
        refine hK.out _ _ (HCE.out _ (HBb3.out)) (fun hHeld => ?_)
        clear hK K
        try simp only [Act.put, List.setIfInBounds_toArray, List.set_cons_zero, List.set_cons_succ]
        refine wpAnyH_take (i := 14) (oi := ?oi14b) (v := (.bool false)) ?hi14b ?hs14b ?hf14b ?hr14b ?hQ14b ?hy14b ?hS14b ?h14b
        case hi14b => exact (by simp only [List.getElem?_toArray, List.getElem?_cons_succ, List.getElem?_cons_zero]; rfl)
        case hs14b => kernel_rfl
        case hf14b => kernel_rfl
        case hr14b => kernel_rfl
        case hQ14b => exact fun _ _ _ h => h
        case hy14b =>
          refine Or.inl ⟨rfl, ?_⟩
          intro W hSw
          obtain ⟨⟨y0, y1, y2⟩, y3, y4, y5⟩ := hSw
          go_simp
          try simp
        case hS14b => assumption
        try simp only [Act.put, List.setIfInBounds_toArray, List.set_cons_zero, List.set_cons_succ]
        refine wpAnyH_take (i := 15) (oi := ?oi15b) (v := ?v15b) ?hi15b ?hs15b ?hf15b ?hr15b ?hQ15b ?hy15b ?hS15b ?h15b
        case hi15b => exact (by simp only [List.getElem?_toArray, List.getElem?_cons_succ, List.getElem?_cons_zero]; rfl)
        case hs15b => kernel_rfl
        case hf15b => kernel_rfl
        case hr15b => kernel_rfl
        case hQ15b => exact fun _ _ _ h => h
        case hy15b =>
          refine Or.inl ⟨rfl, ?_⟩
          intro W hSw
          obtain ⟨⟨y0, y1, y2⟩, y3, y4, y5⟩ := hSw
          go_simp
          try with_reducible rfl
        case hS15b => assumption
        try simp only [Act.put, List.setIfInBounds_toArray, List.set_cons_zero, List.set_cons_succ]
        refine wpAnyH_take (i := 16) (oi := ?oi16b) (v := ?v16b) ?hi16b ?hs16b ?hf16b ?hr16b ?hQ16b ?hy16b ?hS16b ?h16b
        case hi16b => exact (by simp only [List.getElem?_toArray, List.getElem?_cons_succ, List.getElem?_cons_zero]; rfl)
        case hs16b => kernel_rfl
        case hf16b => kernel_rfl
        case hr16b => kernel_rfl
        case hQ16b => exact fun _ _ _ h => h
        case hy16b =>
          refine Or.inl ⟨rfl, ?_⟩
          intro W hSw
          obtain ⟨⟨y0, y1, y2⟩, y3, y4, y5⟩ := hSw
          go_simp
          try with_reducible rfl
        case hS16b => assumption
        try simp only [Act.put, List.setIfInBounds_toArray, List.set_cons_zero, List.set_cons_succ]
        refine wpAnyH_take (i := 17) (oi := ?oi17b) (v := ?v17b) ?hi17b ?hs17b ?hf17b ?hr17b ?hQ17b ?hy17b ?hS17b ?h17b
        case hi17b => exact (by simp only [List.getElem?_toArray, List.getElem?_cons_succ, List.getElem?_cons_zero]; rfl)
        case hs17b => kernel_rfl
        case hf17b => kernel_rfl
        case hr17b => kernel_rfl
        case hQ17b => exact fun _ _ _ h => h
        case hy17b =>
          refine Or.inl ⟨rfl, ?_⟩
          intro W hSw
          obtain ⟨⟨y0, y1, y2⟩, y3, y4, y5⟩ := hSw
          go_simp
          try with_reducible rfl
        case hS17b => assumption
        try simp only [Act.put, List.setIfInBounds_toArray, List.set_cons_zero, List.set_cons_succ]
        refine wpAnyH_take (i := 18) (oi := ?oi18b) (v := ?v18b) ?hi18b ?hs18b ?hf18b ?hr18b ?hQ18b ?hy18b ?hS18b ?h18b
        case hi18b => exact (by simp only [List.getElem?_toArray, List.getElem?_cons_succ, List.getElem?_cons_zero]; rfl)
        case hs18b => kernel_rfl
        case hf18b => kernel_rfl
        case hr18b => kernel_rfl
        case hQ18b => exact fun _ _ _ h => h
        case hy18b =>
          refine Or.inl ⟨rfl, ?_⟩
          intro W hSw
          obtain ⟨⟨y0, y1, y2⟩, y3, y4, y5⟩ := hSw
          go_simp
          try with_reducible rfl
        case hS18b => assumption
        try simp only [Act.put, List.setIfInBounds_toArray, List.set_cons_zero, List.set_cons_succ]
        refine wpAnyH_ready (rs := [19]) (by kernel_rfl) (by simp) ?_
        refine AllReadyH.cons (o := _) rfl (fun K hK => ?_) AllReadyH.nil
        go_simp
        refine ((HPN.out Wb3 HBb3.out)).mono ?_
        rintro r Wb4 ⟨rfl, hbq⟩
        have HBb4 := Lib.hid (HBb3.out.trans (hbq.mono HBb3.out.size))
        clear hbq
        refine hK.out _ _ (HCE.out _ (HBb4.out)) (fun hHeld => ?_)
        clear hK K
        try simp only [Act.put, List.setIfInBounds_toArray, List.set_cons_zero, List.set_cons_succ]
        refine wpAnyH_take (i := 20) (oi := ?oi20b) (v := (.bool true)) ?hi20b ?hs20b ?hf20b ?hr20b ?hQ20b ?hy20b ?hS20b ?h20b
        case hi20b => exact (by simp only [List.getElem?_toArray, List.getElem?_cons_succ, List.getElem?_cons_zero]; rfl)
        case hs20b => kernel_rfl
        case hf20b => kernel_rfl
        case hr20b => kernel_rfl
        case hQ20b => exact fun _ _ _ h => h
        case hy20b =>
          refine Or.inl ⟨rfl, ?_⟩
          intro W hSw
          obtain ⟨⟨y0, y1, y2⟩, y3, y4, y5⟩ := hSw
          go_simp
          try simp
        case hS20b => assumption
        try simp only [Act.put, List.setIfInBounds_toArray, List.set_cons_zero, List.set_cons_succ]
        refine wpAnyH_take (i := 21) (oi := ?oi21b) (v := ?v21b) ?hi21b ?hs21b ?hf21b ?hr21b ?hQ21b ?hy21b ?hS21b ?h21b
        case hi21b => exact (by simp only [List.getElem?_toArray, List.getElem?_cons_succ, List.getElem?_cons_zero]; rfl)
        case hs21b => kernel_rfl
        case hf21b => kernel_rfl
        case hr21b => kernel_rfl
        case hQ21b => exact fun _ _ _ h => h
        case hy21b =>
          refine Or.inl ⟨rfl, ?_⟩
          intro W hSw
          obtain ⟨⟨y0, y1, y2⟩, y3, y4, y5⟩ := hSw
          go_simp
          try with_reducible rfl
        case hS21b => assumption
        try simp only [Act.put, List.setIfInBounds_toArray, List.set_cons_zero, List.set_cons_succ]
        refine wpAnyH_take (i := 22) (oi := ?oi22b) (v := ?v22b) ?hi22b ?hs22b ?hf22b ?hr22b ?hQ22b ?hy22b ?hS22b ?h22b
        case hi22b => exact (by simp only [List.getElem?_toArray, List.getElem?_cons_succ, List.getElem?_cons_zero]; rfl)
        case hs22b => kernel_rfl
        case hf22b => kernel_rfl
        case hr22b => kernel_rfl
        case hQ22b => exact fun _ _ _ h => h
        case hy22b =>
          refine Or.inl ⟨rfl, ?_⟩
          intro W hSw
          obtain ⟨⟨y0, y1, y2⟩, y3, y4, y5⟩ := hSw
          go_simp
          try with_reducible rfl
        case hS22b => assumption
        try simp only [Act.put, List.setIfInBounds_toArray, List.set_cons_zero, List.set_cons_succ]
        refine wpAnyH_take (i := 23) (oi := ?oi23b) (v := ?v23b) ?hi23b ?hs23b ?hf23b ?hr23b ?hQ23b ?hy23b ?hS23b ?h23b
        case hi23b => exact (by simp only [List.getElem?_toArray, List.getElem?_cons_succ, List.getElem?_cons_zero]; rfl)
        case hs23b => kernel_rfl
        case hf23b => kernel_rfl
        case hr23b => kernel_rfl
        case hQ23b => exact fun _ _ _ h => h
        case hy23b =>
          refine Or.inl ⟨rfl, ?_⟩
          intro W hSw
          obtain ⟨⟨y0, y1, y2⟩, y3, y4, y5⟩ := hSw
          go_simp
          try with_reducible rfl
        case hS23b => assumption
        try simp only [Act.put, List.setIfInBounds_toArray, List.set_cons_zero, List.set_cons_succ]
        refine wpAnyH_done (by kernel_rfl) ?_ _
        go_wp2
        go_ret
        exact ⟨rfl, HB0.out.trans (HBb4.out.mono HB0.out.size)⟩
end Go.Proofs.Ytfgabmjnpjmmgaa.T
