/- Pool: the document's Do, in one; like. -/
import Derived.Test.YtddjbkaofodmlaaPI
namespace Go.Proofs.Ytddjbkaofodmlaa
open Go.RowKit
set_option maxRecDepth 20000
set_option linter.unusedVariables false
set_option linter.unusedSimpArgs false

theorem rdo_there (A : Option Addr) (n c j y : Nat) (d beat now : Int) (e : In) (l : List In) (w : World) (hn : n = l.length) (hR : Rs w w.heap.size A l) (hl : n ≤ 16) (hj : l[j]? = some e) (hd : 0 ≤ d) :
    Calls Try.prog 10 #[rV A n c beat, .int .u8 d, .int .u32 ((j + 1 : Nat) : Int), .int .u32 (y : Int), .int .i64 now] w (DPost A n beat ((stepQ d y now e).1, (stepQ d y now e).2.1) (l.set j (stepQ d y now e).2.2) w) := by
  obtain ⟨s, m, a⟩ := e
  by_cases h8 : 8 ≤ d
  · have e8 : stepQ d y now (s, m, a) = if s = 0 then (0, 24, (s, m, a)) else (m, 0, (0, 0, a)) := by
      unfold stepQ
      rw [if_neg (by omega), if_neg (by omega), if_neg (by omega), if_neg (by omega), if_neg (by omega), if_neg (by omega), if_neg (by omega), if_neg (by omega)]
    by_cases hs : s = 0
    · rw [e8, if_pos hs, set_same hj]
      exact rdo8_e A n c j y d (by omega) (by omega) (by omega) (by omega) (by omega) (by omega) (by omega) (by omega) beat now s m a l w hn hR hl hj hs
    · rw [e8, if_neg hs]
      exact rdo8_o A n c j y d (by omega) (by omega) (by omega) (by omega) (by omega) (by omega) (by omega) (by omega) beat now s m a l w hn hR hl hj hs
  · obtain rfl | rfl | rfl | rfl | rfl | rfl | rfl | rfl : d = 0 ∨ d = 1 ∨ d = 2 ∨ d = 3 ∨ d = 4 ∨ d = 5 ∨ d = 6 ∨ d = 7 := by omega
    · exact rdo0_a A n c j y beat now s m a l w hn hR hl hj
    · by_cases hs : s = 0
      · rw [show stepQ 1 y now (s, m, a) = (0, 24, (s, m, a)) by simp [stepQ, hs], set_same hj]
        exact rdo1_e A n c j y beat now s m a l w hn hR hl hj hs
      · by_cases hs3 : s = 3
        · rw [show stepQ 1 y now (s, m, a) = (0, 0, (3, m, a)) by simp [stepQ, hs3]]
          exact rdo1_t A n c j y beat now s m a l w hn hR hl hj hs3
        · rw [show stepQ 1 y now (s, m, a) = (0, 0, (s, m, now)) by simp [stepQ, hs, hs3]]
          exact rdo1_o A n c j y beat now s m a l w hn hR hl hj hs hs3
    · by_cases hs : s = 1
      · by_cases hy : 1 ≤ y ∧ y ≤ 2147483647
        · rw [show stepQ 2 y now (s, m, a) = (0, 0, (2, (y : Int), a)) by simp [stepQ, hs, hy]]
          exact rdo2_o A n c j y beat now s m a l w hn hR hl hj hs hy
        · rw [show stepQ 2 y now (s, m, a) = (0, 14, (s, m, a)) by simp only [stepQ, hs, if_neg hy]; rfl, set_same hj]
          exact rdo2_i A n c j y beat now s m a l w hn hR hl hj hs hy
      · rw [show stepQ 2 y now (s, m, a) = (0, 24, (s, m, a)) by simp [stepQ, hs], set_same hj]
        exact rdo2_e A n c j y beat now s m a l w hn hR hl hj hs
    · by_cases hs : s = 2
      · rw [show stepQ 3 y now (s, m, a) = (0, 0, (3, m, now)) by simp [stepQ, hs]]
        exact rdo3_o A n c j y beat now s m a l w hn hR hl hj hs
      · rw [show stepQ 3 y now (s, m, a) = (0, 24, (s, m, a)) by simp [stepQ, hs], set_same hj]
        exact rdo3_e A n c j y beat now s m a l w hn hR hl hj hs
    · by_cases hs : s = 3
      · rw [show stepQ 4 y now (s, m, a) = (0, 0, (4, m, now)) by simp [stepQ, hs]]
        exact rdo4_o A n c j y beat now s m a l w hn hR hl hj hs
      · rw [show stepQ 4 y now (s, m, a) = (0, 24, (s, m, a)) by simp [stepQ, hs], set_same hj]
        exact rdo4_e A n c j y beat now s m a l w hn hR hl hj hs
    · by_cases hs : s = 2
      · rw [show stepQ 5 y now (s, m, a) = (0, 0, (1, 0, a)) by simp [stepQ, hs]]
        exact rdo5_o A n c j y beat now s m a l w hn hR hl hj hs
      · rw [show stepQ 5 y now (s, m, a) = (0, 24, (s, m, a)) by simp [stepQ, hs], set_same hj]
        exact rdo5_e A n c j y beat now s m a l w hn hR hl hj hs
    · by_cases hs : s = 3
      · rw [show stepQ 6 y now (s, m, a) = (0, 0, (5, 0, a)) by simp [stepQ, hs]]
        exact rdo6_t A n c j y beat now s m a l w hn hR hl hj hs
      · by_cases hs4 : s = 4
        · rw [show stepQ 6 y now (s, m, a) = (0, 0, (5, 0, a)) by simp [stepQ, hs4]]
          exact rdo6_o A n c j y beat now s m a l w hn hR hl hj hs4
        · rw [show stepQ 6 y now (s, m, a) = (0, 24, (s, m, a)) by simp [stepQ, hs, hs4], set_same hj]
          exact rdo6_e A n c j y beat now s m a l w hn hR hl hj hs hs4
    · by_cases hs : s = 5
      · rw [show stepQ 7 y now (s, m, a) = (0, 0, (1, 0, now)) by simp [stepQ, hs]]
        exact rdo7_o A n c j y beat now s m a l w hn hR hl hj hs
      · rw [show stepQ 7 y now (s, m, a) = (0, 24, (s, m, a)) by simp [stepQ, hs], set_same hj]
        exact rdo7_e A n c j y beat now s m a l w hn hR hl hj hs
def LtPost (lst : List Nat) (w : World) (r : Ending) (w' : World) : Prop := ∃ v', r = .returned v' ∧ S32 w' v' lst ∧ Below w.heap.size w w'
set_option maxHeartbeats 16000000 in
theorem like_any {B P I : Nat} {beat : Int} {l : List In} (A : Option Addr) (n c : Nat) (now : Int) (w : World) (h : Po w B P I beat l) (hn : n = l.length) (hR : Rs w w.heap.size A l) (hI : ∀ e ∈ l, inI e.2.2) (hb : inI beat) (hnow : inI now) :
    Calls Try.prog 11 #[.pointer (some ⟨P, 0, none⟩), rV A n c beat, .int .i64 now] w fun r w' => r = .returned (.bool true) ∧ Below w.heap.size w w' := by
  have hl : n ≤ 16 := by rw [hn]; exact h.2.2.1
  obtain ⟨L, hL⟩ : ∃ L, L = lateU beat now l 0 := ⟨_, rfl⟩
  obtain ⟨U, hU⟩ : ∃ U, U = leastU l 0 := ⟨_, rfl⟩
  obtain ⟨w0, hw0⟩ : ∃ w0, w0 = w.alloc (.cells (rC A n c beat) 27) := ⟨_, rfl⟩
  have hb0 : Below w.heap.size w w0 := by rw [hw0]; exact (Below.refl _ _).alloc (Nat.le_refl _) _
  have hq0 : w0.heap[w.heap.size]? = some (.cells (rC A n c beat) 27 (0, 0)) := by rw [hw0]; exact heap_alloc_new w _
  have HCE : Hid (∀ W, Below w0.heap.size w0 W → W.cell? ⟨w.heap.size, 0, none⟩ = some (.slice A n c) ∧ W.cell? ⟨w.heap.size, 1, none⟩ = some (.int .i64 beat)) := fun W hW => by
    have e := (hW.block _ (lt_of_block hq0)).trans hq0
    exact ⟨cell_of_row W _ 0 _ _ _ e, cell_of_row W _ 1 _ _ _ e⟩
  have HP : Hid (∀ W, Below w0.heap.size w0 W → Po W B P I beat l) := fun W hW => (h.after hb0).after hW
  have HRR : Hid (∀ W, Below w0.heap.size w0 W → Rs W W.heap.size A l) := fun W hW => ((hR.below hb0).below (hW.mono hb0.size)).mono (Nat.le_trans hb0.size hW.size)
  have HMY : Hid (∀ W, Below w0.heap.size w0 W → Calls Try.prog 22 #[.pointer (some ⟨P, 0, none⟩)] W fun r w' => r = .returned (.int .i64 (n : Int)) ∧ Below W.heap.size W w') := fun W hW => by
    rw [hn]
    exact (many_any W (HP.out W hW)).mono fun r w' ⟨e, e2⟩ => ⟨e, by rw [e2]; exact Below.refl _ _⟩
  have HLE : Hid (∀ W, Below w0.heap.size w0 W → Calls Try.prog 21 #[.pointer (some ⟨P, 0, none⟩)] W fun r w' => r = .returned (.int .u32 (U : Int)) ∧ Below W.heap.size W w') := fun W hW => by
    rw [hU]
    exact (least_any W (HP.out W hW)).mono fun r w' ⟨e, e2⟩ => ⟨e, by rw [e2]; exact Below.refl _ _⟩
  have HRL : Hid (∀ W, Below w0.heap.size w0 W → Calls Try.prog 30 #[rV A n c beat] W fun r w' => r = .returned (.int .u32 (U : Int)) ∧ Below W.heap.size W w') := fun W hW => by
    rw [hU]
    exact rleast_any A n c beat l W hn (HRR.out W hW) hl
  have HLA : Hid (∀ W, Below w0.heap.size w0 W → Calls Try.prog 18 #[.pointer (some ⟨P, 0, none⟩), .int .i64 now] W (LtPost L W)) := fun W hW => by
    rw [hL]
    exact (late_any now W (HP.out W hW) hI hb hnow).mono fun r w' ⟨v', e, ho, hb⟩ => ⟨v', e, S32.of_own ho, hb⟩
  have HRT : Hid (∀ W, Below w0.heap.size w0 W → Calls Try.prog 32 #[rV A n c beat, .int .i64 now] W (LtPost L W)) := fun W hW => by
    rw [hL]
    exact (rlate_any A n c beat now l W hn (HRR.out W hW) hl hI hb hnow).mono fun r w' ⟨v', e, ho, hb⟩ => ⟨v', e, S32.of_own ho, hb⟩
  have HLL : Hid (L.length ≤ 1000) := by simp only [Hid]; rw [hL]; exact Nat.le_trans (lateU_len _ _ _ _) (by omega)
  have HIN : Hid (∀ (x : Nat) W, Below w0.heap.size w0 W → ∃ (s m a : Int) (t : Bool), (Calls Try.prog 13 #[.pointer (some ⟨P, 0, none⟩), .int .u32 (x : Int)] W fun r w' => r = .returned (.tuple #[iV s m a, .bool t]) ∧ Below W.heap.size W w') ∧ ∀ W', Below w0.heap.size w0 W' → Calls Try.prog 27 #[rV A n c beat, .int .u32 (x : Int)] W' fun r w' => r = .returned (.tuple #[iV s m a, .bool t]) ∧ Below W'.heap.size W' w') := fun x W hW => by
    by_cases hx : x = 0 ∨ n < x
    · exact ⟨0, 0, 0, false, inst_miss _ x W (.inr ⟨B, P, I, beat, l, rfl, HP.out W hW, by rw [← hn]; exact hx⟩), fun W' hW' => rget_miss A n c x beat W' hl hx⟩
    · obtain ⟨j, rfl⟩ : ∃ j, x = j + 1 := ⟨x - 1, by omega⟩
      obtain ⟨⟨s, m, a⟩, hj⟩ : ∃ e, l[j]? = some e := ⟨l[j]'(by omega), List.getElem?_eq_getElem _⟩
      exact ⟨s, m, a, true, inst_there j s m a W (HP.out W hW) hj, fun W' hW' => rget_there A n c j beat l s m a W' hn (HRR.out W' hW') hl hj⟩
  have HBS : Hid (Below w0.heap.size w0 w0) := Below.refl _ _
  have HB0 := Lib.hid hb0
  have H0 := Lib.hid hw0
  clear hw0 hb0 hq0 hL hU h hn hR hI hb hnow
  go_enter Try.func11, Try.ntmps11
  go_upto_region 1 with (fail)
  rw [← H0.out]
  have HD : Hid (Below w0.heap.size w0 w0.drew) := HBS.out.drew
  refine wp_region_held_drew (S := fun W : World => W.cell? ⟨w.heap.size, 0, none⟩ = some (.slice A n c) ∧ W.cell? ⟨w.heap.size, 1, none⟩ = some (.int .i64 beat)) (by kernel_rfl) (HCE.out _ (HD.out)) (fun hHeld => ?_)
  obtain ⟨W0, hW0⟩ : ∃ W0, W0 = w0.drew := ⟨_, rfl⟩
  rw [← hW0] at hHeld HD ⊢
  clear hW0
  refine wpAnyH_take (i := 0) (oi := ?oi0) (v := ?v0) ?hi0 ?hs0 ?hf0 ?hr0 ?hQ0 ?hy0 ?hS0 ?h0
  case hi0 => exact (by simp only [List.getElem?_toArray, List.getElem?_cons_zero]; rfl)
  case hs0 => kernel_rfl
  case hf0 => kernel_rfl
  case hr0 => kernel_rfl
  case hQ0 => exact fun _ _ _ h => h
  case hy0 =>
    refine Or.inl ⟨rfl, ?_⟩
    intro W hSw
    obtain ⟨y0, y1⟩ := hSw
    go_simp
    try with_reducible rfl
  case hS0 => assumption
  try simp only [Act.put, List.setIfInBounds_toArray, List.set_cons_zero, List.set_cons_succ]
  refine wpAnyH_take (i := 2) (oi := ?oi2) (v := ?v2) ?hi2 ?hs2 ?hf2 ?hr2 ?hQ2 ?hy2 ?hS2 ?h2
  case hi2 => exact (by simp only [List.getElem?_toArray, List.getElem?_cons_succ, List.getElem?_cons_zero]; rfl)
  case hs2 => kernel_rfl
  case hf2 => kernel_rfl
  case hr2 => kernel_rfl
  case hQ2 => exact fun _ _ _ h => h
  case hy2 =>
    refine Or.inl ⟨rfl, ?_⟩
    intro W hSw
    obtain ⟨y0, y1⟩ := hSw
    go_simp
    try with_reducible rfl
  case hS2 => assumption
  try simp only [Act.put, List.setIfInBounds_toArray, List.set_cons_zero, List.set_cons_succ]
  refine wpAnyH_take (i := 3) (oi := ?oi3) (v := ?v3) ?hi3 ?hs3 ?hf3 ?hr3 ?hQ3 ?hy3 ?hS3 ?h3
  case hi3 => exact (by simp only [List.getElem?_toArray, List.getElem?_cons_succ, List.getElem?_cons_zero]; rfl)
  case hs3 => kernel_rfl
  case hf3 => kernel_rfl
  case hr3 => kernel_rfl
  case hQ3 => exact fun _ _ _ h => h
  case hy3 =>
    refine Or.inl ⟨rfl, ?_⟩
    intro W hSw
    obtain ⟨y0, y1⟩ := hSw
    go_simp
    try with_reducible rfl
  case hS3 => assumption
  try simp only [Act.put, List.setIfInBounds_toArray, List.set_cons_zero, List.set_cons_succ]
  refine wpAnyH_take (i := 4) (oi := ?oi4) (v := ?v4) ?hi4 ?hs4 ?hf4 ?hr4 ?hQ4 ?hy4 ?hS4 ?h4
  case hi4 => exact (by simp only [List.getElem?_toArray, List.getElem?_cons_succ, List.getElem?_cons_zero]; rfl)
  case hs4 => kernel_rfl
  case hf4 => kernel_rfl
  case hr4 => kernel_rfl
  case hQ4 => exact fun _ _ _ h => h
  case hy4 =>
    refine Or.inl ⟨rfl, ?_⟩
    intro W hSw
    obtain ⟨y0, y1⟩ := hSw
    go_simp
    try with_reducible rfl
  case hS4 => assumption
  try simp only [Act.put, List.setIfInBounds_toArray, List.set_cons_zero, List.set_cons_succ]
  refine wpAnyH_ready (rs := [1]) (by kernel_rfl) (by simp) ?_
  refine AllReadyH.cons (o := _) rfl (fun K hK => ?_) AllReadyH.nil
  go_simp
  refine ((HMY.out W0 HD.out)).mono ?_
  rintro r W1 ⟨rfl, hbq⟩
  have HB1 := Lib.hid (HD.out.trans (hbq.mono HD.out.size))
  clear hbq
  refine hK.out _ _ (HCE.out _ (HB1.out)) (fun hHeld => ?_)
  clear hK K
  try simp only [Act.put, List.setIfInBounds_toArray, List.set_cons_zero, List.set_cons_succ]
  refine wpAnyH_take (i := 5) (oi := ?oi5) (v := (.bool false)) ?hi5 ?hs5 ?hf5 ?hr5 ?hQ5 ?hy5 ?hS5 ?h5
  case hi5 => exact (by simp only [List.getElem?_toArray, List.getElem?_cons_succ, List.getElem?_cons_zero]; rfl)
  case hs5 => kernel_rfl
  case hf5 => kernel_rfl
  case hr5 => kernel_rfl
  case hQ5 => exact fun _ _ _ h => h
  case hy5 =>
    refine Or.inl ⟨rfl, ?_⟩
    intro W hSw
    obtain ⟨y0, y1⟩ := hSw
    go_simp
    try simp
  case hS5 => assumption
  try simp only [Act.put, List.setIfInBounds_toArray, List.set_cons_zero, List.set_cons_succ]
  refine wpAnyH_take (i := 6) (oi := ?oi6) (v := ?v6) ?hi6 ?hs6 ?hf6 ?hr6 ?hQ6 ?hy6 ?hS6 ?h6
  case hi6 => exact (by simp only [List.getElem?_toArray, List.getElem?_cons_succ, List.getElem?_cons_zero]; rfl)
  case hs6 => kernel_rfl
  case hf6 => kernel_rfl
  case hr6 => kernel_rfl
  case hQ6 => exact fun _ _ _ h => h
  case hy6 =>
    refine Or.inl ⟨rfl, ?_⟩
    intro W hSw
    obtain ⟨y0, y1⟩ := hSw
    go_simp
    try with_reducible rfl
  case hS6 => assumption
  try simp only [Act.put, List.setIfInBounds_toArray, List.set_cons_zero, List.set_cons_succ]
  refine wpAnyH_take (i := 7) (oi := ?oi7) (v := ?v7) ?hi7 ?hs7 ?hf7 ?hr7 ?hQ7 ?hy7 ?hS7 ?h7
  case hi7 => exact (by simp only [List.getElem?_toArray, List.getElem?_cons_succ, List.getElem?_cons_zero]; rfl)
  case hs7 => kernel_rfl
  case hf7 => kernel_rfl
  case hr7 => kernel_rfl
  case hQ7 => exact fun _ _ _ h => h
  case hy7 =>
    refine Or.inl ⟨rfl, ?_⟩
    intro W hSw
    obtain ⟨y0, y1⟩ := hSw
    go_simp
    try with_reducible rfl
  case hS7 => assumption
  try simp only [Act.put, List.setIfInBounds_toArray, List.set_cons_zero, List.set_cons_succ]
  refine wpAnyH_take (i := 9) (oi := ?oi9) (v := ?v9) ?hi9 ?hs9 ?hf9 ?hr9 ?hQ9 ?hy9 ?hS9 ?h9
  case hi9 => exact (by simp only [List.getElem?_toArray, List.getElem?_cons_succ, List.getElem?_cons_zero]; rfl)
  case hs9 => kernel_rfl
  case hf9 => kernel_rfl
  case hr9 => kernel_rfl
  case hQ9 => exact fun _ _ _ h => h
  case hy9 =>
    refine Or.inl ⟨rfl, ?_⟩
    intro W hSw
    obtain ⟨y0, y1⟩ := hSw
    go_simp
    try with_reducible rfl
  case hS9 => assumption
  try simp only [Act.put, List.setIfInBounds_toArray, List.set_cons_zero, List.set_cons_succ]
  refine wpAnyH_ready (rs := [8]) (by kernel_rfl) (by simp) ?_
  refine AllReadyH.cons (o := _) rfl (fun K hK => ?_) AllReadyH.nil
  go_simp
  refine ((HLE.out W1 HB1.out)).mono ?_
  rintro r W2 ⟨rfl, hbq⟩
  have HB2 := Lib.hid (HB1.out.trans (hbq.mono HB1.out.size))
  clear hbq
  refine hK.out _ _ (HCE.out _ (HB2.out)) (fun hHeld => ?_)
  clear hK K
  try simp only [Act.put, List.setIfInBounds_toArray, List.set_cons_zero, List.set_cons_succ]
  refine wpAnyH_ready (rs := [10]) (by kernel_rfl) (by simp) ?_
  refine AllReadyH.cons (o := _) rfl (fun K hK => ?_) AllReadyH.nil
  go_simp
  refine ((HRL.out W2 HB2.out)).mono ?_
  rintro r W3 ⟨rfl, hbq⟩
  have HB3 := Lib.hid (HB2.out.trans (hbq.mono HB2.out.size))
  clear hbq
  refine hK.out _ _ (HCE.out _ (HB3.out)) (fun hHeld => ?_)
  clear hK K
  try simp only [Act.put, List.setIfInBounds_toArray, List.set_cons_zero, List.set_cons_succ]
  refine wpAnyH_take (i := 11) (oi := ?oi11) (v := (.bool false)) ?hi11 ?hs11 ?hf11 ?hr11 ?hQ11 ?hy11 ?hS11 ?h11
  case hi11 => exact (by simp only [List.getElem?_toArray, List.getElem?_cons_succ, List.getElem?_cons_zero]; rfl)
  case hs11 => kernel_rfl
  case hf11 => kernel_rfl
  case hr11 => kernel_rfl
  case hQ11 => exact fun _ _ _ h => h
  case hy11 =>
    refine Or.inl ⟨rfl, ?_⟩
    intro W hSw
    obtain ⟨y0, y1⟩ := hSw
    go_simp
    try simp
  case hS11 => assumption
  try simp only [Act.put, List.setIfInBounds_toArray, List.set_cons_zero, List.set_cons_succ]
  refine wpAnyH_take (i := 12) (oi := ?oi12) (v := ?v12) ?hi12 ?hs12 ?hf12 ?hr12 ?hQ12 ?hy12 ?hS12 ?h12
  case hi12 => exact (by simp only [List.getElem?_toArray, List.getElem?_cons_succ, List.getElem?_cons_zero]; rfl)
  case hs12 => kernel_rfl
  case hf12 => kernel_rfl
  case hr12 => kernel_rfl
  case hQ12 => exact fun _ _ _ h => h
  case hy12 =>
    refine Or.inl ⟨rfl, ?_⟩
    intro W hSw
    obtain ⟨y0, y1⟩ := hSw
    go_simp
    try with_reducible rfl
  case hS12 => assumption
  try simp only [Act.put, List.setIfInBounds_toArray, List.set_cons_zero, List.set_cons_succ]
  refine wpAnyH_take (i := 13) (oi := ?oi13) (v := ?v13) ?hi13 ?hs13 ?hf13 ?hr13 ?hQ13 ?hy13 ?hS13 ?h13
  case hi13 => exact (by simp only [List.getElem?_toArray, List.getElem?_cons_succ, List.getElem?_cons_zero]; rfl)
  case hs13 => kernel_rfl
  case hf13 => kernel_rfl
  case hr13 => kernel_rfl
  case hQ13 => exact fun _ _ _ h => h
  case hy13 =>
    refine Or.inl ⟨rfl, ?_⟩
    intro W hSw
    obtain ⟨y0, y1⟩ := hSw
    go_simp
    try with_reducible rfl
  case hS13 => assumption
  try simp only [Act.put, List.setIfInBounds_toArray, List.set_cons_zero, List.set_cons_succ]
  refine wpAnyH_take (i := 14) (oi := ?oi14) (v := ?v14) ?hi14 ?hs14 ?hf14 ?hr14 ?hQ14 ?hy14 ?hS14 ?h14
  case hi14 => exact (by simp only [List.getElem?_toArray, List.getElem?_cons_succ, List.getElem?_cons_zero]; rfl)
  case hs14 => kernel_rfl
  case hf14 => kernel_rfl
  case hr14 => kernel_rfl
  case hQ14 => exact fun _ _ _ h => h
  case hy14 =>
    refine Or.inl ⟨rfl, ?_⟩
    intro W hSw
    obtain ⟨y0, y1⟩ := hSw
    go_simp
    try with_reducible rfl
  case hS14 => assumption
  try simp only [Act.put, List.setIfInBounds_toArray, List.set_cons_zero, List.set_cons_succ]
  refine wpAnyH_take (i := 15) (oi := ?oi15) (v := ?v15) ?hi15 ?hs15 ?hf15 ?hr15 ?hQ15 ?hy15 ?hS15 ?h15
  case hi15 => exact (by simp only [List.getElem?_toArray, List.getElem?_cons_succ, List.getElem?_cons_zero]; rfl)
  case hs15 => kernel_rfl
  case hf15 => kernel_rfl
  case hr15 => kernel_rfl
  case hQ15 => exact fun _ _ _ h => h
  case hy15 =>
    refine Or.inl ⟨rfl, ?_⟩
    intro W hSw
    obtain ⟨y0, y1⟩ := hSw
    go_simp
    try with_reducible rfl
  case hS15 => assumption
  try simp only [Act.put, List.setIfInBounds_toArray, List.set_cons_zero, List.set_cons_succ]
  refine wpAnyH_take (i := 17) (oi := ?oi17) (v := ?v17) ?hi17 ?hs17 ?hf17 ?hr17 ?hQ17 ?hy17 ?hS17 ?h17
  case hi17 => exact (by simp only [List.getElem?_toArray, List.getElem?_cons_succ, List.getElem?_cons_zero]; rfl)
  case hs17 => kernel_rfl
  case hf17 => kernel_rfl
  case hr17 => kernel_rfl
  case hQ17 => exact fun _ _ _ h => h
  case hy17 =>
    refine Or.inl ⟨rfl, ?_⟩
    intro W hSw
    obtain ⟨y0, y1⟩ := hSw
    go_simp
    try with_reducible rfl
  case hS17 => assumption
  try simp only [Act.put, List.setIfInBounds_toArray, List.set_cons_zero, List.set_cons_succ]
  refine wpAnyH_take (i := 18) (oi := ?oi18) (v := ?v18) ?hi18 ?hs18 ?hf18 ?hr18 ?hQ18 ?hy18 ?hS18 ?h18
  case hi18 => exact (by simp only [List.getElem?_toArray, List.getElem?_cons_succ, List.getElem?_cons_zero]; rfl)
  case hs18 => kernel_rfl
  case hf18 => kernel_rfl
  case hr18 => kernel_rfl
  case hQ18 => exact fun _ _ _ h => h
  case hy18 =>
    refine Or.inl ⟨rfl, ?_⟩
    intro W hSw
    obtain ⟨y0, y1⟩ := hSw
    go_simp
    try with_reducible rfl
  case hS18 => assumption
  try simp only [Act.put, List.setIfInBounds_toArray, List.set_cons_zero, List.set_cons_succ]
  refine wpAnyH_ready (rs := [16]) (by kernel_rfl) (by simp) ?_
  refine AllReadyH.cons (o := _) rfl (fun K hK => ?_) AllReadyH.nil
  go_simp
  refine ((HLA.out W3 HB3.out)).mono ?_
  rintro r W4 ⟨vL, rfl, hsL, hbq⟩
  have HB4 := Lib.hid (HB3.out.trans (hbq.mono HB3.out.size))
  have HSL := Lib.hid hsL
  obtain ⟨AL, cL, hvL, -⟩ := id hsL
  subst hvL
  clear hsL
  clear hbq
  refine hK.out _ _ (HCE.out _ (HB4.out)) (fun hHeld => ?_)
  clear hK K
  try simp only [Act.put, List.setIfInBounds_toArray, List.set_cons_zero, List.set_cons_succ]
  refine wpAnyH_ready (rs := [19]) (by kernel_rfl) (by simp) ?_
  refine AllReadyH.cons (o := _) rfl (fun K hK => ?_) AllReadyH.nil
  go_simp
  refine ((HRT.out W4 HB4.out)).mono ?_
  rintro r W5 ⟨vR, rfl, hsR, hbq⟩
  have HB5 := Lib.hid (HB4.out.trans (hbq.mono HB4.out.size))
  have HSR := Lib.hid hsR
  obtain ⟨AR, cR, hvR, -⟩ := id hsR
  subst hvR
  have HSL2 := Lib.hid (HSL.out.after hbq)
  clear hsR
  clear hbq
  refine hK.out _ _ (HCE.out _ (HB5.out)) (fun hHeld => ?_)
  clear hK K
  try simp only [Act.put, List.setIfInBounds_toArray, List.set_cons_zero, List.set_cons_succ]
  refine wpAnyH_ready (rs := [20]) (by kernel_rfl) (by simp) ?_
  refine AllReadyH.cons (o := _) rfl (fun K hK => ?_) AllReadyH.nil
  go_simp
  refine ((same_eq _ _ L W5 HLL.out HSL2.out HSR.out)).mono ?_
  rintro r W6 ⟨rfl, hbq⟩
  have HB6 := Lib.hid (HB5.out.trans (hbq.mono HB5.out.size))
  clear hbq
  refine hK.out _ _ (HCE.out _ (HB6.out)) (fun hHeld => ?_)
  clear hK K
  try simp only [Act.put, List.setIfInBounds_toArray, List.set_cons_zero, List.set_cons_succ]
  refine wpAnyH_take (i := 21) (oi := ?oi21) (v := (.bool false)) ?hi21 ?hs21 ?hf21 ?hr21 ?hQ21 ?hy21 ?hS21 ?h21
  case hi21 => exact (by simp only [List.getElem?_toArray, List.getElem?_cons_succ, List.getElem?_cons_zero]; rfl)
  case hs21 => kernel_rfl
  case hf21 => kernel_rfl
  case hr21 => kernel_rfl
  case hQ21 => exact fun _ _ _ h => h
  case hy21 =>
    refine Or.inl ⟨rfl, ?_⟩
    intro W hSw
    obtain ⟨y0, y1⟩ := hSw
    go_simp
    try simp
  case hS21 => assumption
  try simp only [Act.put, List.setIfInBounds_toArray, List.set_cons_zero, List.set_cons_succ]
  refine wpAnyH_take (i := 22) (oi := ?oi22) (v := ?v22) ?hi22 ?hs22 ?hf22 ?hr22 ?hQ22 ?hy22 ?hS22 ?h22
  case hi22 => exact (by simp only [List.getElem?_toArray, List.getElem?_cons_succ, List.getElem?_cons_zero]; rfl)
  case hs22 => kernel_rfl
  case hf22 => kernel_rfl
  case hr22 => kernel_rfl
  case hQ22 => exact fun _ _ _ h => h
  case hy22 =>
    refine Or.inl ⟨rfl, ?_⟩
    intro W hSw
    obtain ⟨y0, y1⟩ := hSw
    go_simp
    try with_reducible rfl
  case hS22 => assumption
  try simp only [Act.put, List.setIfInBounds_toArray, List.set_cons_zero, List.set_cons_succ]
  refine wpAnyH_done (by kernel_rfl) ?_ _
  go_wp2_with fail
  go_loopw [7] (fun u wr => ∃ (k : Nat), k ≤ 18 ∧ u = .int .u32 (k : Int) ∧ Hid (Below w0.heap.size w0 wr)) (fun u _ => 18 - (intOf u).toNat)
  case atStart => exact ⟨0, by omega, rfl, HB6.out⟩
  case round =>
    obtain ⟨k, hk, rfl, HV⟩ := hrel
    by_cases hlt : k < 18
    · obtain ⟨s, m, a, t, hi, hg⟩ := HIN.out k wr HV.out
      have HI1 := Lib.hid hi
      have HG1 := Lib.hid hg
      clear hi hg
      go_wp2_with fail
      refine HI1.out.mono ?_
      rintro r v2 ⟨rfl, hb2⟩
      obtain ⟨v3, hv3⟩ : ∃ v3, v3 = v2.alloc (.cells (iC s m a) 42) := ⟨_, rfl⟩
      have hq3 : v3.heap[v2.heap.size]? = some (.cells (iC s m a) 42 (0, 0)) := by rw [hv3]; exact heap_alloc_new v2 _
      have HB3 : Hid (Below w0.heap.size w0 v3) := by rw [hv3]; exact (HV.out.trans (hb2.mono HV.out.size)).alloc (Nat.le_trans HV.out.size hb2.size) _
      have H3 := Lib.hid hv3
      have HQ3 := Lib.hid hq3
      obtain ⟨p0, p1⟩ := HCE.out v3 HB3.out
      clear hb2 hv3 hq3
      go_upto_region 7 with (fail)
      rw [← H3.out]
      go_wp2_with fail
      refine (HG1.out v3 HB3.out).mono ?_
      rintro r v4 ⟨rfl, hb4⟩
      obtain ⟨v5, hv5⟩ : ∃ v5, v5 = v4.alloc (.cells (iC s m a) 61) := ⟨_, rfl⟩
      have hq5 : v5.heap[v4.heap.size]? = some (.cells (iC s m a) 61 (0, 0)) := by rw [hv5]; exact heap_alloc_new v4 _
      have hb5 : Below v3.heap.size v3 v5 := by rw [hv5]; exact hb4.alloc hb4.size _
      have hq3 := (hb5.block _ (lt_of_block HQ3.out)).trans HQ3.out
      have HB5 : Hid (Below w0.heap.size w0 v5) := HB3.out.trans (hb5.mono HB3.out.size)
      have H5 := Lib.hid hv5
      have a0 := cell_of_row v5 v2.heap.size 0 _ _ _ hq3
      have a1 := cell_of_row v5 v2.heap.size 1 _ _ _ hq3
      have a2 := cell_of_row v5 v2.heap.size 2 _ _ _ hq3
      have z0 := cell_of_row v5 v4.heap.size 0 _ _ _ hq5
      have z1 := cell_of_row v5 v4.heap.size 1 _ _ _ hq5
      have z2 := cell_of_row v5 v4.heap.size 2 _ _ _ hq5
      simp at a0 a1 a2 z0 z1 z2
      clear hb4 hv5 hq5 hb5 hq3 p0 p1
      go_upto_region 8 with (fail)
      rw [← H5.out]
      go_wp2_with fail
      go_roundw
      case rel => exact ⟨k + 1, by omega, by go_num, HB5.out⟩
      case measure => simp [intOf] <;> omega
    · obtain rfl : k = 18 := by omega
      go_wp2
      go_ret
      exact ⟨rfl, HB0.out.trans (HV.out.mono HB0.out.size)⟩
end Go.Proofs.Ytddjbkaofodmlaa
