/- Friend: Block. -/
import Derived.Test.YtohcibmlkngaeaaG8
namespace Go.Proofs.Ytohcibmlkngaeaa
open Go.RowKit Go.Maps
set_option maxRecDepth 20000
set_option linter.unusedVariables false
set_option linter.unusedSimpArgs false

set_option maxHeartbeats 2000000 in
theorem block_0 (L M n a b : Nat) (l : List Rw) (w : World) (h : Gr w L M n l) (hI : Inv l) (hn : n ≤ 1000) (ha : u32ok a) (hb : u32ok b) (h0 : wrongC a b ≠ 0) :
    Calls Try.prog 19 #[gp L, u a, u b] w fun r w' => r = .returned (.tuple #[.bool (bloL l a b).2.1, .int .i64 (bloL l a b).2.2]) ∧ Gr w' L M (n + 1) (bloL l a b).1 ∧ ChM M w w' := by
  obtain ⟨D, hG, hN, hs⟩ := id h
  have H0 := Lib.hid (two_any L a b w)
  have H1 := Lib.hid (is_any L M _ a b 3 D _ w hG hN ha hb)
  have HGR := Lib.hid h
  have HIN := Lib.hid hI
  obtain ⟨c, hc⟩ : ∃ c, c = wrongC a b := ⟨_, rfl⟩
  have hr : bloL l a b = (l, false, c) := by rw [hc]; unfold bloL; rw [if_pos h0]
  rw [hr]
  rw [← hc] at h0 H0
  clear hr h hI hG hN hc
  go_enter Try.func19, Try.ntmps19
  go_wp2_with fail
  refine H0.out.mono ?_
  rintro r w' ⟨rfl, hw⟩
  have hw := hw.symm
  subst hw
  go_wp2
  exact bodyPost_ret (v := .tuple #[.bool false, .int .i64 c]) (by simp [results, Try.results19, go_sem]) rfl ⟨rfl, HGR.out.up (by omega), ChM.of_below (Below.refl _ _)⟩
set_option maxHeartbeats 2000000 in
theorem block_1 (L M n a b : Nat) (l : List Rw) (w : World) (h : Gr w L M n l) (hI : Inv l) (hn : n ≤ 1000) (ha : u32ok a) (hb : u32ok b) (h0 : wrongC a b = 0) (h1 : (3, a, b) ∈ l) :
    Calls Try.prog 19 #[gp L, u a, u b] w fun r w' => r = .returned (.tuple #[.bool (bloL l a b).2.1, .int .i64 (bloL l a b).2.2]) ∧ Gr w' L M (n + 1) (bloL l a b).1 ∧ ChM M w w' := by
  obtain ⟨D, hG, hN, hs⟩ := id h
  have H0 := Lib.hid (two_any L a b w)
  have H1 := Lib.hid (is_any L M _ a b 3 D _ w hG hN ha hb)
  have HGR := Lib.hid h
  have HIN := Lib.hid hI
  have hr : bloL l a b = (l, false, 11) := by unfold bloL; rw [if_neg (Classical.not_not.2 h0), if_pos h1]
  rw [hr]
  have e1 : decide (tie l a b = 3) = true := by rw [decide_eq_true_iff, hI.tie3]; exact h1
  clear hr h hI hG hN
  go_enter Try.func19, Try.ntmps19
  go_wp2_with fail
  refine H0.out.mono ?_
  rintro r w' ⟨rfl, hw⟩
  have hw := hw.symm
  subst hw
  rw [h0]
  go_wp2_with fail
  refine H1.out.mono ?_
  rintro r w' ⟨rfl, hw⟩
  have hw := hw.symm
  subst hw
  rw [e1]
  go_wp2
  exact bodyPost_ret (v := .tuple #[.bool false, .int .i64 11]) (by simp [results, Try.results19, go_sem]) rfl ⟨rfl, HGR.out.up (by omega), ChM.of_below (Below.refl _ _)⟩
set_option maxHeartbeats 2000000 in
theorem block_2 (L M n a b : Nat) (l : List Rw) (w : World) (h : Gr w L M n l) (hI : Inv l) (hn : n ≤ 1000) (ha : u32ok a) (hb : u32ok b) (h0 : wrongC a b = 0) (h1 : (3, a, b) ∉ l) (f1 : 16 ≤ (whom l 3 a).length) :
    Calls Try.prog 19 #[gp L, u a, u b] w fun r w' => r = .returned (.tuple #[.bool (bloL l a b).2.1, .int .i64 (bloL l a b).2.2]) ∧ Gr w' L M (n + 1) (bloL l a b).1 ∧ ChM M w w' := by
  obtain ⟨D, hG, hN, hs⟩ := id h
  have H0 := Lib.hid (two_any L a b w)
  have H1 := Lib.hid (is_any L M _ a b 3 D _ w hG hN ha hb)
  have HGR := Lib.hid h
  have HIN := Lib.hid hI
  have hr : bloL l a b = (l, false, 10) := by unfold bloL; rw [if_neg (Classical.not_not.2 h0), if_neg h1, if_pos f1]
  rw [hr]
  have e1 : decide (tie l a b = 3) = false := by rw [decide_eq_false_iff_not, hI.tie3]; exact h1
  obtain ⟨m, hm⟩ : ∃ m, m = (whom l 3 a).length := ⟨_, rfl⟩
  rw [← hm] at f1
  have H47 : Hid (∀ W G, Below w.heap.size w W → W.heap[G]? = some (.cells #[.int .i64 3] 58 (0, 0)) → Calls Try.prog 33 #[gp L, u a, .func (.func 47) #[] #[.pointer (some ⟨G, 0, none⟩)]] W fun r w' => (∃ A c, r = .returned (.slice A m c)) ∧ Below W.heap.size W w') :=
    fun W G hW hg => (others_47 L M a G (So 3) D (tie l) W (hG.below hW) hN hI.nok ha (by omega) (dj_o _ a 3) (fun V t o hV => f47_any G 3 t o V ((hV.block G (lt_of_block hg)).trans hg))).mono fun r w' ⟨v, ys, h1, h2, h3, h4⟩ => by
      obtain ⟨A, c, rfl⟩ := own_form1 h3
      have : ys.length = m := by rw [hm]; exact len_of (nd_of_lt h2.1) (hI.nd_whom 3 a) (fun x => oth_to3 hI h2 x)
      exact ⟨⟨A, c, by rw [h1, this]⟩, h4⟩
  have f2 : (16 : Int) ≤ (m : Int) := by omega
  clear hr h hI hG hN hm
  go_enter Try.func19, Try.ntmps19
  go_wp2_with fail
  refine H0.out.mono ?_
  rintro r w' ⟨rfl, hw⟩
  have hw := hw.symm
  subst hw
  rw [h0]
  go_wp2_with fail
  refine H1.out.mono ?_
  rintro r w' ⟨rfl, hw⟩
  have hw := hw.symm
  subst hw
  rw [e1]
  go_wp2_with fail
  refine (outgoing_any 3 _).mono ?_
  rintro r w1 ⟨rfl, hw1⟩
  have hb1 : Below w.heap.size w w1 := by rw [hw1]; exact (Below.refl _ _).alloc (Nat.le_refl _) _
  have hg1 : w1.heap[w.heap.size]? = some (.cells #[.int .i64 3] 58 (0, 0)) := by rw [hw1]; exact heap_alloc_new w _
  have HB1 := Lib.hid (And.intro hb1 hg1)
  clear hw1 hb1 hg1
  go_wp2_with fail
  refine (H47.out w1 _ HB1.out.1 HB1.out.2).mono ?_
  rintro r w2 ⟨⟨A, c, rfl⟩, hb2⟩
  have HB2 : Hid (Below w.heap.size w w2) := HB1.out.1.trans (hb2.mono HB1.out.1.size)
  clear hb2
  go_wp2
  exact bodyPost_ret (v := .tuple #[.bool false, .int .i64 10]) (by simp [results, Try.results19, go_sem]) rfl ⟨rfl, (HGR.out.below HB2.out).up (by omega), ChM.of_below HB2.out⟩
set_option maxHeartbeats 2000000 in
theorem block_true (L M n a b : Nat) (l : List Rw) (w : World) (h : Gr w L M n l) (hI : Inv l) (hn : n ≤ 1000) (ha : u32ok a) (hb : u32ok b) (h0 : wrongC a b = 0) (h1 : (3, a, b) ∉ l) (f1 : ¬ 16 ≤ (whom l 3 a).length) (h3 : areB l a b = true) :
    Calls Try.prog 19 #[gp L, u a, u b] w fun r w' => r = .returned (.tuple #[.bool (bloL l a b).2.1, .int .i64 (bloL l a b).2.2]) ∧ Gr w' L M (n + 1) (bloL l a b).1 ∧ ChM M w w' := by
  obtain ⟨D, hG, hN, hs⟩ := id h
  have H0 := Lib.hid (two_any L a b w)
  have H1 := Lib.hid (is_any L M _ a b 3 D _ w hG hN ha hb)
  have HGR := Lib.hid h
  have HIN := Lib.hid hI
  have hr : bloL l a b = (wo l a b ++ [(3, a, b)], true, 0) := by unfold bloL; rw [if_neg (Classical.not_not.2 h0), if_neg h1, if_neg f1, h3]
  rw [hr]
  have HBI := Lib.hid (hI.blo (wrong_ok h0) h1 (by omega))
  have e1 : decide (tie l a b = 3) = false := by rw [decide_eq_false_iff_not, hI.tie3]; exact h1
  obtain ⟨m, hm⟩ : ∃ m, m = (whom l 3 a).length := ⟨_, rfl⟩
  rw [← hm] at f1
  have H47 : Hid (∀ W G, Below w.heap.size w W → W.heap[G]? = some (.cells #[.int .i64 3] 58 (0, 0)) → Calls Try.prog 33 #[gp L, u a, .func (.func 47) #[] #[.pointer (some ⟨G, 0, none⟩)]] W fun r w' => (∃ A c, r = .returned (.slice A m c)) ∧ Below W.heap.size W w') :=
    fun W G hW hg => (others_47 L M a G (So 3) D (tie l) W (hG.below hW) hN hI.nok ha (by omega) (dj_o _ a 3) (fun V t o hV => f47_any G 3 t o V ((hV.block G (lt_of_block hg)).trans hg))).mono fun r w' ⟨v, ys, h1, h2, h3, h4⟩ => by
      obtain ⟨A, c, rfl⟩ := own_form1 h3
      have : ys.length = m := by rw [hm]; exact len_of (nd_of_lt h2.1) (hI.nd_whom 3 a) (fun x => oth_to3 hI h2 x)
      exact ⟨⟨A, c, by rw [h1, this]⟩, h4⟩
  have f2 : ¬ (16 : Int) ≤ (m : Int) := by omega
  have hrv : (remL l a b).2 = 0 := by
    unfold areB at h3
    unfold remL
    simp at h3
    simp [h3]
  have HRM : Hid (∀ W, Below w.heap.size w W → Calls Try.prog 16 #[gp L, u a, u b] W fun r w' => r = .returned (.int .i64 0) ∧ Gr w' L M n (remL l a b).1 ∧ ChM M W w') := fun W hW => by rw [← hrv]; exact remove_any L M n a b l W (h.below hW) hI ha hb
  have HRF : Hid (∀ W, Gr W L M n (remL l a b).1 → Calls Try.prog 21 #[gp L, u a, u b] W fun r w' => (∃ e, r = .returned (.int .i64 e)) ∧ Gr w' L M n (refL (remL l a b).1 a b).1 ∧ ChM M W w') := fun W hW => (refuse_any L M n a b _ W hW (hI.remove a b) ha hb).mono fun r w' h => ⟨⟨_, h.1⟩, h.2⟩
  have HTI : Hid (tie (wo l a b ++ [(3, a, b)]) = upd (tie (refL (remL l a b).1 a b).1) a b 3) := by
    have e : wo (refL (remL l a b).1 a b).1 a b = wo l a b := by rw [wo_ref, wo_rem]
    have h' := HBI.out
    simp only [Hid]
    rw [← e] at h' ⊢
    exact tie_blo ((hI.remove a b).refuse a b) h' (wrong_ok h0).2.2 ref_out (fun e => rem_out.1 (ref_sub e)) (fun e => rem_out.2 (ref_sub e))
  obtain ⟨l2, hl2⟩ : ∃ l2, l2 = (refL (remL l a b).1 a b).1 := ⟨_, rfl⟩
  rw [← hl2] at HRF HTI
  clear hr h hI hG hN hm hrv hl2
  go_enter Try.func19, Try.ntmps19
  go_wp2_with fail
  refine H0.out.mono ?_
  rintro r w' ⟨rfl, hw⟩
  have hw := hw.symm
  subst hw
  rw [h0]
  go_wp2_with fail
  refine H1.out.mono ?_
  rintro r w' ⟨rfl, hw⟩
  have hw := hw.symm
  subst hw
  rw [e1]
  go_wp2_with fail
  refine (outgoing_any 3 _).mono ?_
  rintro r w1 ⟨rfl, hw1⟩
  have hb1 : Below w.heap.size w w1 := by rw [hw1]; exact (Below.refl _ _).alloc (Nat.le_refl _) _
  have hg1 : w1.heap[w.heap.size]? = some (.cells #[.int .i64 3] 58 (0, 0)) := by rw [hw1]; exact heap_alloc_new w _
  have HB1 := Lib.hid (And.intro hb1 hg1)
  clear hw1 hb1 hg1
  go_wp2_with fail
  refine (H47.out w1 _ HB1.out.1 HB1.out.2).mono ?_
  rintro r w2 ⟨⟨A, c, rfl⟩, hb2⟩
  have HB2 : Hid (Below w.heap.size w w2) := HB1.out.1.trans (hb2.mono HB1.out.1.size)
  clear hb2
  go_wp2_with fail
  refine (HRM.out w2 HB2.out).mono ?_
  rintro r w3 ⟨rfl, g3, k3⟩
  go_wp2_with fail
  refine (HRF.out w3 g3).mono ?_
  rintro r w4 ⟨⟨e, rfl⟩, g4, k4⟩
  have HK4 : Hid (ChM M w w4) := ((ChM.of_below HB2.out).trans k3).trans k4
  clear k3 k4 g3
  obtain ⟨D2, hG2, hN2, hs2⟩ := g4
  have c1 := cell_of_row w4 L 0 _ _ _ hG2.1
  simp at c1
  have hown := hG2.2
  have hkey := key67 a b ha hb
  have HALL : Hid (∀ w' cnt, IsG w' L M cnt (D2.put (kl a b) (tD 3)) → Gr w' L M (n + 1) (wo l a b ++ [(3, a, b)])) := fun w' cnt h' => Gr.of_put hG2 hN2 hs2 ha hb (by omega) h' HTI.out
  have HNE := Lib.hid hG2.ne
  have HL1 := Lib.hid hG2.1
  clear hG2 hN2
  go_wp2_with (first
    | (at_mapUpdate; refine wpList_mapUpdate_own _ rfl _ _ _ 50 rfl 67 58 K67 Try.underlying50 RT M (size D2) D2 rfl hown (by unfold maxLen; omega) _ _ (kl a b) rfl rfl hkey (tD 3) [] rfl ?_; intro w9 hown1 hgrow1)
    | go_in)
  have HG9 : Gr w9 L M (n + 1) (wo l a b ++ [(3, a, b)]) := HALL.out _ _ ⟨(hgrow1.block L (lt_of_block HL1.out) (fun e => by injection e with e; exact HNE.out e)).trans HL1.out, hown1⟩
  exact bodyPost_ret (v := .tuple #[.bool true, .int .i64 0]) (by simp [results, Try.results19, go_sem]) rfl ⟨rfl, HG9, HK4.out.trans (ChM.of_grown (Below.refl _ _) hgrow1)⟩
set_option maxHeartbeats 2000000 in
theorem block_false (L M n a b : Nat) (l : List Rw) (w : World) (h : Gr w L M n l) (hI : Inv l) (hn : n ≤ 1000) (ha : u32ok a) (hb : u32ok b) (h0 : wrongC a b = 0) (h1 : (3, a, b) ∉ l) (f1 : ¬ 16 ≤ (whom l 3 a).length) (h3 : areB l a b = false) :
    Calls Try.prog 19 #[gp L, u a, u b] w fun r w' => r = .returned (.tuple #[.bool (bloL l a b).2.1, .int .i64 (bloL l a b).2.2]) ∧ Gr w' L M (n + 1) (bloL l a b).1 ∧ ChM M w w' := by
  obtain ⟨D, hG, hN, hs⟩ := id h
  have H0 := Lib.hid (two_any L a b w)
  have H1 := Lib.hid (is_any L M _ a b 3 D _ w hG hN ha hb)
  have HGR := Lib.hid h
  have HIN := Lib.hid hI
  have hr : bloL l a b = (wo l a b ++ [(3, a, b)], false, 0) := by unfold bloL; rw [if_neg (Classical.not_not.2 h0), if_neg h1, if_neg f1, h3]
  rw [hr]
  have HBI := Lib.hid (hI.blo (wrong_ok h0) h1 (by omega))
  have e1 : decide (tie l a b = 3) = false := by rw [decide_eq_false_iff_not, hI.tie3]; exact h1
  obtain ⟨m, hm⟩ : ∃ m, m = (whom l 3 a).length := ⟨_, rfl⟩
  rw [← hm] at f1
  have H47 : Hid (∀ W G, Below w.heap.size w W → W.heap[G]? = some (.cells #[.int .i64 3] 58 (0, 0)) → Calls Try.prog 33 #[gp L, u a, .func (.func 47) #[] #[.pointer (some ⟨G, 0, none⟩)]] W fun r w' => (∃ A c, r = .returned (.slice A m c)) ∧ Below W.heap.size W w') :=
    fun W G hW hg => (others_47 L M a G (So 3) D (tie l) W (hG.below hW) hN hI.nok ha (by omega) (dj_o _ a 3) (fun V t o hV => f47_any G 3 t o V ((hV.block G (lt_of_block hg)).trans hg))).mono fun r w' ⟨v, ys, h1, h2, h3, h4⟩ => by
      obtain ⟨A, c, rfl⟩ := own_form1 h3
      have : ys.length = m := by rw [hm]; exact len_of (nd_of_lt h2.1) (hI.nd_whom 3 a) (fun x => oth_to3 hI h2 x)
      exact ⟨⟨A, c, by rw [h1, this]⟩, h4⟩
  have f2 : ¬ (16 : Int) ≤ (m : Int) := by omega
  have hrv : (remL l a b).2 = 12 := by
    unfold areB at h3
    unfold remL
    simp at h3
    simp [h3]
  have HRM : Hid (∀ W, Below w.heap.size w W → Calls Try.prog 16 #[gp L, u a, u b] W fun r w' => r = .returned (.int .i64 12) ∧ Gr w' L M n (remL l a b).1 ∧ ChM M W w') := fun W hW => by rw [← hrv]; exact remove_any L M n a b l W (h.below hW) hI ha hb
  have HRF : Hid (∀ W, Gr W L M n (remL l a b).1 → Calls Try.prog 21 #[gp L, u a, u b] W fun r w' => (∃ e, r = .returned (.int .i64 e)) ∧ Gr w' L M n (refL (remL l a b).1 a b).1 ∧ ChM M W w') := fun W hW => (refuse_any L M n a b _ W hW (hI.remove a b) ha hb).mono fun r w' h => ⟨⟨_, h.1⟩, h.2⟩
  have HTI : Hid (tie (wo l a b ++ [(3, a, b)]) = upd (tie (refL (remL l a b).1 a b).1) a b 3) := by
    have e : wo (refL (remL l a b).1 a b).1 a b = wo l a b := by rw [wo_ref, wo_rem]
    have h' := HBI.out
    simp only [Hid]
    rw [← e] at h' ⊢
    exact tie_blo ((hI.remove a b).refuse a b) h' (wrong_ok h0).2.2 ref_out (fun e => rem_out.1 (ref_sub e)) (fun e => rem_out.2 (ref_sub e))
  obtain ⟨l2, hl2⟩ : ∃ l2, l2 = (refL (remL l a b).1 a b).1 := ⟨_, rfl⟩
  rw [← hl2] at HRF HTI
  clear hr h hI hG hN hm hrv hl2
  go_enter Try.func19, Try.ntmps19
  go_wp2_with fail
  refine H0.out.mono ?_
  rintro r w' ⟨rfl, hw⟩
  have hw := hw.symm
  subst hw
  rw [h0]
  go_wp2_with fail
  refine H1.out.mono ?_
  rintro r w' ⟨rfl, hw⟩
  have hw := hw.symm
  subst hw
  rw [e1]
  go_wp2_with fail
  refine (outgoing_any 3 _).mono ?_
  rintro r w1 ⟨rfl, hw1⟩
  have hb1 : Below w.heap.size w w1 := by rw [hw1]; exact (Below.refl _ _).alloc (Nat.le_refl _) _
  have hg1 : w1.heap[w.heap.size]? = some (.cells #[.int .i64 3] 58 (0, 0)) := by rw [hw1]; exact heap_alloc_new w _
  have HB1 := Lib.hid (And.intro hb1 hg1)
  clear hw1 hb1 hg1
  go_wp2_with fail
  refine (H47.out w1 _ HB1.out.1 HB1.out.2).mono ?_
  rintro r w2 ⟨⟨A, c, rfl⟩, hb2⟩
  have HB2 : Hid (Below w.heap.size w w2) := HB1.out.1.trans (hb2.mono HB1.out.1.size)
  clear hb2
  go_wp2_with fail
  refine (HRM.out w2 HB2.out).mono ?_
  rintro r w3 ⟨rfl, g3, k3⟩
  go_wp2_with fail
  refine (HRF.out w3 g3).mono ?_
  rintro r w4 ⟨⟨e, rfl⟩, g4, k4⟩
  have HK4 : Hid (ChM M w w4) := ((ChM.of_below HB2.out).trans k3).trans k4
  clear k3 k4 g3
  obtain ⟨D2, hG2, hN2, hs2⟩ := g4
  have c1 := cell_of_row w4 L 0 _ _ _ hG2.1
  simp at c1
  have hown := hG2.2
  have hkey := key67 a b ha hb
  have HALL : Hid (∀ w' cnt, IsG w' L M cnt (D2.put (kl a b) (tD 3)) → Gr w' L M (n + 1) (wo l a b ++ [(3, a, b)])) := fun w' cnt h' => Gr.of_put hG2 hN2 hs2 ha hb (by omega) h' HTI.out
  have HNE := Lib.hid hG2.ne
  have HL1 := Lib.hid hG2.1
  clear hG2 hN2
  go_wp2_with (first
    | (at_mapUpdate; refine wpList_mapUpdate_own _ rfl _ _ _ 50 rfl 67 58 K67 Try.underlying50 RT M (size D2) D2 rfl hown (by unfold maxLen; omega) _ _ (kl a b) rfl rfl hkey (tD 3) [] rfl ?_; intro w9 hown1 hgrow1)
    | go_in)
  have HG9 : Gr w9 L M (n + 1) (wo l a b ++ [(3, a, b)]) := HALL.out _ _ ⟨(hgrow1.block L (lt_of_block HL1.out) (fun e => by injection e with e; exact HNE.out e)).trans HL1.out, hown1⟩
  exact bodyPost_ret (v := .tuple #[.bool false, .int .i64 0]) (by simp [results, Try.results19, go_sem]) rfl ⟨rfl, HG9, HK4.out.trans (ChM.of_grown (Below.refl _ _) hgrow1)⟩
theorem block_any (L M n a b : Nat) (l : List Rw) (w : World) (h : Gr w L M n l) (hI : Inv l) (hn : n ≤ 1000) (ha : u32ok a) (hb : u32ok b) :
    Calls Try.prog 19 #[gp L, u a, u b] w fun r w' => r = .returned (.tuple #[.bool (bloL l a b).2.1, .int .i64 (bloL l a b).2.2]) ∧ Gr w' L M (n + 1) (bloL l a b).1 ∧ ChM M w w' := by
  by_cases h0 : wrongC a b = 0
  · by_cases h1 : (3, a, b) ∈ l
    · exact block_1 L M n a b l w h hI hn ha hb h0 h1
    · by_cases f1 : 16 ≤ (whom l 3 a).length
      · exact block_2 L M n a b l w h hI hn ha hb h0 h1 f1
      · cases h3 : areB l a b
        · exact block_false L M n a b l w h hI hn ha hb h0 h1 f1 h3
        · exact block_true L M n a b l w h hI hn ha hb h0 h1 f1 h3
  · exact block_0 L M n a b l w h hI hn ha hb h0
end Go.Proofs.Ytohcibmlkngaeaa
