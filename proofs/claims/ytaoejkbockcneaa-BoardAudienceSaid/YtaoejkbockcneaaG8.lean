/- Friend: Ask, Block. -/
import Derived.Test.YtaoejkbockcneaaG7
namespace Go.Proofs.Ytaoejkbockcneaa
open Go.RowKit Go.Maps
set_option maxRecDepth 20000
set_option linter.unusedVariables false
set_option linter.unusedSimpArgs false

theorem ask_nil (a b : Nat) (w : World) : Calls Try.prog 40 #[.pointer none, u a, u b] w fun r w' => r = .returned (.tuple #[.bool false, .int .i64 12]) ∧ w' = w := by
  go_enter Try.func40, Try.ntmps40
  go_wp2_with fail
  refine (two_nil a b w).mono ?_
  rintro r w' ⟨rfl, rfl⟩
  go_wp2
  exact bodyPost_ret (v := .tuple #[.bool false, .int .i64 12]) (by simp [results, Try.results40, go_sem]) rfl ⟨rfl, rfl⟩
theorem are_dec {l : List Rw} (hI : Inv l) (a b : Nat) : decide (tie l a b = 2 ∨ tie l b a = 2) = areB l a b := by
  unfold areB
  rw [decide_eq_decide, hI.tie2, hI.tie2]
  exact Or.comm
theorem rem_sub {l : List Rw} {a b : Nat} {r : Rw} (h : r ∈ (remL l a b).1) : r ∈ l := by
  unfold remL at h
  split at h
  · exact (mem_wo.1 h).1
  · exact h
theorem ref_sub {l : List Rw} {a b : Nat} {r : Rw} (h : r ∈ (refL l a b).1) : r ∈ l := by
  unfold refL at h
  split at h
  · exact (mem_wo.1 h).1
  · exact h
theorem rem_out {l : List Rw} {a b : Nat} : (2, a, b) ∉ (remL l a b).1 ∧ (2, b, a) ∉ (remL l a b).1 := by
  unfold remL
  split
  · exact ⟨fun h => by have := (mem_wo.1 h).2; simp [btw] at this, fun h => by have := (mem_wo.1 h).2; simp [btw] at this⟩
  · rename_i h
    exact ⟨fun e => h (.inl e), fun e => h (.inr e)⟩
theorem ref_out {l : List Rw} {a b : Nat} : (1, b, a) ∉ (refL l a b).1 := by
  unfold refL
  split
  · exact fun h => by have := (mem_wo.1 h).2; simp [btw] at this
  · assumption
theorem wo_rem (l : List Rw) (a b : Nat) : wo (remL l a b).1 a b = wo l a b := by
  unfold remL
  split
  · exact wo_wo l a b
  · rfl
theorem wo_ref (l : List Rw) (a b : Nat) : wo (refL l a b).1 a b = wo l a b := by
  unfold refL
  split
  · exact wo_wo l a b
  · rfl
set_option maxHeartbeats 2000000 in
theorem ask_0 (L M n a b : Nat) (l : List Rw) (w : World) (h : Gr w L M n l) (hI : Inv l) (hn : n ≤ 1000) (ha : u32ok a) (hb : u32ok b) (h0 : wrongC a b ≠ 0) :
    Calls Try.prog 40 #[gp L, u a, u b] w fun r w' => r = .returned (.tuple #[.bool (askL l a b).2.1, .int .i64 (askL l a b).2.2]) ∧ Gr w' L M (n + 1) (askL l a b).1 ∧ ChM M w w' := by
  obtain ⟨D, hG, hN, hs⟩ := id h
  have H0 := Lib.hid (two_any L a b w)
  have H1 := Lib.hid (is_any L M _ a b 3 D _ w hG hN ha hb)
  have H2 := Lib.hid (is_any L M _ b a 3 D _ w hG hN hb ha)
  have H3 := Lib.hid (are_any L M _ a b D _ w hG hN ha hb)
  have H4 := Lib.hid (is_any L M _ a b 1 D _ w hG hN ha hb)
  have H5 := Lib.hid (is_any L M _ b a 1 D _ w hG hN hb ha)
  have HGR := Lib.hid h
  have HIN := Lib.hid hI
  obtain ⟨c, hc⟩ : ∃ c, c = wrongC a b := ⟨_, rfl⟩
  have hr : askL l a b = (l, false, c) := by rw [hc]; unfold askL; rw [if_pos h0]
  rw [hr]
  rw [← hc] at h0 H0
  clear hr h hI hG hN hc
  go_enter Try.func40, Try.ntmps40
  go_wp2_with fail
  refine H0.out.mono ?_
  rintro r w' ⟨rfl, hw⟩
  have hw := hw.symm
  subst hw
  go_wp2
  exact bodyPost_ret (v := .tuple #[.bool false, .int .i64 c]) (by simp [results, Try.results40, go_sem]) rfl ⟨rfl, HGR.out.up (by omega), ChM.of_below (Below.refl _ _)⟩
set_option maxHeartbeats 2000000 in
theorem ask_1 (L M n a b : Nat) (l : List Rw) (w : World) (h : Gr w L M n l) (hI : Inv l) (hn : n ≤ 1000) (ha : u32ok a) (hb : u32ok b) (h0 : wrongC a b = 0) (h1 : (3, a, b) ∈ l) :
    Calls Try.prog 40 #[gp L, u a, u b] w fun r w' => r = .returned (.tuple #[.bool (askL l a b).2.1, .int .i64 (askL l a b).2.2]) ∧ Gr w' L M (n + 1) (askL l a b).1 ∧ ChM M w w' := by
  obtain ⟨D, hG, hN, hs⟩ := id h
  have H0 := Lib.hid (two_any L a b w)
  have H1 := Lib.hid (is_any L M _ a b 3 D _ w hG hN ha hb)
  have H2 := Lib.hid (is_any L M _ b a 3 D _ w hG hN hb ha)
  have H3 := Lib.hid (are_any L M _ a b D _ w hG hN ha hb)
  have H4 := Lib.hid (is_any L M _ a b 1 D _ w hG hN ha hb)
  have H5 := Lib.hid (is_any L M _ b a 1 D _ w hG hN hb ha)
  have HGR := Lib.hid h
  have HIN := Lib.hid hI
  have hr : askL l a b = (l, false, 17) := by unfold askL; rw [if_neg (Classical.not_not.2 h0), if_pos (.inl h1)]
  rw [hr]
  have e1 : decide (tie l a b = 3) = true := by rw [decide_eq_true_iff, hI.tie3]; exact h1
  clear hr h hI hG hN
  go_enter Try.func40, Try.ntmps40
  go_wp2_with fail
  refine H0.out.mono ?_
  rintro r w' ⟨rfl, hw⟩
  have hw := hw.symm
  subst hw
  rw [h0]
  go_wp2_with fail
  refine H1.out.mono ?_
  rintro r w' ⟨rfl, hw⟩
  have hw := hw.symm
  subst hw
  rw [e1]
  go_wp2
  exact bodyPost_ret (v := .tuple #[.bool false, .int .i64 17]) (by simp [results, Try.results40, go_sem]) rfl ⟨rfl, HGR.out.up (by omega), ChM.of_below (Below.refl _ _)⟩
set_option maxHeartbeats 2000000 in
theorem ask_2 (L M n a b : Nat) (l : List Rw) (w : World) (h : Gr w L M n l) (hI : Inv l) (hn : n ≤ 1000) (ha : u32ok a) (hb : u32ok b) (h0 : wrongC a b = 0) (h1 : (3, a, b) ∉ l) (h2 : (3, b, a) ∈ l) :
    Calls Try.prog 40 #[gp L, u a, u b] w fun r w' => r = .returned (.tuple #[.bool (askL l a b).2.1, .int .i64 (askL l a b).2.2]) ∧ Gr w' L M (n + 1) (askL l a b).1 ∧ ChM M w w' := by
  obtain ⟨D, hG, hN, hs⟩ := id h
  have H0 := Lib.hid (two_any L a b w)
  have H1 := Lib.hid (is_any L M _ a b 3 D _ w hG hN ha hb)
  have H2 := Lib.hid (is_any L M _ b a 3 D _ w hG hN hb ha)
  have H3 := Lib.hid (are_any L M _ a b D _ w hG hN ha hb)
  have H4 := Lib.hid (is_any L M _ a b 1 D _ w hG hN ha hb)
  have H5 := Lib.hid (is_any L M _ b a 1 D _ w hG hN hb ha)
  have HGR := Lib.hid h
  have HIN := Lib.hid hI
  have hr : askL l a b = (l, false, 17) := by unfold askL; rw [if_neg (Classical.not_not.2 h0), if_pos (.inr h2)]
  rw [hr]
  have e1 : decide (tie l a b = 3) = false := by rw [decide_eq_false_iff_not, hI.tie3]; exact h1
  have e2 : decide (tie l b a = 3) = true := by rw [decide_eq_true_iff, hI.tie3]; exact h2
  clear hr h hI hG hN
  go_enter Try.func40, Try.ntmps40
  go_wp2_with fail
  refine H0.out.mono ?_
  rintro r w' ⟨rfl, hw⟩
  have hw := hw.symm
  subst hw
  rw [h0]
  go_wp2_with fail
  refine H1.out.mono ?_
  rintro r w' ⟨rfl, hw⟩
  have hw := hw.symm
  subst hw
  rw [e1]
  go_wp2_with fail
  refine H2.out.mono ?_
  rintro r w' ⟨rfl, hw⟩
  have hw := hw.symm
  subst hw
  rw [e2]
  go_wp2
  exact bodyPost_ret (v := .tuple #[.bool false, .int .i64 17]) (by simp [results, Try.results40, go_sem]) rfl ⟨rfl, HGR.out.up (by omega), ChM.of_below (Below.refl _ _)⟩
set_option maxHeartbeats 2000000 in
theorem ask_3 (L M n a b : Nat) (l : List Rw) (w : World) (h : Gr w L M n l) (hI : Inv l) (hn : n ≤ 1000) (ha : u32ok a) (hb : u32ok b) (h0 : wrongC a b = 0) (h1 : (3, a, b) ∉ l) (h2 : (3, b, a) ∉ l) (h3 : areB l a b = true) :
    Calls Try.prog 40 #[gp L, u a, u b] w fun r w' => r = .returned (.tuple #[.bool (askL l a b).2.1, .int .i64 (askL l a b).2.2]) ∧ Gr w' L M (n + 1) (askL l a b).1 ∧ ChM M w w' := by
  obtain ⟨D, hG, hN, hs⟩ := id h
  have H0 := Lib.hid (two_any L a b w)
  have H1 := Lib.hid (is_any L M _ a b 3 D _ w hG hN ha hb)
  have H2 := Lib.hid (is_any L M _ b a 3 D _ w hG hN hb ha)
  have H3 := Lib.hid (are_any L M _ a b D _ w hG hN ha hb)
  have H4 := Lib.hid (is_any L M _ a b 1 D _ w hG hN ha hb)
  have H5 := Lib.hid (is_any L M _ b a 1 D _ w hG hN hb ha)
  have HGR := Lib.hid h
  have HIN := Lib.hid hI
  have hr : askL l a b = (l, false, 11) := by unfold askL; rw [if_neg (Classical.not_not.2 h0), if_neg (fun e => e.elim h1 h2), if_pos (.inl (by simpa [areB] using h3))]
  rw [hr]
  have e1 : decide (tie l a b = 3) = false := by rw [decide_eq_false_iff_not, hI.tie3]; exact h1
  have e2 : decide (tie l b a = 3) = false := by rw [decide_eq_false_iff_not, hI.tie3]; exact h2
  have e3 : decide (tie l a b = 2 ∨ tie l b a = 2) = true := by rw [are_dec hI]; exact h3
  clear hr h hI hG hN
  go_enter Try.func40, Try.ntmps40
  go_wp2_with fail
  refine H0.out.mono ?_
  rintro r w' ⟨rfl, hw⟩
  have hw := hw.symm
  subst hw
  rw [h0]
  go_wp2_with fail
  refine H1.out.mono ?_
  rintro r w' ⟨rfl, hw⟩
  have hw := hw.symm
  subst hw
  rw [e1]
  go_wp2_with fail
  refine H2.out.mono ?_
  rintro r w' ⟨rfl, hw⟩
  have hw := hw.symm
  subst hw
  rw [e2]
  go_wp2_with fail
  refine H3.out.mono ?_
  rintro r w' ⟨rfl, hw⟩
  have hw := hw.symm
  subst hw
  rw [e3]
  go_wp2
  exact bodyPost_ret (v := .tuple #[.bool false, .int .i64 11]) (by simp [results, Try.results40, go_sem]) rfl ⟨rfl, HGR.out.up (by omega), ChM.of_below (Below.refl _ _)⟩
set_option maxHeartbeats 2000000 in
theorem ask_4 (L M n a b : Nat) (l : List Rw) (w : World) (h : Gr w L M n l) (hI : Inv l) (hn : n ≤ 1000) (ha : u32ok a) (hb : u32ok b) (h0 : wrongC a b = 0) (h1 : (3, a, b) ∉ l) (h2 : (3, b, a) ∉ l) (h3 : areB l a b = false) (h4 : (1, a, b) ∈ l) :
    Calls Try.prog 40 #[gp L, u a, u b] w fun r w' => r = .returned (.tuple #[.bool (askL l a b).2.1, .int .i64 (askL l a b).2.2]) ∧ Gr w' L M (n + 1) (askL l a b).1 ∧ ChM M w w' := by
  obtain ⟨D, hG, hN, hs⟩ := id h
  have H0 := Lib.hid (two_any L a b w)
  have H1 := Lib.hid (is_any L M _ a b 3 D _ w hG hN ha hb)
  have H2 := Lib.hid (is_any L M _ b a 3 D _ w hG hN hb ha)
  have H3 := Lib.hid (are_any L M _ a b D _ w hG hN ha hb)
  have H4 := Lib.hid (is_any L M _ a b 1 D _ w hG hN ha hb)
  have H5 := Lib.hid (is_any L M _ b a 1 D _ w hG hN hb ha)
  have HGR := Lib.hid h
  have HIN := Lib.hid hI
  have hr : askL l a b = (l, false, 11) := by unfold askL; rw [if_neg (Classical.not_not.2 h0), if_neg (fun e => e.elim h1 h2), if_pos (.inr h4)]
  rw [hr]
  have e1 : decide (tie l a b = 3) = false := by rw [decide_eq_false_iff_not, hI.tie3]; exact h1
  have e2 : decide (tie l b a = 3) = false := by rw [decide_eq_false_iff_not, hI.tie3]; exact h2
  have e3 : decide (tie l a b = 2 ∨ tie l b a = 2) = false := by rw [are_dec hI]; exact h3
  have e4 : decide (tie l a b = 1) = true := by rw [decide_eq_true_iff, hI.tie1]; exact h4
  clear hr h hI hG hN
  go_enter Try.func40, Try.ntmps40
  go_wp2_with fail
  refine H0.out.mono ?_
  rintro r w' ⟨rfl, hw⟩
  have hw := hw.symm
  subst hw
  rw [h0]
  go_wp2_with fail
  refine H1.out.mono ?_
  rintro r w' ⟨rfl, hw⟩
  have hw := hw.symm
  subst hw
  rw [e1]
  go_wp2_with fail
  refine H2.out.mono ?_
  rintro r w' ⟨rfl, hw⟩
  have hw := hw.symm
  subst hw
  rw [e2]
  go_wp2_with fail
  refine H3.out.mono ?_
  rintro r w' ⟨rfl, hw⟩
  have hw := hw.symm
  subst hw
  rw [e3]
  go_wp2_with fail
  refine H4.out.mono ?_
  rintro r w' ⟨rfl, hw⟩
  have hw := hw.symm
  subst hw
  rw [e4]
  go_wp2
  exact bodyPost_ret (v := .tuple #[.bool false, .int .i64 11]) (by simp [results, Try.results40, go_sem]) rfl ⟨rfl, HGR.out.up (by omega), ChM.of_below (Below.refl _ _)⟩
set_option maxHeartbeats 2000000 in
theorem ask_5 (L M n a b : Nat) (l : List Rw) (w : World) (h : Gr w L M n l) (hI : Inv l) (hn : n ≤ 1000) (ha : u32ok a) (hb : u32ok b) (h0 : wrongC a b = 0) (h1 : (3, a, b) ∉ l) (h2 : (3, b, a) ∉ l) (h3 : areB l a b = false) (h4 : (1, a, b) ∉ l) (h5 : (1, b, a) ∈ l) :
    Calls Try.prog 40 #[gp L, u a, u b] w fun r w' => r = .returned (.tuple #[.bool (askL l a b).2.1, .int .i64 (askL l a b).2.2]) ∧ Gr w' L M (n + 1) (askL l a b).1 ∧ ChM M w w' := by
  obtain ⟨D, hG, hN, hs⟩ := id h
  have H0 := Lib.hid (two_any L a b w)
  have H1 := Lib.hid (is_any L M _ a b 3 D _ w hG hN ha hb)
  have H2 := Lib.hid (is_any L M _ b a 3 D _ w hG hN hb ha)
  have H3 := Lib.hid (are_any L M _ a b D _ w hG hN ha hb)
  have H4 := Lib.hid (is_any L M _ a b 1 D _ w hG hN ha hb)
  have H5 := Lib.hid (is_any L M _ b a 1 D _ w hG hN hb ha)
  have HGR := Lib.hid h
  have HIN := Lib.hid hI
  have hr : askL l a b = (wo l a b ++ [(2, a, b)], true, 0) := by unfold askL; rw [if_neg (Classical.not_not.2 h0), if_neg (fun e => e.elim h1 h2), if_neg (fun e => e.elim (fun e => by simp [areB] at h3; exact e.elim h3.1 h3.2) h4), if_pos h5]
  rw [hr]
  have e1 : decide (tie l a b = 3) = false := by rw [decide_eq_false_iff_not, hI.tie3]; exact h1
  have e2 : decide (tie l b a = 3) = false := by rw [decide_eq_false_iff_not, hI.tie3]; exact h2
  have e3 : decide (tie l a b = 2 ∨ tie l b a = 2) = false := by rw [are_dec hI]; exact h3
  have e4 : decide (tie l a b = 1) = false := by rw [decide_eq_false_iff_not, hI.tie1]; exact h4
  have e5 : decide (tie l b a = 1) = true := by rw [decide_eq_true_iff, hI.tie1]; exact h5
  have HAC := Lib.hid (accept_any L M n a b l w h hI hn ha hb)
  have hac : accL l a b = (wo l a b ++ [(2, a, b)], 0) := by unfold accL; rw [if_pos h5]
  rw [hac] at HAC
  clear hac
  clear hr h hI hG hN
  go_enter Try.func40, Try.ntmps40
  go_wp2_with fail
  refine H0.out.mono ?_
  rintro r w' ⟨rfl, hw⟩
  have hw := hw.symm
  subst hw
  rw [h0]
  go_wp2_with fail
  refine H1.out.mono ?_
  rintro r w' ⟨rfl, hw⟩
  have hw := hw.symm
  subst hw
  rw [e1]
  go_wp2_with fail
  refine H2.out.mono ?_
  rintro r w' ⟨rfl, hw⟩
  have hw := hw.symm
  subst hw
  rw [e2]
  go_wp2_with fail
  refine H3.out.mono ?_
  rintro r w' ⟨rfl, hw⟩
  have hw := hw.symm
  subst hw
  rw [e3]
  go_wp2_with fail
  refine H4.out.mono ?_
  rintro r w' ⟨rfl, hw⟩
  have hw := hw.symm
  subst hw
  rw [e4]
  go_wp2_with fail
  refine H5.out.mono ?_
  rintro r w' ⟨rfl, hw⟩
  have hw := hw.symm
  subst hw
  rw [e5]
  go_wp2_with fail
  refine HAC.out.mono ?_
  rintro r w' ⟨rfl, g1, g2⟩
  go_wp2
  exact bodyPost_ret (v := .tuple #[.bool true, .int .i64 0]) (by simp [results, Try.results40, go_sem]) rfl ⟨rfl, g1, g2⟩
set_option maxHeartbeats 2000000 in
theorem ask_6 (L M n a b : Nat) (l : List Rw) (w : World) (h : Gr w L M n l) (hI : Inv l) (hn : n ≤ 1000) (ha : u32ok a) (hb : u32ok b) (h0 : wrongC a b = 0) (h1 : (3, a, b) ∉ l) (h2 : (3, b, a) ∉ l) (h3 : areB l a b = false) (h4 : (1, a, b) ∉ l) (h5 : (1, b, a) ∉ l) (f1 : 16 ≤ cw l a) :
    Calls Try.prog 40 #[gp L, u a, u b] w fun r w' => r = .returned (.tuple #[.bool (askL l a b).2.1, .int .i64 (askL l a b).2.2]) ∧ Gr w' L M (n + 1) (askL l a b).1 ∧ ChM M w w' := by
  obtain ⟨D, hG, hN, hs⟩ := id h
  have H0 := Lib.hid (two_any L a b w)
  have H1 := Lib.hid (is_any L M _ a b 3 D _ w hG hN ha hb)
  have H2 := Lib.hid (is_any L M _ b a 3 D _ w hG hN hb ha)
  have H3 := Lib.hid (are_any L M _ a b D _ w hG hN ha hb)
  have H4 := Lib.hid (is_any L M _ a b 1 D _ w hG hN ha hb)
  have H5 := Lib.hid (is_any L M _ b a 1 D _ w hG hN hb ha)
  have HGR := Lib.hid h
  have HIN := Lib.hid hI
  have hr : askL l a b = (l, false, 10) := by unfold askL; rw [if_neg (Classical.not_not.2 h0), if_neg (fun e => e.elim h1 h2), if_neg (fun e => e.elim (fun e => by simp [areB] at h3; exact e.elim h3.1 h3.2) h4), if_neg h5, if_pos (.inl f1)]
  rw [hr]
  have e1 : decide (tie l a b = 3) = false := by rw [decide_eq_false_iff_not, hI.tie3]; exact h1
  have e2 : decide (tie l b a = 3) = false := by rw [decide_eq_false_iff_not, hI.tie3]; exact h2
  have e3 : decide (tie l a b = 2 ∨ tie l b a = 2) = false := by rw [are_dec hI]; exact h3
  have e4 : decide (tie l a b = 1) = false := by rw [decide_eq_false_iff_not, hI.tie1]; exact h4
  have e5 : decide (tie l b a = 1) = false := by rw [decide_eq_false_iff_not, hI.tie1]; exact h5
  have HF1 := Lib.hid (full_any L M n a l w h hI hn ha)
  have hf1 : decide (16 ≤ cw l a) = true := by simp [f1]
  rw [hf1] at HF1
  clear hr h hI hG hN
  go_enter Try.func40, Try.ntmps40
  go_wp2_with fail
  refine H0.out.mono ?_
  rintro r w' ⟨rfl, hw⟩
  have hw := hw.symm
  subst hw
  rw [h0]
  go_wp2_with fail
  refine H1.out.mono ?_
  rintro r w' ⟨rfl, hw⟩
  have hw := hw.symm
  subst hw
  rw [e1]
  go_wp2_with fail
  refine H2.out.mono ?_
  rintro r w' ⟨rfl, hw⟩
  have hw := hw.symm
  subst hw
  rw [e2]
  go_wp2_with fail
  refine H3.out.mono ?_
  rintro r w' ⟨rfl, hw⟩
  have hw := hw.symm
  subst hw
  rw [e3]
  go_wp2_with fail
  refine H4.out.mono ?_
  rintro r w' ⟨rfl, hw⟩
  have hw := hw.symm
  subst hw
  rw [e4]
  go_wp2_with fail
  refine H5.out.mono ?_
  rintro r w' ⟨rfl, hw⟩
  have hw := hw.symm
  subst hw
  rw [e5]
  go_wp2_with fail
  refine HF1.out.mono ?_
  rintro r w' ⟨rfl, g1⟩
  go_wp2
  exact bodyPost_ret (v := .tuple #[.bool false, .int .i64 10]) (by simp [results, Try.results40, go_sem]) rfl ⟨rfl, (HGR.out.below g1).up (by omega), ChM.of_below g1⟩
set_option maxHeartbeats 2000000 in
theorem ask_7 (L M n a b : Nat) (l : List Rw) (w : World) (h : Gr w L M n l) (hI : Inv l) (hn : n ≤ 1000) (ha : u32ok a) (hb : u32ok b) (h0 : wrongC a b = 0) (h1 : (3, a, b) ∉ l) (h2 : (3, b, a) ∉ l) (h3 : areB l a b = false) (h4 : (1, a, b) ∉ l) (h5 : (1, b, a) ∉ l) (f1 : ¬ 16 ≤ cw l a) (f2 : 16 ≤ cw l b) :
    Calls Try.prog 40 #[gp L, u a, u b] w fun r w' => r = .returned (.tuple #[.bool (askL l a b).2.1, .int .i64 (askL l a b).2.2]) ∧ Gr w' L M (n + 1) (askL l a b).1 ∧ ChM M w w' := by
  obtain ⟨D, hG, hN, hs⟩ := id h
  have H0 := Lib.hid (two_any L a b w)
  have H1 := Lib.hid (is_any L M _ a b 3 D _ w hG hN ha hb)
  have H2 := Lib.hid (is_any L M _ b a 3 D _ w hG hN hb ha)
  have H3 := Lib.hid (are_any L M _ a b D _ w hG hN ha hb)
  have H4 := Lib.hid (is_any L M _ a b 1 D _ w hG hN ha hb)
  have H5 := Lib.hid (is_any L M _ b a 1 D _ w hG hN hb ha)
  have HGR := Lib.hid h
  have HIN := Lib.hid hI
  have hr : askL l a b = (l, false, 10) := by unfold askL; rw [if_neg (Classical.not_not.2 h0), if_neg (fun e => e.elim h1 h2), if_neg (fun e => e.elim (fun e => by simp [areB] at h3; exact e.elim h3.1 h3.2) h4), if_neg h5, if_pos (.inr f2)]
  rw [hr]
  have e1 : decide (tie l a b = 3) = false := by rw [decide_eq_false_iff_not, hI.tie3]; exact h1
  have e2 : decide (tie l b a = 3) = false := by rw [decide_eq_false_iff_not, hI.tie3]; exact h2
  have e3 : decide (tie l a b = 2 ∨ tie l b a = 2) = false := by rw [are_dec hI]; exact h3
  have e4 : decide (tie l a b = 1) = false := by rw [decide_eq_false_iff_not, hI.tie1]; exact h4
  have e5 : decide (tie l b a = 1) = false := by rw [decide_eq_false_iff_not, hI.tie1]; exact h5
  have HF1 := Lib.hid (full_any L M n a l w h hI hn ha)
  have hf1 : decide (16 ≤ cw l a) = false := by simp [f1]
  rw [hf1] at HF1
  have HF2 : Hid (∀ W, Below w.heap.size w W → Calls Try.prog 59 #[gp L, u b] W fun r w' => r = .returned (.bool (decide (16 ≤ cw l b))) ∧ Below W.heap.size W w') := fun W hW => full_any L M n b l W (h.below hW) hI hn hb
  have hf2 : decide (16 ≤ cw l b) = true := by simp [f2]
  rw [hf2] at HF2
  clear hr h hI hG hN
  go_enter Try.func40, Try.ntmps40
  go_wp2_with fail
  refine H0.out.mono ?_
  rintro r w' ⟨rfl, hw⟩
  have hw := hw.symm
  subst hw
  rw [h0]
  go_wp2_with fail
  refine H1.out.mono ?_
  rintro r w' ⟨rfl, hw⟩
  have hw := hw.symm
  subst hw
  rw [e1]
  go_wp2_with fail
  refine H2.out.mono ?_
  rintro r w' ⟨rfl, hw⟩
  have hw := hw.symm
  subst hw
  rw [e2]
  go_wp2_with fail
  refine H3.out.mono ?_
  rintro r w' ⟨rfl, hw⟩
  have hw := hw.symm
  subst hw
  rw [e3]
  go_wp2_with fail
  refine H4.out.mono ?_
  rintro r w' ⟨rfl, hw⟩
  have hw := hw.symm
  subst hw
  rw [e4]
  go_wp2_with fail
  refine H5.out.mono ?_
  rintro r w' ⟨rfl, hw⟩
  have hw := hw.symm
  subst hw
  rw [e5]
  go_wp2_with fail
  refine HF1.out.mono ?_
  rintro r w' ⟨rfl, g1⟩
  have HB1 := Lib.hid g1
  clear g1
  go_wp2_with fail
  refine (HF2.out _ HB1.out).mono ?_
  rintro r w2 ⟨rfl, g2⟩
  go_wp2
  exact bodyPost_ret (v := .tuple #[.bool false, .int .i64 10]) (by simp [results, Try.results40, go_sem]) rfl ⟨rfl, (HGR.out.below (HB1.out.trans (g2.mono HB1.out.size))).up (by omega), ChM.of_below (HB1.out.trans (g2.mono HB1.out.size))⟩
set_option maxHeartbeats 2000000 in
theorem ask_8 (L M n a b : Nat) (l : List Rw) (w : World) (h : Gr w L M n l) (hI : Inv l) (hn : n ≤ 1000) (ha : u32ok a) (hb : u32ok b) (h0 : wrongC a b = 0) (h1 : (3, a, b) ∉ l) (h2 : (3, b, a) ∉ l) (h3 : areB l a b = false) (h4 : (1, a, b) ∉ l) (h5 : (1, b, a) ∉ l) (f1 : ¬ 16 ≤ cw l a) (f2 : ¬ 16 ≤ cw l b) :
    Calls Try.prog 40 #[gp L, u a, u b] w fun r w' => r = .returned (.tuple #[.bool (askL l a b).2.1, .int .i64 (askL l a b).2.2]) ∧ Gr w' L M (n + 1) (askL l a b).1 ∧ ChM M w w' := by
  obtain ⟨D, hG, hN, hs⟩ := id h
  have H0 := Lib.hid (two_any L a b w)
  have H1 := Lib.hid (is_any L M _ a b 3 D _ w hG hN ha hb)
  have H2 := Lib.hid (is_any L M _ b a 3 D _ w hG hN hb ha)
  have H3 := Lib.hid (are_any L M _ a b D _ w hG hN ha hb)
  have H4 := Lib.hid (is_any L M _ a b 1 D _ w hG hN ha hb)
  have H5 := Lib.hid (is_any L M _ b a 1 D _ w hG hN hb ha)
  have HGR := Lib.hid h
  have HIN := Lib.hid hI
  have hr : askL l a b = (l ++ [(1, a, b)], false, 0) := by unfold askL; rw [if_neg (Classical.not_not.2 h0), if_neg (fun e => e.elim h1 h2), if_neg (fun e => e.elim (fun e => by simp [areB] at h3; exact e.elim h3.1 h3.2) h4), if_neg h5, if_neg (fun e => e.elim f1 f2)]
  rw [hr]
  have e1 : decide (tie l a b = 3) = false := by rw [decide_eq_false_iff_not, hI.tie3]; exact h1
  have e2 : decide (tie l b a = 3) = false := by rw [decide_eq_false_iff_not, hI.tie3]; exact h2
  have e3 : decide (tie l a b = 2 ∨ tie l b a = 2) = false := by rw [are_dec hI]; exact h3
  have e4 : decide (tie l a b = 1) = false := by rw [decide_eq_false_iff_not, hI.tie1]; exact h4
  have e5 : decide (tie l b a = 1) = false := by rw [decide_eq_false_iff_not, hI.tie1]; exact h5
  have HF1 := Lib.hid (full_any L M n a l w h hI hn ha)
  have hf1 : decide (16 ≤ cw l a) = false := by simp [f1]
  rw [hf1] at HF1
  have HF2 : Hid (∀ W, Below w.heap.size w W → Calls Try.prog 59 #[gp L, u b] W fun r w' => r = .returned (.bool (decide (16 ≤ cw l b))) ∧ Below W.heap.size W w') := fun W hW => full_any L M n b l W (h.below hW) hI hn hb
  have hf2 : decide (16 ≤ cw l b) = false := by simp [f2]
  rw [hf2] at HF2
  clear hr h hI hG hN
  go_enter Try.func40, Try.ntmps40
  go_wp2_with fail
  refine H0.out.mono ?_
  rintro r w' ⟨rfl, hw⟩
  have hw := hw.symm
  subst hw
  rw [h0]
  go_wp2_with fail
  refine H1.out.mono ?_
  rintro r w' ⟨rfl, hw⟩
  have hw := hw.symm
  subst hw
  rw [e1]
  go_wp2_with fail
  refine H2.out.mono ?_
  rintro r w' ⟨rfl, hw⟩
  have hw := hw.symm
  subst hw
  rw [e2]
  go_wp2_with fail
  refine H3.out.mono ?_
  rintro r w' ⟨rfl, hw⟩
  have hw := hw.symm
  subst hw
  rw [e3]
  go_wp2_with fail
  refine H4.out.mono ?_
  rintro r w' ⟨rfl, hw⟩
  have hw := hw.symm
  subst hw
  rw [e4]
  go_wp2_with fail
  refine H5.out.mono ?_
  rintro r w' ⟨rfl, hw⟩
  have hw := hw.symm
  subst hw
  rw [e5]
  go_wp2_with fail
  refine HF1.out.mono ?_
  rintro r w' ⟨rfl, g1⟩
  have HB1 := Lib.hid g1
  clear g1
  go_wp2_with fail
  refine (HF2.out _ HB1.out).mono ?_
  rintro r w2 ⟨rfl, g2⟩
  have HB2 : Hid (Below w.heap.size w w2) := HB1.out.trans (g2.mono HB1.out.size)
  clear g2
  obtain ⟨D2, hG2, hN2, hs2⟩ := HGR.out.below HB2.out
  have c1 := cell_of_row w2 L 0 _ _ _ hG2.1
  simp at c1
  have hown := hG2.2
  have hkey := key67 a b ha hb
  have HALL : Hid (∀ w' cnt, IsG w' L M cnt (D2.put (kl a b) (tD 1)) → Gr w' L M (n + 1) (l ++ [(1, a, b)])) := fun w' cnt h' => Gr.of_put hG2 hN2 hs2 ha hb (by omega) h' (tie_ask HIN.out (HIN.out.ask1 (wrong_ok h0) (none_of HIN.out h4 h5 (fun e => by simp [areB] at h3; exact h3.1 e) (fun e => by simp [areB] at h3; exact h3.2 e) h1 h2) (by omega) (by omega)) (wrong_ok h0).2.2 (none_of HIN.out h4 h5 (fun e => by simp [areB] at h3; exact h3.1 e) (fun e => by simp [areB] at h3; exact h3.2 e) h1 h2))
  have HNE := Lib.hid hG2.ne
  have HL1 := Lib.hid hG2.1
  clear hG2 hN2
  go_wp2_with (first
    | (at_mapUpdate; refine wpList_mapUpdate_own _ rfl _ _ _ 126 rfl 133 131 K133 Try.underlying126 RT M (size D2) D2 rfl hown (by unfold maxLen; omega) _ _ (kl a b) rfl rfl hkey (tD 1) [] rfl ?_; intro w9 hown1 hgrow1)
    | go_in)
  have HG9 : Gr w9 L M (n + 1) (l ++ [(1, a, b)]) := HALL.out _ _ ⟨(hgrow1.block L (lt_of_block HL1.out) (fun e => by injection e with e; exact HNE.out e)).trans HL1.out, hown1⟩
  exact bodyPost_ret (v := .tuple #[.bool false, .int .i64 0]) (by simp [results, Try.results40, go_sem]) rfl ⟨rfl, HG9, ChM.of_grown HB2.out hgrow1⟩
theorem ask_any (L M n a b : Nat) (l : List Rw) (w : World) (h : Gr w L M n l) (hI : Inv l) (hn : n ≤ 1000) (ha : u32ok a) (hb : u32ok b) :
    Calls Try.prog 40 #[gp L, u a, u b] w fun r w' => r = .returned (.tuple #[.bool (askL l a b).2.1, .int .i64 (askL l a b).2.2]) ∧ Gr w' L M (n + 1) (askL l a b).1 ∧ ChM M w w' := by
  by_cases h0 : wrongC a b = 0
  · by_cases h1 : (3, a, b) ∈ l
    · exact ask_1 L M n a b l w h hI hn ha hb h0 h1
    · by_cases h2 : (3, b, a) ∈ l
      · exact ask_2 L M n a b l w h hI hn ha hb h0 h1 h2
      · cases h3 : areB l a b
        · by_cases h4 : (1, a, b) ∈ l
          · exact ask_4 L M n a b l w h hI hn ha hb h0 h1 h2 h3 h4
          · by_cases h5 : (1, b, a) ∈ l
            · exact ask_5 L M n a b l w h hI hn ha hb h0 h1 h2 h3 h4 h5
            · by_cases f1 : 16 ≤ cw l a
              · exact ask_6 L M n a b l w h hI hn ha hb h0 h1 h2 h3 h4 h5 f1
              · by_cases f2 : 16 ≤ cw l b
                · exact ask_7 L M n a b l w h hI hn ha hb h0 h1 h2 h3 h4 h5 f1 f2
                · exact ask_8 L M n a b l w h hI hn ha hb h0 h1 h2 h3 h4 h5 f1 f2
        · exact ask_3 L M n a b l w h hI hn ha hb h0 h1 h2 h3
  · exact ask_0 L M n a b l w h hI hn ha hb h0
end Go.Proofs.Ytaoejkbockcneaa
