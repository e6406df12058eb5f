/- Frames: what a reader made of bytes is, wrapped, and what waits behind, those bytes: FrameOnly returns true for every input. -/
import Derived.Test.YtggoclmboemmlaaFD
namespace Go.Proofs.Ytggoclmboemmlaa
open Go.RowKit

theorem pb_prefix {w : World} {A : Option Addr} {n c : Nat} {b C t : List UInt8} (h : Pb w (.slice A n c) b) (e : C ++ t = b) : Pb w (.slice A C.length c) C := by
  obtain ⟨A', c', e1, hc, hr⟩ := h
  injection e1 with e2 e3 e4
  subst e2 e4
  have hl : C.length ≤ b.length := by rw [← e, List.length_append]; omega
  refine ⟨A, c, rfl, by omega, fun hx => ?_⟩
  obtain ⟨g, o, h1, h2, h3⟩ := hr (by omega)
  refine ⟨g, o, h1, h2, fun j u hu => h3 j u ?_⟩
  rw [← e]
  rw [show bv (C ++ t) = bv C ++ bv t by simp [bv], List.getElem?_append_left (List.getElem?_eq_some_iff.1 hu).1]
  exact hu

set_option linter.unusedSimpArgs false in
set_option maxHeartbeats 2000000 in
set_option maxRecDepth 4000 in
theorem only_walk (v : Value) (b : List UInt8) (w : World) (hp : Pb w v b) (hpl : b.length ≤ 9223372036854775807) :
    Calls Try.prog 7 #[v] w fun e w' => e = .returned (.bool true) ∧ Below w.heap.size w w' := by
  obtain ⟨A, c, rfl, hlc, _⟩ := id hp
  obtain ⟨n, hn⟩ : ∃ n, n = b.length := ⟨_, rfl⟩
  rw [← hn] at hp hpl hlc ⊢
  have HP := Lib.hid hp
  have HN := Lib.hid hn
  have HA := Lib.hid (fun (W : World) => awake_any W)
  clear hp hn
  go_enter Try.func7, Try.ntmps7
  by_cases hbig : 3000 < n
  · have t : decide ((n : Int) > 3000) = true := by rw [decide_eq_true_iff]; omega
    go_wp2_with fail
    go_ret
    exact ⟨rfl, Below.refl _ _⟩
  have t : decide ((n : Int) > 3000) = false := by rw [decide_eq_false_iff_not]; omega
  have hfd := feeds_any _ [b] _ (pbs_one HP.out) (by simp [← HN.out]; omega) (by simp)
  rw [show [b].flatten = b by simp] at hfd
  have HFD := Lib.hid hfd
  have HBA := Lib.hid (show Below w.heap.size w (w.alloc (.cells #[.slice A n c] 24)) from (Below.refl _ _).alloc (Nat.le_refl _) _)
  have HN3 := Lib.hid (show b.length ≤ 3000 by rw [← HN.out]; omega)
  clear hfd hbig
  go_wp2_with fail
  refine HFD.out.mono ?_
  intro e w1 hq
  obtain ⟨A2, n2, c2, vs, e1, hfr, hb1⟩ := hq
  have hgd : goodB (parse b).1 = true := by
    unfold goodB
    rw [decide_eq_true_iff]
    exact frames_right b
  obtain ⟨t1, ht1, ht2⟩ := wrap_parse b
  have hfw := parse_few b
  obtain ⟨q, hq⟩ : ∃ q, q = parse b := ⟨_, rfl⟩
  rw [← hq] at e1 hfr hgd ht1 ht2 hfw
  obtain ⟨fs, r, d⟩ := q
  simp only at e1 hfr hgd ht1 ht2 hfw
  obtain ⟨C, hC⟩ : ∃ C, C = wrapP fs := ⟨_, rfl⟩
  have hCr : wrapR fs = C := by
    unfold wrapR
    rw [hgd, hC]
    rfl
  rw [← hC] at ht1
  have hCl : C.length ≤ n := by rw [HN.out, ← ht1, List.length_append]; omega
  have hfl : ∀ p ∈ fs, p.length ≤ 9223372036854775807 := by
    intro p hp
    have := frames_right b p (by rw [← hq]; exact hp)
    omega
  have hwr := wrap_any _ fs w1 hfr.pbs (by have := HN3.out; omega) hfl (by rw [← hC]; have := HN3.out; have := HN.out; omega)
  rw [hCr, hgd, if_pos rfl] at hwr
  obtain ⟨rl, hrl⟩ : ∃ rl, rl = r.length := ⟨_, rfl⟩
  rw [← hrl] at e1
  subst e1
  have hsum : d = false → C.length + rl = n := by
    intro h
    have := ht2 h
    rw [HN.out, ← ht1, List.length_append, this, hrl]
  have HWR := Lib.hid hwr
  have HB1 := Lib.hid (HBA.out.trans (hb1.mono HBA.out.size))
  have HCL := Lib.hid hCl
  have HT1 := Lib.hid ht1
  have HSUM := Lib.hid hsum
  clear hwr hb1 hCl ht1 ht2 hsum hrl hfl hCr hC hgd hfw hfr hq HFD
  go_wp2_with fail
  refine HWR.out.mono ?_
  intro e w2 hq2
  obtain ⟨A3, m, c3, e1, ho3, hb2⟩ := hq2
  subst e1
  have hp3 := own_pb ho3
  have hm : m = C.length := by
    obtain ⟨_, _, e, _⟩ := hp3
    injection e
  have HB2 := Lib.hid (HB1.out.trans (hb2.mono HB1.out.size))
  have k1 := conv_pb (hp3.below (Below.refl w2.heap.size w2).drew)
  have k2 := conv_pb ((pb_prefix HP.out HT1.out).below HB2.out.drew)
  obtain ⟨s, hs⟩ : ∃ s : ByteArray, s = ⟨C.toArray⟩ := ⟨_, rfl⟩
  rw [← hs] at k1 k2
  rw [← hm] at k2
  have HS := Lib.hid (And.intro k1 k2)
  rw [← hm] at HCL HSUM
  have hmn := HCL.out
  have tm1 : decide ((m : Int) > (n : Int)) = false := by rw [decide_eq_false_iff_not]; omega
  have hst : (s.toList == s.toList) = true := beq_self_eq_true _
  clear k1 k2 hs hm hp3 ho3 hb2 HWR
  go_upto_region 5 with fail
  refine wp_region_held_drew (S := fun W => (convert 24 9 (.slice A3 m c3)).run Try.prog W = .ok (.string s) W ∧ (convert 24 9 (.slice A m c)).run Try.prog W = .ok (.string s) W) (by kernel_rfl) HS.out (fun hHeld => ?_)
  obtain ⟨W0, hW0⟩ : ∃ W0, W0 = w2.drew := ⟨_, rfl⟩
  have HB0 := Lib.hid (show Below w.heap.size w W0 by rw [hW0]; exact HB2.out.drew)
  rw [← hW0] at hHeld ⊢
  clear hW0
  refine wpAnyH_take (i := 0) (oi := ?oi0) (v := ?v0) ?hi0 ?hs0 ?hf0 ?hr0 ?hQ0 ?hy0 ?hS0 ?h0
  case hi0 => exact (by simp only [List.getElem?_toArray, List.getElem?_cons_zero]; rfl)
  case hs0 => kernel_rfl
  case hf0 => kernel_rfl
  case hr0 => kernel_rfl
  case hQ0 => exact fun _ _ _ h => h
  case hy0 =>
    refine Or.inl ⟨rfl, ?_⟩
    intro W hSw
    obtain ⟨q1, q2⟩ := hSw
    go_simp
    try with_reducible rfl
  case hS0 => assumption
  try simp only [Act.put, List.setIfInBounds_toArray, List.set_cons_zero, List.set_cons_succ]
  refine wpAnyH_take (i := 1) (oi := ?oi1) (v := ?v1) ?hi1 ?hs1 ?hf1 ?hr1 ?hQ1 ?hy1 ?hS1 ?h1
  case hi1 => exact (by simp only [List.getElem?_toArray, List.getElem?_cons_succ, List.getElem?_cons_zero]; rfl)
  case hs1 => kernel_rfl
  case hf1 => kernel_rfl
  case hr1 => kernel_rfl
  case hQ1 => exact fun _ _ _ h => h
  case hy1 =>
    refine Or.inl ⟨rfl, ?_⟩
    intro W hSw
    obtain ⟨q1, q2⟩ := hSw
    go_simp
    try with_reducible rfl
  case hS1 => assumption
  try simp only [Act.put, List.setIfInBounds_toArray, List.set_cons_zero, List.set_cons_succ]
  refine wpAnyH_take (i := 2) (oi := ?oi2) (v := ?v2) ?hi2 ?hs2 ?hf2 ?hr2 ?hQ2 ?hy2 ?hS2 ?h2
  case hi2 => exact (by simp only [List.getElem?_toArray, List.getElem?_cons_succ, List.getElem?_cons_zero]; rfl)
  case hs2 => kernel_rfl
  case hf2 => kernel_rfl
  case hr2 => kernel_rfl
  case hQ2 => exact fun _ _ _ h => h
  case hy2 =>
    refine Or.inl ⟨rfl, ?_⟩
    intro W hSw
    obtain ⟨q1, q2⟩ := hSw
    go_simp
    try with_reducible rfl
  case hS2 => assumption
  try simp only [Act.put, List.setIfInBounds_toArray, List.set_cons_zero, List.set_cons_succ]
  refine wpAnyH_take (i := 3) (oi := ?oi3) (v := ?v3) ?hi3 ?hs3 ?hf3 ?hr3 ?hQ3 ?hy3 ?hS3 ?h3
  case hi3 => exact (by simp only [List.getElem?_toArray, List.getElem?_cons_succ, List.getElem?_cons_zero]; rfl)
  case hs3 => kernel_rfl
  case hf3 => kernel_rfl
  case hr3 => kernel_rfl
  case hQ3 => exact fun _ _ _ h => h
  case hy3 =>
    refine Or.inl ⟨rfl, ?_⟩
    intro W hSw
    obtain ⟨q1, q2⟩ := hSw
    go_simp
    try with_reducible rfl
  case hS3 => assumption
  try simp only [Act.put, List.setIfInBounds_toArray, List.set_cons_zero, List.set_cons_succ]
  refine wpAnyH_take (i := 4) (oi := ?oi4) (v := ?v4) ?hi4 ?hs4 ?hf4 ?hr4 ?hQ4 ?hy4 ?hS4 ?h4
  case hi4 => exact (by simp only [List.getElem?_toArray, List.getElem?_cons_succ, List.getElem?_cons_zero]; rfl)
  case hs4 => kernel_rfl
  case hf4 => kernel_rfl
  case hr4 => kernel_rfl
  case hQ4 => exact fun _ _ _ h => h
  case hy4 =>
    refine Or.inl ⟨rfl, ?_⟩
    intro W hSw
    obtain ⟨q1, q2⟩ := hSw
    go_simp
    try with_reducible rfl
  case hS4 => assumption
  try simp only [Act.put, List.setIfInBounds_toArray, List.set_cons_zero, List.set_cons_succ]
  refine wpAnyH_take (i := 5) (oi := ?oi5) (v := ?v5) ?hi5 ?hs5 ?hf5 ?hr5 ?hQ5 ?hy5 ?hS5 ?h5
  case hi5 => exact (by simp only [List.getElem?_toArray, List.getElem?_cons_succ, List.getElem?_cons_zero]; rfl)
  case hs5 => kernel_rfl
  case hf5 => kernel_rfl
  case hr5 => kernel_rfl
  case hQ5 => exact fun _ _ _ h => h
  case hy5 =>
    refine Or.inl ⟨rfl, ?_⟩
    intro W hSw
    obtain ⟨q1, q2⟩ := hSw
    go_simp
    try with_reducible rfl
  case hS5 => assumption
  try simp only [Act.put, List.setIfInBounds_toArray, List.set_cons_zero, List.set_cons_succ]
  refine wpAnyH_take (i := 6) (oi := ?oi6) (v := ?v6) ?hi6 ?hs6 ?hf6 ?hr6 ?hQ6 ?hy6 ?hS6 ?h6
  case hi6 => exact (by simp only [List.getElem?_toArray, List.getElem?_cons_succ, List.getElem?_cons_zero]; rfl)
  case hs6 => kernel_rfl
  case hf6 => kernel_rfl
  case hr6 => kernel_rfl
  case hQ6 => exact fun _ _ _ h => h
  case hy6 =>
    refine Or.inl ⟨rfl, ?_⟩
    intro W hSw
    obtain ⟨q1, q2⟩ := hSw
    go_simp
    try with_reducible rfl
  case hS6 => assumption
  try simp only [Act.put, List.setIfInBounds_toArray, List.set_cons_zero, List.set_cons_succ]
  refine wpAnyH_take (i := 7) (oi := ?oi7) (v := .bool false) ?hi7 ?hs7 ?hf7 ?hr7 ?hQ7 ?hy7 ?hS7 ?h7
  case hi7 => exact (by simp only [List.getElem?_toArray, List.getElem?_cons_succ, List.getElem?_cons_zero]; rfl)
  case hs7 => kernel_rfl
  case hf7 => kernel_rfl
  case hr7 => kernel_rfl
  case hQ7 => exact fun _ _ _ h => h
  case hy7 =>
    refine Or.inl ⟨rfl, ?_⟩
    intro W hSw
    go_simp
  case hS7 => assumption
  try simp only [Act.put, List.setIfInBounds_toArray, List.set_cons_zero, List.set_cons_succ]
  refine wpAnyH_take (i := 8) (oi := ?oi8) (v := ?v8) ?hi8 ?hs8 ?hf8 ?hr8 ?hQ8 ?hy8 ?hS8 ?h8
  case hi8 => exact (by simp only [List.getElem?_toArray, List.getElem?_cons_succ, List.getElem?_cons_zero]; rfl)
  case hs8 => kernel_rfl
  case hf8 => kernel_rfl
  case hr8 => kernel_rfl
  case hQ8 => exact fun _ _ _ h => h
  case hy8 =>
    refine Or.inl ⟨rfl, ?_⟩
    intro W hSw
    obtain ⟨q1, q2⟩ := hSw
    go_simp
    try with_reducible rfl
  case hS8 => assumption
  try simp only [Act.put, List.setIfInBounds_toArray, List.set_cons_zero, List.set_cons_succ]
  refine wpAnyH_take (i := 9) (oi := ?oi9) (v := ?v9) ?hi9 ?hs9 ?hf9 ?hr9 ?hQ9 ?hy9 ?hS9 ?h9
  case hi9 => exact (by simp only [List.getElem?_toArray, List.getElem?_cons_succ, List.getElem?_cons_zero]; rfl)
  case hs9 => kernel_rfl
  case hf9 => kernel_rfl
  case hr9 => kernel_rfl
  case hQ9 => exact fun _ _ _ h => h
  case hy9 =>
    refine Or.inl ⟨rfl, ?_⟩
    intro W hSw
    obtain ⟨q1, q2⟩ := hSw
    go_simp
    try with_reducible rfl
  case hS9 => assumption
  try simp only [Act.put, List.setIfInBounds_toArray, List.set_cons_zero, List.set_cons_succ]
  refine wpAnyH_take (i := 10) (oi := ?oi10) (v := ?v10) ?hi10 ?hs10 ?hf10 ?hr10 ?hQ10 ?hy10 ?hS10 ?h10
  case hi10 => exact (by simp only [List.getElem?_toArray, List.getElem?_cons_succ, List.getElem?_cons_zero]; rfl)
  case hs10 => kernel_rfl
  case hf10 => kernel_rfl
  case hr10 => kernel_rfl
  case hQ10 => exact fun _ _ _ h => h
  case hy10 =>
    refine Or.inl ⟨rfl, ?_⟩
    intro W hSw
    obtain ⟨q1, q2⟩ := hSw
    go_simp
    try with_reducible rfl
  case hS10 => assumption
  try simp only [Act.put, List.setIfInBounds_toArray, List.set_cons_zero, List.set_cons_succ]
  refine wpAnyH_take (i := 11) (oi := ?oi11) (v := ?v11) ?hi11 ?hs11 ?hf11 ?hr11 ?hQ11 ?hy11 ?hS11 ?h11
  case hi11 => exact (by simp only [List.getElem?_toArray, List.getElem?_cons_succ, List.getElem?_cons_zero]; rfl)
  case hs11 => kernel_rfl
  case hf11 => kernel_rfl
  case hr11 => kernel_rfl
  case hQ11 => exact fun _ _ _ h => h
  case hy11 =>
    refine Or.inl ⟨rfl, ?_⟩
    intro W hSw
    obtain ⟨q1, q2⟩ := hSw
    go_simp
    try with_reducible rfl
  case hS11 => assumption
  try simp only [Act.put, List.setIfInBounds_toArray, List.set_cons_zero, List.set_cons_succ]
  refine wpAnyH_take (i := 12) (oi := ?oi12) (v := ?v12) ?hi12 ?hs12 ?hf12 ?hr12 ?hQ12 ?hy12 ?hS12 ?h12
  case hi12 => exact (by simp only [List.getElem?_toArray, List.getElem?_cons_succ, List.getElem?_cons_zero]; rfl)
  case hs12 => kernel_rfl
  case hf12 => kernel_rfl
  case hr12 => kernel_rfl
  case hQ12 => exact fun _ _ _ h => h
  case hy12 =>
    refine Or.inl ⟨rfl, ?_⟩
    intro W hSw
    obtain ⟨q1, q2⟩ := hSw
    go_simp
    try with_reducible rfl
  case hS12 => assumption
  try simp only [Act.put, List.setIfInBounds_toArray, List.set_cons_zero, List.set_cons_succ]
  refine wpAnyH_take (i := 13) (oi := ?oi13) (v := ?v13) ?hi13 ?hs13 ?hf13 ?hr13 ?hQ13 ?hy13 ?hS13 ?h13
  case hi13 => exact (by simp only [List.getElem?_toArray, List.getElem?_cons_succ, List.getElem?_cons_zero]; rfl)
  case hs13 => kernel_rfl
  case hf13 => kernel_rfl
  case hr13 => kernel_rfl
  case hQ13 => exact fun _ _ _ h => h
  case hy13 =>
    refine Or.inl ⟨rfl, ?_⟩
    intro W hSw
    obtain ⟨q1, q2⟩ := hSw
    go_simp
    try with_reducible rfl
  case hS13 => assumption
  try simp only [Act.put, List.setIfInBounds_toArray, List.set_cons_zero, List.set_cons_succ]
  refine wpAnyH_take (i := 14) (oi := ?oi14) (v := ?v14) ?hi14 ?hs14 ?hf14 ?hr14 ?hQ14 ?hy14 ?hS14 ?h14
  case hi14 => exact (by simp only [List.getElem?_toArray, List.getElem?_cons_succ, List.getElem?_cons_zero]; rfl)
  case hs14 => kernel_rfl
  case hf14 => kernel_rfl
  case hr14 => kernel_rfl
  case hQ14 => exact fun _ _ _ h => h
  case hy14 =>
    refine Or.inl ⟨rfl, ?_⟩
    intro W hSw
    obtain ⟨q1, q2⟩ := hSw
    go_simp
    try with_reducible rfl
  case hS14 => assumption
  try simp only [Act.put, List.setIfInBounds_toArray, List.set_cons_zero, List.set_cons_succ]
  refine wpAnyH_take (i := 15) (oi := ?oi15) (v := .slice A m c) ?hi15 ?hs15 ?hf15 ?hr15 ?hQ15 ?hy15 ?hS15 ?h15
  case hi15 => exact (by simp only [List.getElem?_toArray, List.getElem?_cons_succ, List.getElem?_cons_zero]; rfl)
  case hs15 => kernel_rfl
  case hf15 => kernel_rfl
  case hr15 => kernel_rfl
  case hQ15 => exact fun _ _ _ h => h
  case hy15 =>
    refine Or.inl ⟨rfl, ?_⟩
    intro W hSw
    go_simp
    intro h
    omega
  case hS15 => assumption
  try simp only [Act.put, List.setIfInBounds_toArray, List.set_cons_zero, List.set_cons_succ]
  refine wpAnyH_take (i := 16) (oi := ?oi16) (v := ?v16) ?hi16 ?hs16 ?hf16 ?hr16 ?hQ16 ?hy16 ?hS16 ?h16
  case hi16 => exact (by simp only [List.getElem?_toArray, List.getElem?_cons_succ, List.getElem?_cons_zero]; rfl)
  case hs16 => kernel_rfl
  case hf16 => kernel_rfl
  case hr16 => kernel_rfl
  case hQ16 => exact fun _ _ _ h => h
  case hy16 =>
    refine Or.inl ⟨rfl, ?_⟩
    intro W hSw
    obtain ⟨q1, q2⟩ := hSw
    go_simp
    try with_reducible rfl
  case hS16 => assumption
  try simp only [Act.put, List.setIfInBounds_toArray, List.set_cons_zero, List.set_cons_succ]
  refine wpAnyH_take (i := 17) (oi := ?oi17) (v := ?v17) ?hi17 ?hs17 ?hf17 ?hr17 ?hQ17 ?hy17 ?hS17 ?h17
  case hi17 => exact (by simp only [List.getElem?_toArray, List.getElem?_cons_succ, List.getElem?_cons_zero]; rfl)
  case hs17 => kernel_rfl
  case hf17 => kernel_rfl
  case hr17 => kernel_rfl
  case hQ17 => exact fun _ _ _ h => h
  case hy17 =>
    refine Or.inl ⟨rfl, ?_⟩
    intro W hSw
    obtain ⟨q1, q2⟩ := hSw
    go_simp
    try with_reducible rfl
  case hS17 => assumption
  try simp only [Act.put, List.setIfInBounds_toArray, List.set_cons_zero, List.set_cons_succ]
  refine wpAnyH_take (i := 18) (oi := ?oi18) (v := ?v18) ?hi18 ?hs18 ?hf18 ?hr18 ?hQ18 ?hy18 ?hS18 ?h18
  case hi18 => exact (by simp only [List.getElem?_toArray, List.getElem?_cons_succ, List.getElem?_cons_zero]; rfl)
  case hs18 => kernel_rfl
  case hf18 => kernel_rfl
  case hr18 => kernel_rfl
  case hQ18 => exact fun _ _ _ h => h
  case hy18 =>
    refine Or.inl ⟨rfl, ?_⟩
    intro W hSw
    obtain ⟨q1, q2⟩ := hSw
    go_simp
    try with_reducible rfl
  case hS18 => assumption
  try simp only [Act.put, List.setIfInBounds_toArray, List.set_cons_zero, List.set_cons_succ]
  refine wpAnyH_done (by kernel_rfl) ?_ _
  clear hHeld
  cases d with
  | true =>
    clear HSUM
    go_wp2_with fail
    refine (HA.out W0).mono ?_
    rintro e w8 ⟨rfl, hb8⟩
    have HB8 := Lib.hid (HB0.out.trans (hb8.mono HB0.out.size))
    clear hb8
    go_wp2_with fail
    go_ret
    exact ⟨rfl, HB8.out⟩
  | false =>
    have hsum2 := HSUM.out rfl
    have e5 : ((m : Int) + (rl : Int)) = (n : Int) := by omega
    have hr3 : rl ≤ 3000 := by have := HN3.out; have := HN.out; omega
    have hm3 : m ≤ 3000 := by have := HN3.out; have := HN.out; omega
    clear HSUM hsum2
    go_wp2_with fail
    refine (HA.out W0).mono ?_
    rintro e w8 ⟨rfl, hb8⟩
    have HB8 := Lib.hid (HB0.out.trans (hb8.mono HB0.out.size))
    clear hb8
    go_wp2_with fail
    go_ret
    exact ⟨rfl, HB8.out⟩
end Go.Proofs.Ytggoclmboemmlaa
