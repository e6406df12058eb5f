/- Whatever bytes, number and many are handed to FieldTakes, it returns true: what field.Put puts field.Take takes, and leaves what is behind it; eight bytes of a number are four and four; the arguments read as they did. No condition. -/
import Derived.Test.YtmpfakcjdkggdaaB2
import Derived.ProofKit
import Derived.OpenShut
import Derived.Deep.RegionHeld3
namespace Go.Proofs.Ytmpfakcjdkggdaa.fieldTakes
open Go.ChangeShapes Go.WideShapes Go.ChangeAt Go.RowKit

set_option maxHeartbeats 1000000 in
theorem walk_big (v : Value) (l : List UInt8) (n mm : Nat) (w : World) (hv : Bs w w.heap.size v l) (hl : 300 < l.length) :
    Calls Try.prog 9 #[v, .int .u64 (n : Int), .int .u8 (mm : Int)] w fun e w' => e = .returned (.bool true) ∧ Below w.heap.size w w' := by
  obtain ⟨A, c, rfl, hlc, hr⟩ := hv
  clear hr
  go_enter Try.func9, Try.ntmps9
  go_wp2
  go_ret
  exact ⟨rfl, Below.refl _ _⟩

theorem conv_bs {w : World} {B : Nat} {v : Value} {l : List UInt8} (h : Bs w B v l) : (convert 31 9 v).run Try.prog w = .ok (.string ⟨l.toArray⟩) w := by
  obtain ⟨A, c, rfl, _, hr⟩ := h
  exact conv_rd hr c

set_option maxHeartbeats 4000000 in
theorem walk_small (v : Value) (l : List UInt8) (n mm : Nat) (w : World) (hv : Bs w w.heap.size v l) (hl : l.length ≤ 300) (hn : n < 18446744073709551616) (hmm : mm < 256) :
    Calls Try.prog 9 #[v, .int .u64 (n : Int), .int .u8 (mm : Int)] w fun e w' => e = .returned (.bool true) ∧ Below w.heap.size w w' := by
  have HV := Lib.hid hv
  obtain ⟨k, hk⟩ : ∃ k, k = 1 + mm % 8 := ⟨_, rfl⟩
  have hk1 : 1 ≤ k := by omega
  have hk8 : k ≤ 8 := by omega
  have ek : (1 + (mm : Int) % 8) = (k : Int) := by omega
  obtain ⟨A, c, rfl, hlc, hr⟩ := hv
  clear hr hk
  obtain ⟨M, hM⟩ : ∃ M, M = 256 ^ k := ⟨_, rfl⟩
  obtain ⟨q, hq⟩ : ∃ q, q = num (be k n) := ⟨_, rfl⟩
  have hq2 : q = n % M := by rw [hq, num_be, hM]
  have hM1 : 1 ≤ M := by rw [hM]; exact Nat.pos_of_ne_zero (by simp)
  have hqn : k = 8 → q = n := by
    intro h
    rw [hq2, hM, h]
    exact Nat.mod_eq_of_lt (by simpa using hn)
  have eM : k < 8 → IntKind.u64.wrap ((2 : Int) ^ (8 * k)) = (M : Int) := by
    intro h
    have h8 : k = 1 ∨ k = 2 ∨ k = 3 ∨ k = 4 ∨ k = 5 ∨ k = 6 ∨ k = 7 := by omega
    rw [hM]
    rcases h8 with rfl | rfl | rfl | rfl | rfl | rfl | rfl <;> rfl
  have et : ((q : Int) == (n : Int) % (M : Int)) = true := by rw [beq_iff_eq, hq2]; simp
  have et2 : k = 8 → ((q : Int) == (n : Int)) = true := by intro h; rw [beq_iff_eq, hqn h]
  have HQ := Lib.hid hq
  clear hq hM hq2 hqn
  obtain ⟨hi, hhi⟩ : ∃ hi, hi = n / 4294967296 := ⟨_, rfl⟩
  obtain ⟨lo, hlo⟩ : ∃ lo, lo = n % 4294967296 := ⟨_, rfl⟩
  have eh : ((n : Int) / 4294967296) = (hi : Int) := by omega
  have el : ((n : Int) % 4294967296) = (lo : Int) := by omega
  have hhib : hi < 4294967296 := by omega
  have hlob : lo < 4294967296 := by omega
  have hsp : be 4 hi ++ be 4 lo = be 8 n := by rw [be_split, hlo, hhi, Nat.mod_eq_of_lt (by omega : n / 4294967296 < 4294967296)]
  have HSP := Lib.hid hsp
  clear hsp hhi hlo
  by_cases h8 : k < 8
  · have eM' := eM h8
    clear eM et2
    go_enter Try.func9, Try.ntmps9
    go_wp2_with fail
    refine (put_any w.heap.size (.slice none 0 0) [] n k w (Bs.nil _ _) (by simp) hk8).mono ?_
    rintro e w1 ⟨v1, rfl, hown1, hb1⟩
    have hlen1 : (be k n).length = k := be_length _ _
    have hown1' : w1.ownsRow w.heap.size 5 1 v1 (be k n).length (bv (be k n)) := by rw [hlen1]; simpa using hown1
    have hbs1 := hb1.size
    have HO := Lib.hid hown1'
    have HL := Lib.hid hlen1
    clear hown1 hown1' hlen1
    go_wp2_with (at_builtin; refine wpList_append_bytes rfl _ _ rfl w.heap.size w.heap.size v1 _ _ l rfl rfl HO.out (HV.out.below hb1 (Nat.le_refl _)) (by rw [HL.out]; omega) hbs1 ?_; intro v2 w2 hown2 hgrow)
    have hb2 : Below w.heap.size w w2 := hb1.grown hgrow hbs1 (fun k' hk' => (HO.out.lt k' hk').1)
    have ht := take_ok w2.heap.size v2 (be k n ++ l) k w2 (Bs.of_own hown2) (Nat.le_refl _) (by rw [List.length_append, HL.out]; omega) hk1 hk8 (by rw [List.length_append, HL.out]; omega)
    rw [List.take_left' HL.out, List.drop_left' HL.out, ← HQ.out] at ht
    clear hown2 hgrow hbs1
    refine ht.mono ?_
    clear ht
    rintro e w3 ⟨v3, rfl, hbs3, hb3⟩
    have hbs2 := hb2.size
    have HB3 := Lib.hid hbs3
    clear hbs3
    go_wp2_with fail
    refine (put_any w3.heap.size (.slice none 0 0) [] hi 4 w3 (Bs.nil _ _) (by simp) (by omega)).mono ?_
    rintro e w4 ⟨v4, rfl, hown4, hb4⟩
    have h4 : Bs w4 w4.heap.size v4 (be 4 hi) := Bs.of_own (by rw [be_length]; simpa using hown4)
    have HB4 := Lib.hid h4
    clear hown4 h4
    go_wp2_with fail
    refine (put_any w4.heap.size v4 (be 4 hi) lo 4 w4 HB4.out (by rw [be_length]; omega) (by omega)).mono ?_
    rintro e w5 ⟨v5, rfl, hown5, hb5⟩
    have h5 : Bs w5 w5.heap.size v5 (be 8 n) := by
      rw [← HSP.out]
      exact Bs.of_own (by rw [List.length_append, be_length, be_length]; simpa [be_length] using hown5)
    have HB5 := Lib.hid h5
    clear hown5 h5
    have hb25 : Below w.heap.size w w5 := ((hb2.trans (hb3.mono hbs2)).trans (hb4.mono (Nat.le_trans hbs2 hb3.size))).trans (hb5.mono (Nat.le_trans (Nat.le_trans hbs2 hb3.size) hb4.size))
    go_wp2_with fail
    obtain ⟨s0, hs0⟩ : ∃ s0 : ByteArray, s0 = ⟨l.toArray⟩ := ⟨_, rfl⟩
    obtain ⟨t0, ht0⟩ : ∃ t0 : ByteArray, t0 = ⟨(be 8 n).toArray⟩ := ⟨_, rfl⟩
    have H3 : Hid (∀ W, Below w5.heap.size w5 W → (convert 31 9 v3).run Try.prog W = .ok (.string s0) W) := fun W hW => by
      rw [hs0]
      exact conv_bs ((((HB3.out.below hb4 (Nat.le_refl _)).below hb5 hb4.size)).below hW (Nat.le_trans hb4.size hb5.size))
    have H0 : Hid (∀ W, Below w5.heap.size w5 W → (convert 31 9 (.slice A l.length c)).run Try.prog W = .ok (.string s0) W) := fun W hW => by
      rw [hs0]
      exact conv_bs ((HV.out.below hb25 (Nat.le_refl _)).below hW hb25.size)
    have H5 : Hid (∀ W, Below w5.heap.size w5 W → (convert 31 9 v5).run Try.prog W = .ok (.string t0) W) := fun W hW => by
      rw [ht0]
      exact conv_bs (HB5.out.below hW (Nat.le_refl _))
    have HT := Lib.hid ht0
    have hd := (Below.refl w5.heap.size w5).drew
    have HD := Lib.hid hd
    clear hd ht0 hs0
    refine wp_region_held_drew (S := fun W => (convert 31 9 v3).run Try.prog W = .ok (.string s0) W ∧ (convert 31 9 (.slice A l.length c)).run Try.prog W = .ok (.string s0) W ∧ (convert 31 9 v5).run Try.prog W = .ok (.string t0) W) (by kernel_rfl) ⟨H3.out _ HD.out, H0.out _ HD.out, H5.out _ HD.out⟩ (fun hHeld => ?_)
    refine wpAnyH_take (i := 0) (oi := ?oi0) (v := ?v0) ?hi0 ?hs0 ?hf0 ?hr0 ?hQ0 ?hy0 ?hS0 ?h0
    case hi0 => exact (by simp only [List.getElem?_toArray, List.getElem?_cons_zero]; rfl)
    case hs0 => kernel_rfl
    case hf0 => kernel_rfl
    case hr0 => kernel_rfl
    case hQ0 => exact fun _ _ _ h => h
    case hy0 =>
      refine Or.inl ⟨rfl, ?_⟩
      intro W hSw
      try dsimp only at hSw
      go_simp
      try with_reducible rfl
    case hS0 => assumption
    try simp only [Act.put, List.setIfInBounds_toArray, List.set_cons_zero, List.set_cons_succ]
    refine wpAnyH_take (i := 1) (oi := ?oi1) (v := ?v1) ?hi1 ?hs1 ?hf1 ?hr1 ?hQ1 ?hy1 ?hS1 ?h1
    case hi1 => exact (by simp only [List.getElem?_toArray, List.getElem?_cons_succ, List.getElem?_cons_zero]; rfl)
    case hs1 => kernel_rfl
    case hf1 => kernel_rfl
    case hr1 => kernel_rfl
    case hQ1 => exact fun _ _ _ h => h
    case hy1 =>
      refine Or.inl ⟨rfl, ?_⟩
      intro W hSw
      try dsimp only at hSw
      go_simp
      try with_reducible rfl
    case hS1 => assumption
    try simp only [Act.put, List.setIfInBounds_toArray, List.set_cons_zero, List.set_cons_succ]
    refine wpAnyH_take (i := 2) (oi := ?oi2) (v := ?v2) ?hi2 ?hs2 ?hf2 ?hr2 ?hQ2 ?hy2 ?hS2 ?h2
    case hi2 => exact (by simp only [List.getElem?_toArray, List.getElem?_cons_succ, List.getElem?_cons_zero]; rfl)
    case hs2 => kernel_rfl
    case hf2 => kernel_rfl
    case hr2 => kernel_rfl
    case hQ2 => exact fun _ _ _ h => h
    case hy2 =>
      refine Or.inl ⟨rfl, ?_⟩
      intro W hSw
      try dsimp only at hSw
      go_simp
      try with_reducible rfl
    case hS2 => assumption
    try simp only [Act.put, List.setIfInBounds_toArray, List.set_cons_zero, List.set_cons_succ]
    refine wpAnyH_take (i := 3) (oi := ?oi3) (v := ?v3) ?hi3 ?hs3 ?hf3 ?hr3 ?hQ3 ?hy3 ?hS3 ?h3
    case hi3 => exact (by simp only [List.getElem?_toArray, List.getElem?_cons_succ, List.getElem?_cons_zero]; rfl)
    case hs3 => kernel_rfl
    case hf3 => kernel_rfl
    case hr3 => kernel_rfl
    case hQ3 => exact fun _ _ _ h => h
    case hy3 =>
      refine Or.inl ⟨rfl, ?_⟩
      intro W hSw
      try dsimp only at hSw
      go_simp
      try with_reducible rfl
    case hS3 => assumption
    try simp only [Act.put, List.setIfInBounds_toArray, List.set_cons_zero, List.set_cons_succ]
    refine wpAnyH_take (i := 4) (oi := ?oi4) (v := ?v4) ?hi4 ?hs4 ?hf4 ?hr4 ?hQ4 ?hy4 ?hS4 ?h4
    case hi4 => exact (by simp only [List.getElem?_toArray, List.getElem?_cons_succ, List.getElem?_cons_zero]; rfl)
    case hs4 => kernel_rfl
    case hf4 => kernel_rfl
    case hr4 => kernel_rfl
    case hQ4 => exact fun _ _ _ h => h
    case hy4 =>
      refine Or.inl ⟨rfl, ?_⟩
      intro W hSw
      try dsimp only at hSw
      go_simp
      try with_reducible rfl
    case hS4 => assumption
    try simp only [Act.put, List.setIfInBounds_toArray, List.set_cons_zero, List.set_cons_succ]
    refine wpAnyH_take (i := 5) (oi := ?oi5) (v := ?v5) ?hi5 ?hs5 ?hf5 ?hr5 ?hQ5 ?hy5 ?hS5 ?h5
    case hi5 => exact (by simp only [List.getElem?_toArray, List.getElem?_cons_succ, List.getElem?_cons_zero]; rfl)
    case hs5 => kernel_rfl
    case hf5 => kernel_rfl
    case hr5 => kernel_rfl
    case hQ5 => exact fun _ _ _ h => h
    case hy5 =>
      refine Or.inl ⟨rfl, ?_⟩
      intro W hSw
      try dsimp only at hSw
      go_simp
      try with_reducible rfl
    case hS5 => assumption
    try simp only [Act.put, List.setIfInBounds_toArray, List.set_cons_zero, List.set_cons_succ]
    refine wpAnyH_take (i := 6) (oi := ?oi6) (v := ?v6) ?hi6 ?hs6 ?hf6 ?hr6 ?hQ6 ?hy6 ?hS6 ?h6
    case hi6 => exact (by simp only [List.getElem?_toArray, List.getElem?_cons_succ, List.getElem?_cons_zero]; rfl)
    case hs6 => kernel_rfl
    case hf6 => kernel_rfl
    case hr6 => kernel_rfl
    case hQ6 => exact fun _ _ _ h => h
    case hy6 =>
      refine Or.inl ⟨rfl, ?_⟩
      intro W hSw
      try dsimp only at hSw
      go_simp
      try with_reducible rfl
    case hS6 => assumption
    try simp only [Act.put, List.setIfInBounds_toArray, List.set_cons_zero, List.set_cons_succ]
    refine wpAnyH_take (i := 7) (oi := ?oi7) (v := ?v7) ?hi7 ?hs7 ?hf7 ?hr7 ?hQ7 ?hy7 ?hS7 ?h7
    case hi7 => exact (by simp only [List.getElem?_toArray, List.getElem?_cons_succ, List.getElem?_cons_zero]; rfl)
    case hs7 => kernel_rfl
    case hf7 => kernel_rfl
    case hr7 => kernel_rfl
    case hQ7 => exact fun _ _ _ h => h
    case hy7 =>
      refine Or.inl ⟨rfl, ?_⟩
      intro W hSw
      try dsimp only at hSw
      go_simp
      try with_reducible rfl
    case hS7 => assumption
    try simp only [Act.put, List.setIfInBounds_toArray, List.set_cons_zero, List.set_cons_succ]
    refine wpAnyH_take (i := 8) (oi := ?oi8) (v := ?v8) ?hi8 ?hs8 ?hf8 ?hr8 ?hQ8 ?hy8 ?hS8 ?h8
    case hi8 => exact (by simp only [List.getElem?_toArray, List.getElem?_cons_succ, List.getElem?_cons_zero]; rfl)
    case hs8 => kernel_rfl
    case hf8 => kernel_rfl
    case hr8 => kernel_rfl
    case hQ8 => exact fun _ _ _ h => h
    case hy8 =>
      refine Or.inl ⟨rfl, ?_⟩
      intro W hSw
      try dsimp only at hSw
      go_simp
      try with_reducible rfl
    case hS8 => assumption
    try simp only [Act.put, List.setIfInBounds_toArray, List.set_cons_zero, List.set_cons_succ]
    refine wpAnyH_take (i := 9) (oi := ?oi9) (v := ?v9) ?hi9 ?hs9 ?hf9 ?hr9 ?hQ9 ?hy9 ?hS9 ?h9
    case hi9 => exact (by simp only [List.getElem?_toArray, List.getElem?_cons_succ, List.getElem?_cons_zero]; rfl)
    case hs9 => kernel_rfl
    case hf9 => kernel_rfl
    case hr9 => kernel_rfl
    case hQ9 => exact fun _ _ _ h => h
    case hy9 =>
      refine Or.inl ⟨rfl, ?_⟩
      intro W hSw
      try dsimp only at hSw
      go_simp
      try with_reducible rfl
    case hS9 => assumption
    try simp only [Act.put, List.setIfInBounds_toArray, List.set_cons_zero, List.set_cons_succ]
    refine wpAnyH_take (i := 10) (oi := ?oi10) (v := ?v10) ?hi10 ?hs10 ?hf10 ?hr10 ?hQ10 ?hy10 ?hS10 ?h10
    case hi10 => exact (by simp only [List.getElem?_toArray, List.getElem?_cons_succ, List.getElem?_cons_zero]; rfl)
    case hs10 => kernel_rfl
    case hf10 => kernel_rfl
    case hr10 => kernel_rfl
    case hQ10 => exact fun _ _ _ h => h
    case hy10 =>
      refine Or.inl ⟨rfl, ?_⟩
      intro W hSw
      try dsimp only at hSw
      go_simp
      try with_reducible rfl
    case hS10 => assumption
    try simp only [Act.put, List.setIfInBounds_toArray, List.set_cons_zero, List.set_cons_succ]
    refine wpAnyH_take (i := 11) (oi := ?oi11) (v := ?v11) ?hi11 ?hs11 ?hf11 ?hr11 ?hQ11 ?hy11 ?hS11 ?h11
    case hi11 => exact (by simp only [List.getElem?_toArray, List.getElem?_cons_succ, List.getElem?_cons_zero]; rfl)
    case hs11 => kernel_rfl
    case hf11 => kernel_rfl
    case hr11 => kernel_rfl
    case hQ11 => exact fun _ _ _ h => h
    case hy11 =>
      refine Or.inl ⟨rfl, ?_⟩
      intro W hSw
      try dsimp only at hSw
      go_simp
      try with_reducible rfl
    case hS11 => assumption
    try simp only [Act.put, List.setIfInBounds_toArray, List.set_cons_zero, List.set_cons_succ]
    refine wpAnyH_take (i := 12) (oi := ?oi12) (v := ?v12) ?hi12 ?hs12 ?hf12 ?hr12 ?hQ12 ?hy12 ?hS12 ?h12
    case hi12 => exact (by simp only [List.getElem?_toArray, List.getElem?_cons_succ, List.getElem?_cons_zero]; rfl)
    case hs12 => kernel_rfl
    case hf12 => kernel_rfl
    case hr12 => kernel_rfl
    case hQ12 => exact fun _ _ _ h => h
    case hy12 =>
      refine Or.inl ⟨rfl, ?_⟩
      intro W hSw
      try dsimp only at hSw
      go_simp
      try with_reducible rfl
    case hS12 => assumption
    try simp only [Act.put, List.setIfInBounds_toArray, List.set_cons_zero, List.set_cons_succ]
    refine wpAnyH_take (i := 13) (oi := ?oi13) (v := ?v13) ?hi13 ?hs13 ?hf13 ?hr13 ?hQ13 ?hy13 ?hS13 ?h13
    case hi13 => exact (by simp only [List.getElem?_toArray, List.getElem?_cons_succ, List.getElem?_cons_zero]; rfl)
    case hs13 => kernel_rfl
    case hf13 => kernel_rfl
    case hr13 => kernel_rfl
    case hQ13 => exact fun _ _ _ h => h
    case hy13 =>
      refine Or.inl ⟨rfl, ?_⟩
      intro W hSw
      try dsimp only at hSw
      go_simp
      try with_reducible rfl
    case hS13 => assumption
    try simp only [Act.put, List.setIfInBounds_toArray, List.set_cons_zero, List.set_cons_succ]
    refine wpAnyH_take (i := 14) (oi := ?oi14) (v := ?v14) ?hi14 ?hs14 ?hf14 ?hr14 ?hQ14 ?hy14 ?hS14 ?h14
    case hi14 => exact (by simp only [List.getElem?_toArray, List.getElem?_cons_succ, List.getElem?_cons_zero]; rfl)
    case hs14 => kernel_rfl
    case hf14 => kernel_rfl
    case hr14 => kernel_rfl
    case hQ14 => exact fun _ _ _ h => h
    case hy14 =>
      refine Or.inl ⟨rfl, ?_⟩
      intro W hSw
      try dsimp only at hSw
      go_simp
      try with_reducible rfl
    case hS14 => assumption
    try simp only [Act.put, List.setIfInBounds_toArray, List.set_cons_zero, List.set_cons_succ]
    refine wpAnyH_take (i := 15) (oi := ?oi15) (v := ?v15) ?hi15 ?hs15 ?hf15 ?hr15 ?hQ15 ?hy15 ?hS15 ?h15
    case hi15 => exact (by simp only [List.getElem?_toArray, List.getElem?_cons_succ, List.getElem?_cons_zero]; rfl)
    case hs15 => kernel_rfl
    case hf15 => kernel_rfl
    case hr15 => kernel_rfl
    case hQ15 => exact fun _ _ _ h => h
    case hy15 =>
      refine Or.inl ⟨rfl, ?_⟩
      intro W hSw
      try dsimp only at hSw
      go_simp
      try with_reducible rfl
    case hS15 => assumption
    try simp only [Act.put, List.setIfInBounds_toArray, List.set_cons_zero, List.set_cons_succ]
    refine wpAnyH_take (i := 16) (oi := ?oi16) (v := ?v16) ?hi16 ?hs16 ?hf16 ?hr16 ?hQ16 ?hy16 ?hS16 ?h16
    case hi16 => exact (by simp only [List.getElem?_toArray, List.getElem?_cons_succ, List.getElem?_cons_zero]; rfl)
    case hs16 => kernel_rfl
    case hf16 => kernel_rfl
    case hr16 => kernel_rfl
    case hQ16 => exact fun _ _ _ h => h
    case hy16 =>
      refine Or.inl ⟨rfl, ?_⟩
      intro W hSw
      try dsimp only at hSw
      go_simp
      try with_reducible rfl
    case hS16 => assumption
    try simp only [Act.put, List.setIfInBounds_toArray, List.set_cons_zero, List.set_cons_succ]
    refine wpAnyH_ready (rs := [17]) (by kernel_rfl) (by simp) ?_
    refine AllReadyH.cons (o := _) rfl (fun K hK => ?_) AllReadyH.nil
    go_simp
    refine (put_any w5.heap.size (.slice none 0 0) [] n 8 _ (Bs.nil _ _) (by simp) (by omega)).mono ?_
    rintro e w6 ⟨v6, rfl, hown6, hb6⟩
    have hc6 := HD.out.trans hb6
    have c6 : (convert 31 9 v6).run Try.prog w6 = .ok (.string t0) w6 := by
      rw [HT.out]
      exact conv_bs (Bs.of_own (by rw [be_length]; simpa using hown6))
    clear hown6
    try go_wp2_with fail
    refine hK.out _ _ ⟨H3.out _ hc6, H0.out _ hc6, H5.out _ hc6⟩ (fun hHeld => ?_)
    clear hK K
    try simp only [Act.put, List.setIfInBounds_toArray, List.set_cons_zero, List.set_cons_succ]
    refine wpAnyH_ready (rs := [18]) (by kernel_rfl) (by simp) ?_
    refine AllReadyH.cons (o := _) rfl (fun K hK => ?_) AllReadyH.nil
    go_simp
    refine hK.out _ _ ⟨H3.out _ hc6, H0.out _ hc6, H5.out _ hc6⟩ (fun hHeld => ?_)
    clear hK K
    try simp only [Act.put, List.setIfInBounds_toArray, List.set_cons_zero, List.set_cons_succ]
    refine wpAnyH_take (i := 19) (oi := ?oi19) (v := ?v19) ?hi19 ?hs19 ?hf19 ?hr19 ?hQ19 ?hy19 ?hS19 ?h19
    case hi19 => exact (by simp only [List.getElem?_toArray, List.getElem?_cons_succ, List.getElem?_cons_zero]; rfl)
    case hs19 => kernel_rfl
    case hf19 => kernel_rfl
    case hr19 => kernel_rfl
    case hQ19 => exact fun _ _ _ h => h
    case hy19 =>
      refine Or.inl ⟨rfl, ?_⟩
      intro W hSw
      try dsimp only at hSw
      go_simp
      try with_reducible rfl
    case hS19 => assumption
    try simp only [Act.put, List.setIfInBounds_toArray, List.set_cons_zero, List.set_cons_succ]
    refine wpAnyH_take (i := 20) (oi := ?oi20) (v := ?v20) ?hi20 ?hs20 ?hf20 ?hr20 ?hQ20 ?hy20 ?hS20 ?h20
    case hi20 => exact (by simp only [List.getElem?_toArray, List.getElem?_cons_succ, List.getElem?_cons_zero]; rfl)
    case hs20 => kernel_rfl
    case hf20 => kernel_rfl
    case hr20 => kernel_rfl
    case hQ20 => exact fun _ _ _ h => h
    case hy20 =>
      refine Or.inl ⟨rfl, ?_⟩
      intro W hSw
      try dsimp only at hSw
      go_simp
      try with_reducible rfl
    case hS20 => assumption
    try simp only [Act.put, List.setIfInBounds_toArray, List.set_cons_zero, List.set_cons_succ]
    refine wpAnyH_take (i := 21) (oi := ?oi21) (v := ?v21) ?hi21 ?hs21 ?hf21 ?hr21 ?hQ21 ?hy21 ?hS21 ?h21
    case hi21 => exact (by simp only [List.getElem?_toArray, List.getElem?_cons_succ, List.getElem?_cons_zero]; rfl)
    case hs21 => kernel_rfl
    case hf21 => kernel_rfl
    case hr21 => kernel_rfl
    case hQ21 => exact fun _ _ _ h => h
    case hy21 =>
      refine Or.inl ⟨rfl, ?_⟩
      intro W hSw
      try dsimp only at hSw
      go_simp
      try with_reducible rfl
    case hS21 => assumption
    try simp only [Act.put, List.setIfInBounds_toArray, List.set_cons_zero, List.set_cons_succ]
    refine wpAnyH_ready (rs := [22]) (by kernel_rfl) (by simp) ?_
    refine AllReadyH.cons (o := _) rfl (fun K hK => ?_) AllReadyH.nil
    go_simp
    refine (awake_any _).mono ?_
    rintro e w7 ⟨rfl, hb7⟩
    have hc7 := hc6.trans (hb7.mono hc6.size)
    try go_wp2_with fail
    refine hK.out _ _ ⟨H3.out _ hc7, H0.out _ hc7, H5.out _ hc7⟩ (fun hHeld => ?_)
    clear hK K
    try simp only [Act.put, List.setIfInBounds_toArray, List.set_cons_zero, List.set_cons_succ]
    refine wpAnyH_take (i := 23) (oi := ?oi23) (v := ?v23) ?hi23 ?hs23 ?hf23 ?hr23 ?hQ23 ?hy23 ?hS23 ?h23
    case hi23 => exact (by simp only [List.getElem?_toArray, List.getElem?_cons_succ, List.getElem?_cons_zero]; rfl)
    case hs23 => kernel_rfl
    case hf23 => kernel_rfl
    case hr23 => kernel_rfl
    case hQ23 => exact fun _ _ _ h => h
    case hy23 =>
      refine Or.inl ⟨rfl, ?_⟩
      intro W hSw
      try dsimp only at hSw
      go_simp
      try with_reducible rfl
    case hS23 => assumption
    try simp only [Act.put, List.setIfInBounds_toArray, List.set_cons_zero, List.set_cons_succ]
    refine wpAnyH_take (i := 24) (oi := ?oi24) (v := ?v24) ?hi24 ?hs24 ?hf24 ?hr24 ?hQ24 ?hy24 ?hS24 ?h24
    case hi24 => exact (by simp only [List.getElem?_toArray, List.getElem?_cons_succ, List.getElem?_cons_zero]; rfl)
    case hs24 => kernel_rfl
    case hf24 => kernel_rfl
    case hr24 => kernel_rfl
    case hQ24 => exact fun _ _ _ h => h
    case hy24 =>
      refine Or.inl ⟨rfl, ?_⟩
      intro W hSw
      try dsimp only at hSw
      go_simp
      try with_reducible rfl
    case hS24 => assumption
    try simp only [Act.put, List.setIfInBounds_toArray, List.set_cons_zero, List.set_cons_succ]
    refine wpAnyH_done (by kernel_rfl) ?_ _
    go_wp2
    go_ret
    exact ⟨rfl, hb25.trans (hc7.mono hb25.size)⟩
  · have et' := et2 (by omega)
    clear eM et et2
    go_enter Try.func9, Try.ntmps9
    go_wp2_with fail
    refine (put_any w.heap.size (.slice none 0 0) [] n k w (Bs.nil _ _) (by simp) hk8).mono ?_
    rintro e w1 ⟨v1, rfl, hown1, hb1⟩
    have hlen1 : (be k n).length = k := be_length _ _
    have hown1' : w1.ownsRow w.heap.size 5 1 v1 (be k n).length (bv (be k n)) := by rw [hlen1]; simpa using hown1
    have hbs1 := hb1.size
    have HO := Lib.hid hown1'
    have HL := Lib.hid hlen1
    clear hown1 hown1' hlen1
    go_wp2_with (at_builtin; refine wpList_append_bytes rfl _ _ rfl w.heap.size w.heap.size v1 _ _ l rfl rfl HO.out (HV.out.below hb1 (Nat.le_refl _)) (by rw [HL.out]; omega) hbs1 ?_; intro v2 w2 hown2 hgrow)
    have hb2 : Below w.heap.size w w2 := hb1.grown hgrow hbs1 (fun k' hk' => (HO.out.lt k' hk').1)
    have ht := take_ok w2.heap.size v2 (be k n ++ l) k w2 (Bs.of_own hown2) (Nat.le_refl _) (by rw [List.length_append, HL.out]; omega) hk1 hk8 (by rw [List.length_append, HL.out]; omega)
    rw [List.take_left' HL.out, List.drop_left' HL.out, ← HQ.out] at ht
    clear hown2 hgrow hbs1
    refine ht.mono ?_
    clear ht
    rintro e w3 ⟨v3, rfl, hbs3, hb3⟩
    have hbs2 := hb2.size
    have HB3 := Lib.hid hbs3
    clear hbs3
    go_wp2_with fail
    refine (put_any w3.heap.size (.slice none 0 0) [] hi 4 w3 (Bs.nil _ _) (by simp) (by omega)).mono ?_
    rintro e w4 ⟨v4, rfl, hown4, hb4⟩
    have h4 : Bs w4 w4.heap.size v4 (be 4 hi) := Bs.of_own (by rw [be_length]; simpa using hown4)
    have HB4 := Lib.hid h4
    clear hown4 h4
    go_wp2_with fail
    refine (put_any w4.heap.size v4 (be 4 hi) lo 4 w4 HB4.out (by rw [be_length]; omega) (by omega)).mono ?_
    rintro e w5 ⟨v5, rfl, hown5, hb5⟩
    have h5 : Bs w5 w5.heap.size v5 (be 8 n) := by
      rw [← HSP.out]
      exact Bs.of_own (by rw [List.length_append, be_length, be_length]; simpa [be_length] using hown5)
    have HB5 := Lib.hid h5
    clear hown5 h5
    have hb25 : Below w.heap.size w w5 := ((hb2.trans (hb3.mono hbs2)).trans (hb4.mono (Nat.le_trans hbs2 hb3.size))).trans (hb5.mono (Nat.le_trans (Nat.le_trans hbs2 hb3.size) hb4.size))
    go_wp2_with fail
    obtain ⟨s0, hs0⟩ : ∃ s0 : ByteArray, s0 = ⟨l.toArray⟩ := ⟨_, rfl⟩
    obtain ⟨t0, ht0⟩ : ∃ t0 : ByteArray, t0 = ⟨(be 8 n).toArray⟩ := ⟨_, rfl⟩
    have H3 : Hid (∀ W, Below w5.heap.size w5 W → (convert 31 9 v3).run Try.prog W = .ok (.string s0) W) := fun W hW => by
      rw [hs0]
      exact conv_bs ((((HB3.out.below hb4 (Nat.le_refl _)).below hb5 hb4.size)).below hW (Nat.le_trans hb4.size hb5.size))
    have H0 : Hid (∀ W, Below w5.heap.size w5 W → (convert 31 9 (.slice A l.length c)).run Try.prog W = .ok (.string s0) W) := fun W hW => by
      rw [hs0]
      exact conv_bs ((HV.out.below hb25 (Nat.le_refl _)).below hW hb25.size)
    have H5 : Hid (∀ W, Below w5.heap.size w5 W → (convert 31 9 v5).run Try.prog W = .ok (.string t0) W) := fun W hW => by
      rw [ht0]
      exact conv_bs (HB5.out.below hW (Nat.le_refl _))
    have HT := Lib.hid ht0
    have hd := (Below.refl w5.heap.size w5).drew
    have HD := Lib.hid hd
    clear hd ht0 hs0
    refine wp_region_held_drew (S := fun W => (convert 31 9 v3).run Try.prog W = .ok (.string s0) W ∧ (convert 31 9 (.slice A l.length c)).run Try.prog W = .ok (.string s0) W ∧ (convert 31 9 v5).run Try.prog W = .ok (.string t0) W) (by kernel_rfl) ⟨H3.out _ HD.out, H0.out _ HD.out, H5.out _ HD.out⟩ (fun hHeld => ?_)
    refine wpAnyH_take (i := 0) (oi := ?oi0b) (v := ?v0b) ?hi0b ?hs0b ?hf0b ?hr0b ?hQ0b ?hy0b ?hS0b ?h0b
    case hi0b => exact (by simp only [List.getElem?_toArray, List.getElem?_cons_zero]; rfl)
    case hs0b => kernel_rfl
    case hf0b => kernel_rfl
    case hr0b => kernel_rfl
    case hQ0b => exact fun _ _ _ h => h
    case hy0b =>
      refine Or.inl ⟨rfl, ?_⟩
      intro W hSw
      try dsimp only at hSw
      go_simp
      try with_reducible rfl
    case hS0b => assumption
    try simp only [Act.put, List.setIfInBounds_toArray, List.set_cons_zero, List.set_cons_succ]
    refine wpAnyH_take (i := 1) (oi := ?oi1b) (v := ?v1b) ?hi1b ?hs1b ?hf1b ?hr1b ?hQ1b ?hy1b ?hS1b ?h1b
    case hi1b => exact (by simp only [List.getElem?_toArray, List.getElem?_cons_succ, List.getElem?_cons_zero]; rfl)
    case hs1b => kernel_rfl
    case hf1b => kernel_rfl
    case hr1b => kernel_rfl
    case hQ1b => exact fun _ _ _ h => h
    case hy1b =>
      refine Or.inl ⟨rfl, ?_⟩
      intro W hSw
      try dsimp only at hSw
      go_simp
      try with_reducible rfl
    case hS1b => assumption
    try simp only [Act.put, List.setIfInBounds_toArray, List.set_cons_zero, List.set_cons_succ]
    refine wpAnyH_take (i := 2) (oi := ?oi2b) (v := ?v2b) ?hi2b ?hs2b ?hf2b ?hr2b ?hQ2b ?hy2b ?hS2b ?h2b
    case hi2b => exact (by simp only [List.getElem?_toArray, List.getElem?_cons_succ, List.getElem?_cons_zero]; rfl)
    case hs2b => kernel_rfl
    case hf2b => kernel_rfl
    case hr2b => kernel_rfl
    case hQ2b => exact fun _ _ _ h => h
    case hy2b =>
      refine Or.inl ⟨rfl, ?_⟩
      intro W hSw
      try dsimp only at hSw
      go_simp
      try with_reducible rfl
    case hS2b => assumption
    try simp only [Act.put, List.setIfInBounds_toArray, List.set_cons_zero, List.set_cons_succ]
    refine wpAnyH_take (i := 3) (oi := ?oi3b) (v := ?v3b) ?hi3b ?hs3b ?hf3b ?hr3b ?hQ3b ?hy3b ?hS3b ?h3b
    case hi3b => exact (by simp only [List.getElem?_toArray, List.getElem?_cons_succ, List.getElem?_cons_zero]; rfl)
    case hs3b => kernel_rfl
    case hf3b => kernel_rfl
    case hr3b => kernel_rfl
    case hQ3b => exact fun _ _ _ h => h
    case hy3b =>
      refine Or.inl ⟨rfl, ?_⟩
      intro W hSw
      try dsimp only at hSw
      go_simp
      try with_reducible rfl
    case hS3b => assumption
    try simp only [Act.put, List.setIfInBounds_toArray, List.set_cons_zero, List.set_cons_succ]
    refine wpAnyH_take (i := 4) (oi := ?oi4b) (v := ?v4b) ?hi4b ?hs4b ?hf4b ?hr4b ?hQ4b ?hy4b ?hS4b ?h4b
    case hi4b => exact (by simp only [List.getElem?_toArray, List.getElem?_cons_succ, List.getElem?_cons_zero]; rfl)
    case hs4b => kernel_rfl
    case hf4b => kernel_rfl
    case hr4b => kernel_rfl
    case hQ4b => exact fun _ _ _ h => h
    case hy4b =>
      refine Or.inl ⟨rfl, ?_⟩
      intro W hSw
      try dsimp only at hSw
      go_simp
      try with_reducible rfl
    case hS4b => assumption
    try simp only [Act.put, List.setIfInBounds_toArray, List.set_cons_zero, List.set_cons_succ]
    refine wpAnyH_take (i := 5) (oi := ?oi5b) (v := ?v5b) ?hi5b ?hs5b ?hf5b ?hr5b ?hQ5b ?hy5b ?hS5b ?h5b
    case hi5b => exact (by simp only [List.getElem?_toArray, List.getElem?_cons_succ, List.getElem?_cons_zero]; rfl)
    case hs5b => kernel_rfl
    case hf5b => kernel_rfl
    case hr5b => kernel_rfl
    case hQ5b => exact fun _ _ _ h => h
    case hy5b =>
      refine Or.inl ⟨rfl, ?_⟩
      intro W hSw
      try dsimp only at hSw
      go_simp
      try with_reducible rfl
    case hS5b => assumption
    try simp only [Act.put, List.setIfInBounds_toArray, List.set_cons_zero, List.set_cons_succ]
    refine wpAnyH_take (i := 6) (oi := ?oi6b) (v := ?v6b) ?hi6b ?hs6b ?hf6b ?hr6b ?hQ6b ?hy6b ?hS6b ?h6b
    case hi6b => exact (by simp only [List.getElem?_toArray, List.getElem?_cons_succ, List.getElem?_cons_zero]; rfl)
    case hs6b => kernel_rfl
    case hf6b => kernel_rfl
    case hr6b => kernel_rfl
    case hQ6b => exact fun _ _ _ h => h
    case hy6b =>
      refine Or.inl ⟨rfl, ?_⟩
      intro W hSw
      try dsimp only at hSw
      go_simp
      try with_reducible rfl
    case hS6b => assumption
    try simp only [Act.put, List.setIfInBounds_toArray, List.set_cons_zero, List.set_cons_succ]
    refine wpAnyH_take (i := 7) (oi := ?oi7b) (v := ?v7b) ?hi7b ?hs7b ?hf7b ?hr7b ?hQ7b ?hy7b ?hS7b ?h7b
    case hi7b => exact (by simp only [List.getElem?_toArray, List.getElem?_cons_succ, List.getElem?_cons_zero]; rfl)
    case hs7b => kernel_rfl
    case hf7b => kernel_rfl
    case hr7b => kernel_rfl
    case hQ7b => exact fun _ _ _ h => h
    case hy7b =>
      refine Or.inl ⟨rfl, ?_⟩
      intro W hSw
      try dsimp only at hSw
      go_simp
      try with_reducible rfl
    case hS7b => assumption
    try simp only [Act.put, List.setIfInBounds_toArray, List.set_cons_zero, List.set_cons_succ]
    refine wpAnyH_take (i := 8) (oi := ?oi8b) (v := ?v8b) ?hi8b ?hs8b ?hf8b ?hr8b ?hQ8b ?hy8b ?hS8b ?h8b
    case hi8b => exact (by simp only [List.getElem?_toArray, List.getElem?_cons_succ, List.getElem?_cons_zero]; rfl)
    case hs8b => kernel_rfl
    case hf8b => kernel_rfl
    case hr8b => kernel_rfl
    case hQ8b => exact fun _ _ _ h => h
    case hy8b =>
      refine Or.inl ⟨rfl, ?_⟩
      intro W hSw
      try dsimp only at hSw
      go_simp
      try with_reducible rfl
    case hS8b => assumption
    try simp only [Act.put, List.setIfInBounds_toArray, List.set_cons_zero, List.set_cons_succ]
    refine wpAnyH_take (i := 9) (oi := ?oi9b) (v := ?v9b) ?hi9b ?hs9b ?hf9b ?hr9b ?hQ9b ?hy9b ?hS9b ?h9b
    case hi9b => exact (by simp only [List.getElem?_toArray, List.getElem?_cons_succ, List.getElem?_cons_zero]; rfl)
    case hs9b => kernel_rfl
    case hf9b => kernel_rfl
    case hr9b => kernel_rfl
    case hQ9b => exact fun _ _ _ h => h
    case hy9b =>
      refine Or.inl ⟨rfl, ?_⟩
      intro W hSw
      try dsimp only at hSw
      go_simp
      try with_reducible rfl
    case hS9b => assumption
    try simp only [Act.put, List.setIfInBounds_toArray, List.set_cons_zero, List.set_cons_succ]
    refine wpAnyH_take (i := 10) (oi := ?oi10b) (v := ?v10b) ?hi10b ?hs10b ?hf10b ?hr10b ?hQ10b ?hy10b ?hS10b ?h10b
    case hi10b => exact (by simp only [List.getElem?_toArray, List.getElem?_cons_succ, List.getElem?_cons_zero]; rfl)
    case hs10b => kernel_rfl
    case hf10b => kernel_rfl
    case hr10b => kernel_rfl
    case hQ10b => exact fun _ _ _ h => h
    case hy10b =>
      refine Or.inl ⟨rfl, ?_⟩
      intro W hSw
      try dsimp only at hSw
      go_simp
      try with_reducible rfl
    case hS10b => assumption
    try simp only [Act.put, List.setIfInBounds_toArray, List.set_cons_zero, List.set_cons_succ]
    refine wpAnyH_take (i := 11) (oi := ?oi11b) (v := ?v11b) ?hi11b ?hs11b ?hf11b ?hr11b ?hQ11b ?hy11b ?hS11b ?h11b
    case hi11b => exact (by simp only [List.getElem?_toArray, List.getElem?_cons_succ, List.getElem?_cons_zero]; rfl)
    case hs11b => kernel_rfl
    case hf11b => kernel_rfl
    case hr11b => kernel_rfl
    case hQ11b => exact fun _ _ _ h => h
    case hy11b =>
      refine Or.inl ⟨rfl, ?_⟩
      intro W hSw
      try dsimp only at hSw
      go_simp
      try with_reducible rfl
    case hS11b => assumption
    try simp only [Act.put, List.setIfInBounds_toArray, List.set_cons_zero, List.set_cons_succ]
    refine wpAnyH_take (i := 12) (oi := ?oi12b) (v := ?v12b) ?hi12b ?hs12b ?hf12b ?hr12b ?hQ12b ?hy12b ?hS12b ?h12b
    case hi12b => exact (by simp only [List.getElem?_toArray, List.getElem?_cons_succ, List.getElem?_cons_zero]; rfl)
    case hs12b => kernel_rfl
    case hf12b => kernel_rfl
    case hr12b => kernel_rfl
    case hQ12b => exact fun _ _ _ h => h
    case hy12b =>
      refine Or.inl ⟨rfl, ?_⟩
      intro W hSw
      try dsimp only at hSw
      go_simp
      try with_reducible rfl
    case hS12b => assumption
    try simp only [Act.put, List.setIfInBounds_toArray, List.set_cons_zero, List.set_cons_succ]
    refine wpAnyH_take (i := 13) (oi := ?oi13b) (v := ?v13b) ?hi13b ?hs13b ?hf13b ?hr13b ?hQ13b ?hy13b ?hS13b ?h13b
    case hi13b => exact (by simp only [List.getElem?_toArray, List.getElem?_cons_succ, List.getElem?_cons_zero]; rfl)
    case hs13b => kernel_rfl
    case hf13b => kernel_rfl
    case hr13b => kernel_rfl
    case hQ13b => exact fun _ _ _ h => h
    case hy13b =>
      refine Or.inl ⟨rfl, ?_⟩
      intro W hSw
      try dsimp only at hSw
      go_simp
      try with_reducible rfl
    case hS13b => assumption
    try simp only [Act.put, List.setIfInBounds_toArray, List.set_cons_zero, List.set_cons_succ]
    refine wpAnyH_take (i := 14) (oi := ?oi14b) (v := ?v14b) ?hi14b ?hs14b ?hf14b ?hr14b ?hQ14b ?hy14b ?hS14b ?h14b
    case hi14b => exact (by simp only [List.getElem?_toArray, List.getElem?_cons_succ, List.getElem?_cons_zero]; rfl)
    case hs14b => kernel_rfl
    case hf14b => kernel_rfl
    case hr14b => kernel_rfl
    case hQ14b => exact fun _ _ _ h => h
    case hy14b =>
      refine Or.inl ⟨rfl, ?_⟩
      intro W hSw
      try dsimp only at hSw
      go_simp
      try with_reducible rfl
    case hS14b => assumption
    try simp only [Act.put, List.setIfInBounds_toArray, List.set_cons_zero, List.set_cons_succ]
    refine wpAnyH_take (i := 15) (oi := ?oi15b) (v := ?v15b) ?hi15b ?hs15b ?hf15b ?hr15b ?hQ15b ?hy15b ?hS15b ?h15b
    case hi15b => exact (by simp only [List.getElem?_toArray, List.getElem?_cons_succ, List.getElem?_cons_zero]; rfl)
    case hs15b => kernel_rfl
    case hf15b => kernel_rfl
    case hr15b => kernel_rfl
    case hQ15b => exact fun _ _ _ h => h
    case hy15b =>
      refine Or.inl ⟨rfl, ?_⟩
      intro W hSw
      try dsimp only at hSw
      go_simp
      try with_reducible rfl
    case hS15b => assumption
    try simp only [Act.put, List.setIfInBounds_toArray, List.set_cons_zero, List.set_cons_succ]
    refine wpAnyH_take (i := 16) (oi := ?oi16b) (v := ?v16b) ?hi16b ?hs16b ?hf16b ?hr16b ?hQ16b ?hy16b ?hS16b ?h16b
    case hi16b => exact (by simp only [List.getElem?_toArray, List.getElem?_cons_succ, List.getElem?_cons_zero]; rfl)
    case hs16b => kernel_rfl
    case hf16b => kernel_rfl
    case hr16b => kernel_rfl
    case hQ16b => exact fun _ _ _ h => h
    case hy16b =>
      refine Or.inl ⟨rfl, ?_⟩
      intro W hSw
      try dsimp only at hSw
      go_simp
      try with_reducible rfl
    case hS16b => assumption
    try simp only [Act.put, List.setIfInBounds_toArray, List.set_cons_zero, List.set_cons_succ]
    refine wpAnyH_ready (rs := [17]) (by kernel_rfl) (by simp) ?_
    refine AllReadyH.cons (o := _) rfl (fun K hK => ?_) AllReadyH.nil
    go_simp
    refine (put_any w5.heap.size (.slice none 0 0) [] n 8 _ (Bs.nil _ _) (by simp) (by omega)).mono ?_
    rintro e w6 ⟨v6, rfl, hown6, hb6⟩
    have hc6 := HD.out.trans hb6
    have c6 : (convert 31 9 v6).run Try.prog w6 = .ok (.string t0) w6 := by
      rw [HT.out]
      exact conv_bs (Bs.of_own (by rw [be_length]; simpa using hown6))
    clear hown6
    try go_wp2_with fail
    refine hK.out _ _ ⟨H3.out _ hc6, H0.out _ hc6, H5.out _ hc6⟩ (fun hHeld => ?_)
    clear hK K
    try simp only [Act.put, List.setIfInBounds_toArray, List.set_cons_zero, List.set_cons_succ]
    refine wpAnyH_ready (rs := [18]) (by kernel_rfl) (by simp) ?_
    refine AllReadyH.cons (o := _) rfl (fun K hK => ?_) AllReadyH.nil
    go_simp
    refine hK.out _ _ ⟨H3.out _ hc6, H0.out _ hc6, H5.out _ hc6⟩ (fun hHeld => ?_)
    clear hK K
    try simp only [Act.put, List.setIfInBounds_toArray, List.set_cons_zero, List.set_cons_succ]
    refine wpAnyH_take (i := 19) (oi := ?oi19b) (v := ?v19b) ?hi19b ?hs19b ?hf19b ?hr19b ?hQ19b ?hy19b ?hS19b ?h19b
    case hi19b => exact (by simp only [List.getElem?_toArray, List.getElem?_cons_succ, List.getElem?_cons_zero]; rfl)
    case hs19b => kernel_rfl
    case hf19b => kernel_rfl
    case hr19b => kernel_rfl
    case hQ19b => exact fun _ _ _ h => h
    case hy19b =>
      refine Or.inl ⟨rfl, ?_⟩
      intro W hSw
      try dsimp only at hSw
      go_simp
      try with_reducible rfl
    case hS19b => assumption
    try simp only [Act.put, List.setIfInBounds_toArray, List.set_cons_zero, List.set_cons_succ]
    refine wpAnyH_take (i := 20) (oi := ?oi20b) (v := ?v20b) ?hi20b ?hs20b ?hf20b ?hr20b ?hQ20b ?hy20b ?hS20b ?h20b
    case hi20b => exact (by simp only [List.getElem?_toArray, List.getElem?_cons_succ, List.getElem?_cons_zero]; rfl)
    case hs20b => kernel_rfl
    case hf20b => kernel_rfl
    case hr20b => kernel_rfl
    case hQ20b => exact fun _ _ _ h => h
    case hy20b =>
      refine Or.inl ⟨rfl, ?_⟩
      intro W hSw
      try dsimp only at hSw
      go_simp
      try with_reducible rfl
    case hS20b => assumption
    try simp only [Act.put, List.setIfInBounds_toArray, List.set_cons_zero, List.set_cons_succ]
    refine wpAnyH_take (i := 21) (oi := ?oi21b) (v := ?v21b) ?hi21b ?hs21b ?hf21b ?hr21b ?hQ21b ?hy21b ?hS21b ?h21b
    case hi21b => exact (by simp only [List.getElem?_toArray, List.getElem?_cons_succ, List.getElem?_cons_zero]; rfl)
    case hs21b => kernel_rfl
    case hf21b => kernel_rfl
    case hr21b => kernel_rfl
    case hQ21b => exact fun _ _ _ h => h
    case hy21b =>
      refine Or.inl ⟨rfl, ?_⟩
      intro W hSw
      try dsimp only at hSw
      go_simp
      try with_reducible rfl
    case hS21b => assumption
    try simp only [Act.put, List.setIfInBounds_toArray, List.set_cons_zero, List.set_cons_succ]
    refine wpAnyH_ready (rs := [22]) (by kernel_rfl) (by simp) ?_
    refine AllReadyH.cons (o := _) rfl (fun K hK => ?_) AllReadyH.nil
    go_simp
    refine (awake_any _).mono ?_
    rintro e w7 ⟨rfl, hb7⟩
    have hc7 := hc6.trans (hb7.mono hc6.size)
    try go_wp2_with fail
    refine hK.out _ _ ⟨H3.out _ hc7, H0.out _ hc7, H5.out _ hc7⟩ (fun hHeld => ?_)
    clear hK K
    try simp only [Act.put, List.setIfInBounds_toArray, List.set_cons_zero, List.set_cons_succ]
    refine wpAnyH_take (i := 23) (oi := ?oi23b) (v := ?v23b) ?hi23b ?hs23b ?hf23b ?hr23b ?hQ23b ?hy23b ?hS23b ?h23b
    case hi23b => exact (by simp only [List.getElem?_toArray, List.getElem?_cons_succ, List.getElem?_cons_zero]; rfl)
    case hs23b => kernel_rfl
    case hf23b => kernel_rfl
    case hr23b => kernel_rfl
    case hQ23b => exact fun _ _ _ h => h
    case hy23b =>
      refine Or.inl ⟨rfl, ?_⟩
      intro W hSw
      try dsimp only at hSw
      go_simp
      try with_reducible rfl
    case hS23b => assumption
    try simp only [Act.put, List.setIfInBounds_toArray, List.set_cons_zero, List.set_cons_succ]
    refine wpAnyH_take (i := 24) (oi := ?oi24b) (v := ?v24b) ?hi24b ?hs24b ?hf24b ?hr24b ?hQ24b ?hy24b ?hS24b ?h24b
    case hi24b => exact (by simp only [List.getElem?_toArray, List.getElem?_cons_succ, List.getElem?_cons_zero]; rfl)
    case hs24b => kernel_rfl
    case hf24b => kernel_rfl
    case hr24b => kernel_rfl
    case hQ24b => exact fun _ _ _ h => h
    case hy24b =>
      refine Or.inl ⟨rfl, ?_⟩
      intro W hSw
      try dsimp only at hSw
      go_simp
      try with_reducible rfl
    case hS24b => assumption
    try simp only [Act.put, List.setIfInBounds_toArray, List.set_cons_zero, List.set_cons_succ]
    refine wpAnyH_done (by kernel_rfl) ?_ _
    go_wp2
    go_ret
    exact ⟨rfl, hb25.trans (hc7.mono hb25.size)⟩
theorem own : ownKnob Try.prog.godebug = none := by kernel_rfl
theorem laidOut : laidOutB Try.prog = true := by kernel_rfl

/-- WHAT THE WALK IS TOLD OF A SLICE OF INTEGERS THAT CAME IN: it is nil; or it leads to a row of 'cap' cells, the numbers 'zs' (the first 'len' are its elements, the rest its spare room), each fitting its kind. -/
def IsRow (k : IntKind) (w : World) (a : Option Addr) (len cap : Nat) (zs : List Int) : Prop :=
  (a = none ∧ len = 0 ∧ cap = 0 ∧ zs = []) ∨
  ∃ x, a = some x ∧ len ≤ cap ∧ cap ≤ maxLen ∧ zs.length = cap ∧ (∀ i, i < zs.length → w.cell? (x.add i) = some (.int k (zs.getD i 0))) ∧ ∀ n ∈ zs, (Lit.int k n).wf = true

theorem walk (a0 : Option Addr) (len0 cap0 : Nat) (z0 : List Int) (a1 : Int) (a2 : Int) (w : World) (w0 : IsRow .u8 w a0 len0 cap0 z0) (w1 : (Lit.int .u64 a1).wf = true) (w2 : (Lit.int .u8 a2).wf = true) :
    Calls Try.prog 9 #[.slice a0 len0 cap0, .int .u64 a1, .int .u8 a2] w fun e w' => e = .returned (.bool true) ∧ Below w.heap.size w w' := by
  obtain ⟨l, _, hbs⟩ := row_bs rfl w0
  have b1 := bounds_u64 w1
  have b2 := bounds_u8 w2
  obtain ⟨n, rfl⟩ := Int.eq_ofNat_of_zero_le b1.1
  obtain ⟨mm, rfl⟩ := Int.eq_ofNat_of_zero_le b2.1
  by_cases h : l.length ≤ 300
  · exact walk_small _ l n mm w hbs h (by omega) (by omega)
  · exact walk_big _ l n mm w hbs (by omega)

set_option maxRecDepth 100000 in
theorem lifted (os : Os) (started : os.Started) (H : Type) (enc : TypeId × Value → H) :
    ReturnsInHanded {} Try.checked os 9 .any (Rows.fieldTakesSpec.pre6 enc Try.prog Try.f9 Rows.fieldTakesRow.domain false) (Rows.fieldTakesSpec.post enc Try.prog Try.f9 false true false false) := by
  refine returnsInHanded_of_change (C := Try.checked) own started (by kernel_rfl) Try.func9
    (ChangeSpec.witness6 (enc := enc) (C := Try.checked) false ⟨#[], #[.slice none 0 0, .int .u64 0, .int .u8 0], []⟩ 8 (by kernel_rfl) (by kernel_rfl) (by kernel_rfl) (by kernel_rfl)) ?_
  intro W base args ds gs before hval0 hW hcnd _
  have hval : ∀ (j : Nat) t v, Try.f9.params[j]? = some t → args[j]? = some v → Value.okWide Try.prog W .any base t v := hval0
  have hW' := hW
  obtain ⟨p, q, hA0, hV, rfl, hfz, hnd⟩ := hW
  have hA : DataW.TrodAll enc Try.prog W 0 (fun _ => true) true Try.f9.params.toList args.toList ds p := hA0
  rw [Try.params9] at hA hval
  obtain ⟨v0, vs0, d0, ds0, p0, q0, hargs, rfl, rfl, h0, r0⟩ := trodAll_cons hA
  obtain ⟨v1, vs1, d1, ds1, p1, q1, rfl, rfl, rfl, h1, r1⟩ := trodAll_cons r0
  obtain ⟨v2, vs2, d2, ds2, p2, q2, rfl, rfl, rfl, h2, r2⟩ := trodAll_cons r1
  obtain ⟨rfl, rfl, rfl⟩ := trodAll_nil r2
  obtain rfl : args = #[v0, v1, v2] := by cases args; simp_all
  obtain ⟨rfl, rfl⟩ := trodVars_none hV
  obtain ⟨a0, len0, cap0, rfl⟩ := okWide_slice Try.underlying31 (hval 0 31 v0 rfl rfl)
  have k0 := h0
  have lt0 : ∀ x ∈ p0, x.block < W.heap.size := by obtain ⟨m, hm⟩ := k0; exact DataW.trod_lt m _ _ _ hm
  obtain ⟨z0, w0⟩ : ∃ zs, IsRow .u8 W a0 len0 cap0 zs := by
    obtain ⟨fuel, hf⟩ := h0
    rcases open_ints Try.underlying31 Try.underlying5 (by kernel_rfl) hf with ⟨hcs, _⟩ | ⟨x, l, c, zs, hcs, _, hl, hm, hz, _, hcell, hwz⟩
    · simp [Value.cells] at hcs
      obtain ⟨rfl, rfl, rfl⟩ := hcs
      exact ⟨[], .inl ⟨rfl, rfl, rfl, rfl⟩⟩
    · simp [Value.cells] at hcs
      obtain ⟨rfl, rfl, rfl⟩ := hcs
      exact ⟨zs, .inr ⟨_, rfl, hl, hm, by simpa using hz, hcell, hwz⟩⟩
  obtain ⟨a1, rfl, rfl, rfl, w1⟩ := open_int Try.underlying49 (hval 1 49 v1 rfl rfl) h1
  obtain ⟨a2, rfl, rfl, rfl, w2⟩ := open_int Try.underlying5 (hval 2 5 v2 rfl rfl) h2
  clear hA0 hval0
  refine (walk a0 len0 cap0 z0 a1 a2 W w0 w1 w2).mono fun e W' ⟨he, bel⟩ => ?_
  subst he
  exact ⟨_, rfl, _, _, _, [], _, [], hW', trodAll_mk1 (shut_bool Try.underlying4 _), (trodAll_cons_mk (Below.trod laidOut (by kernel_rfl) (of_decide_eq_true (by kernel_rfl)) k0 bel lt0) (trodAll_cons_mk (shut_int Try.underlying49 w1) (trodAll_cons_mk (shut_int Try.underlying5 w2) trodAll_mk0))), rfl, bel.frame _, fun h => by cases h⟩

theorem over : Rows.fieldTakesRow.holds Try.pinned (OpenSpec.ofChange Rows.fieldTakesSpec) :=
  OpenClaim.holds_of_wide 9 Try.f9 rfl rfl rfl rfl rfl rfl rfl ⟨rfl, rfl, rfl, rfl, rfl⟩ rfl rfl rfl rfl rfl (by kernel_rfl) Try.func9 (by kernel_rfl)
    (of_decide_eq_true (by kernel_rfl)) (by unfold Func.isWrapper; first | (rw [if_pos (by decide +kernel)]; kernel_rfl) | (rw [if_neg (by decide +kernel)]; exact ⟨rfl, rfl⟩))
    (fun os started H enc _ => lifted os started H enc)

theorem proved : Rows.FieldTakesSaid := over
#print axioms proved
end Go.Proofs.Ytmpfakcjdkggdaa.fieldTakes
