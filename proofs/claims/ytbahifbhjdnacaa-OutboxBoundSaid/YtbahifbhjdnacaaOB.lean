/- Outbox: awake. -/
import Derived.Test.YtbahifbhjdnacaaOA
namespace Go.Proofs.Ytbahifbhjdnacaa
open Go.RowKit
set_option maxRecDepth 20000
set_option linter.unusedVariables false
set_option linter.unusedSimpArgs false

theorem pbs_one {w : World} {v : Value} {p : List UInt8} (h : Pb w v p) : Pbs (w.alloc (.cells #[v] 32)) (.slice (some ⟨w.heap.size, 0, none⟩) 1 1) [p] :=
  ⟨_, 1, rfl, by simp, fun _ => ⟨w.heap.size, 0, rfl, by simp, fun j hj => by
    have hb := (Below.refl w.heap.size w).alloc (Nat.le_refl _) (.cells #[v] 32)
    rcases j with _ | j
    · exact ⟨v, by rw [cell_of_row _ _ _ _ _ _ (heap_alloc_new w _)]; rfl, h.below hb⟩
    · simp at hj⟩⟩
/-- What a call may change of a flow that was made in this call is below nothing that was there. -/
theorem kp_below {B H : Nat} {w w1 w2 : World} (h : Below B w w1) (hB : B ≤ w.heap.size) (k : Kp (fun k => k = H) w1 w2) (hH : B ≤ H) : Below B w w2 :=
  h.trans (k.below (Nat.le_trans hB h.size) (fun k e => by rw [e]; exact hH))
set_option maxHeartbeats 4000000 in
theorem awake_any (w : World) : Calls Try.prog 18 #[] w fun r w' => r = .returned (.bool true) ∧ Below w.heap.size w w' := by
  have HN := Lib.hid (new_fw 10 1 w (by decide) (by decide))
  go_enter Try.func18, Try.ntmps18
  go_wp2_with fail
  refine HN.out.mono ?_
  rintro r w1 ⟨H, rfl, hH, hf1, hb1⟩
  have HB1 := Lib.hid hb1
  have HF1 : Hid (Fw w1 H 0 10 0 1) := hf1
  have HH := Lib.hid hH
  clear hb1 hf1 hH HN
  obtain ⟨w2, hw2⟩ : ∃ w2, w2 = w1.alloc (.cells #[.int .u8 1, .int .u8 2, .int .u8 3] 5) := ⟨_, rfl⟩
  obtain ⟨w3, hw3⟩ : ∃ w3, w3 = w2.alloc (.cells #[.slice (some ⟨w1.heap.size, 0, none⟩) 3 3] 32) := ⟨_, rfl⟩
  have hs2 : w2.heap.size = w1.heap.size + 1 := by rw [hw2]; simp
  have hb2 : Below w1.heap.size w1 w2 := by rw [hw2]; exact (Below.refl _ _).alloc (Nat.le_refl _) _
  have hb3 : Below w2.heap.size w2 w3 := by rw [hw3]; exact (Below.refl _ _).alloc (Nat.le_refl _) _
  have hp2 : Pb w2 (.slice (some ⟨w1.heap.size, 0, none⟩) 3 3) [1, 2, 3] := by rw [hw2]; exact pb_lit w1 _ _ rfl 3 rfl
  have hps : Pbs w3 (.slice (some ⟨w2.heap.size, 0, none⟩) 1 1) [[1, 2, 3]] := by rw [hw3]; exact pbs_one hp2
  rw [hs2] at hps
  have hb13 := hb2.trans (hb3.mono hb2.size)
  have HC := Lib.hid (send_any _ _ w3 (HF1.out.below hb13) hps (by simp) (by simp) (by decide))
  rw [show sendE 0 10 [[1, 2, 3]] = 0 by decide, show sendB 0 10 [[1, 2, 3]] = [0, 3, 1, 2, 3] by decide] at HC
  have HB3 := Lib.hid (HB1.out.trans (hb13.mono HB1.out.size))
  rw [hw2] at hw3
  have H3 := Lib.hid hw3
  clear hw2 hw3 hs2 hb2 hb3 hp2 hps hb13 HF1
  go_upto_region 4 with (fail)
  go_wp2_with fail
  rw [← H3.out]
  refine HC.out.mono ?_
  rintro r w4 ⟨A4, n4, c4, rfl, hp4, hf4, hk4⟩
  have HP4 := Lib.hid hp4
  have HF4 : Hid (Fw w4 H 5 10 0 1) := hf4
  have HB4 := Lib.hid (kp_below HB3.out (Nat.le_refl _) hk4 HH.out)
  have hn4 : n4 = 5 := by
    obtain ⟨_, _, e, _⟩ := hp4.pb
    injection e
  subst hn4
  clear hp4 hf4 hk4 HC H3 HB3
  obtain ⟨w5, hw5⟩ : ∃ w5, w5 = w4.alloc (.cells #[.int .u8 4, .int .u8 5, .int .u8 6, .int .u8 7] 5) := ⟨_, rfl⟩
  obtain ⟨w6, hw6⟩ : ∃ w6, w6 = w5.alloc (.cells #[.slice (some ⟨w4.heap.size, 0, none⟩) 4 4] 32) := ⟨_, rfl⟩
  have hs5 : w5.heap.size = w4.heap.size + 1 := by rw [hw5]; simp
  have hb5 : Below w4.heap.size w4 w5 := by rw [hw5]; exact (Below.refl _ _).alloc (Nat.le_refl _) _
  have hb6 : Below w5.heap.size w5 w6 := by rw [hw6]; exact (Below.refl _ _).alloc (Nat.le_refl _) _
  have hp5 : Pb w5 (.slice (some ⟨w4.heap.size, 0, none⟩) 4 4) [4, 5, 6, 7] := by rw [hw5]; exact pb_lit w4 _ _ rfl 4 rfl
  have hps : Pbs w6 (.slice (some ⟨w5.heap.size, 0, none⟩) 1 1) [[4, 5, 6, 7]] := by rw [hw6]; exact pbs_one hp5
  rw [hs5] at hps
  have hb46 := hb5.trans (hb6.mono hb5.size)
  have HC := Lib.hid (send_any _ _ w6 (HF4.out.below hb46) hps (by simp) (by simp) (by decide))
  rw [show sendE 5 10 [[4, 5, 6, 7]] = 10 by decide, show sendB 5 10 [[4, 5, 6, 7]] = [] by decide] at HC
  have HB6 := Lib.hid (HB4.out.trans (hb46.mono HB4.out.size))
  have HP6 := Lib.hid (HP4.out.below hb46)
  rw [hw5] at hw6
  have H6 := Lib.hid hw6
  clear hw5 hw6 hs5 hb5 hb6 hp5 hps hb46 HF4 HP4 HB4
  go_upto_region 5 with (fail)
  go_wp2_with fail
  rw [← H6.out]
  refine HC.out.mono ?_
  rintro r w7 ⟨A7, n7, c7, rfl, hp7, hf7, hk7⟩
  have HG7 : Hid (Fw w7 H 5 10 0 1) := by simpa [Hid] using hf7
  have HB7 := Lib.hid (kp_below HB6.out (Nat.le_refl _) hk7 HH.out)
  have HP7 := Lib.hid (HP6.out.kept hk7)
  clear hp7 hf7 hk7 HC H6 HP6 HB6
  have HGO := Lib.hid (gone_any 2 w7 HG7.out)
  rw [show goneQ 5 2 = 3 by decide] at HGO
  go_upto_region 6 with (fail)
  go_wp2_with fail
  refine HGO.out.mono ?_
  rintro r w8 ⟨rfl, hf8, hk8⟩
  have HF7 : Hid (Fw w8 H 3 10 0 1) := hf8
  have HB8 := Lib.hid (kp_below HB7.out (Nat.le_refl _) hk8 HH.out)
  have HP8 := Lib.hid (HP7.out.kept hk8)
  clear hf8 hk8 HGO HG7 HB7 HP7
  have HBS : Hid (Below w8.heap.size w8 w8) := Below.refl _ _
  go_upto_region 7 with (fail)
  have HDz : Hid (Below w8.heap.size w8 w8.drew) := HBS.out.drew
  refine wp_region_held_drew (S := fun _ => True) (by kernel_rfl) (trivial) (fun hHeld => ?_)
  obtain ⟨Wz0, hW0⟩ : ∃ W0, W0 = w8.drew := ⟨_, rfl⟩
  rw [← hW0] at HDz ⊢
  clear hW0
  refine wpAnyH_take (i := 0) (oi := ?oi0z) (v := ?v0z) ?hi0z ?hs0z ?hf0z ?hr0z ?hQ0z ?hy0z ?hS0z ?h0z
  case hi0z => exact (by simp only [List.getElem?_toArray, List.getElem?_cons_zero]; rfl)
  case hs0z => kernel_rfl
  case hf0z => kernel_rfl
  case hr0z => kernel_rfl
  case hQ0z => exact fun _ _ _ h => h
  case hy0z =>
    refine Or.inl ⟨rfl, ?_⟩
    intro W hSw
    go_simp
    try with_reducible rfl
  case hS0z => assumption
  try simp only [Act.put, List.setIfInBounds_toArray, List.set_cons_zero, List.set_cons_succ]
  refine wpAnyH_take (i := 1) (oi := ?oi1z) (v := ?v1z) ?hi1z ?hs1z ?hf1z ?hr1z ?hQ1z ?hy1z ?hS1z ?h1z
  case hi1z => exact (by simp only [List.getElem?_toArray, List.getElem?_cons_succ, List.getElem?_cons_zero]; rfl)
  case hs1z => kernel_rfl
  case hf1z => kernel_rfl
  case hr1z => kernel_rfl
  case hQ1z => exact fun _ _ _ h => h
  case hy1z =>
    refine Or.inl ⟨rfl, ?_⟩
    intro W hSw
    go_simp
    try with_reducible rfl
  case hS1z => assumption
  try simp only [Act.put, List.setIfInBounds_toArray, List.set_cons_zero, List.set_cons_succ]
  refine wpAnyH_take (i := 2) (oi := ?oi2z) (v := ?v2z) ?hi2z ?hs2z ?hf2z ?hr2z ?hQ2z ?hy2z ?hS2z ?h2z
  case hi2z => exact (by simp only [List.getElem?_toArray, List.getElem?_cons_succ, List.getElem?_cons_zero]; rfl)
  case hs2z => kernel_rfl
  case hf2z => kernel_rfl
  case hr2z => kernel_rfl
  case hQ2z => exact fun _ _ _ h => h
  case hy2z =>
    refine Or.inl ⟨rfl, ?_⟩
    intro W hSw
    go_simp
    try with_reducible rfl
  case hS2z => assumption
  try simp only [Act.put, List.setIfInBounds_toArray, List.set_cons_zero, List.set_cons_succ]
  refine wpAnyH_take (i := 4) (oi := ?oi4z) (v := ?v4z) ?hi4z ?hs4z ?hf4z ?hr4z ?hQ4z ?hy4z ?hS4z ?h4z
  case hi4z => exact (by simp only [List.getElem?_toArray, List.getElem?_cons_succ, List.getElem?_cons_zero]; rfl)
  case hs4z => kernel_rfl
  case hf4z => kernel_rfl
  case hr4z => kernel_rfl
  case hQ4z => exact fun _ _ _ h => h
  case hy4z =>
    refine Or.inl ⟨rfl, ?_⟩
    intro W hSw
    go_simp
    try with_reducible rfl
  case hS4z => assumption
  try simp only [Act.put, List.setIfInBounds_toArray, List.set_cons_zero, List.set_cons_succ]
  refine wpAnyH_take (i := 5) (oi := ?oi5z) (v := ?v5z) ?hi5z ?hs5z ?hf5z ?hr5z ?hQ5z ?hy5z ?hS5z ?h5z
  case hi5z => exact (by simp only [List.getElem?_toArray, List.getElem?_cons_succ, List.getElem?_cons_zero]; rfl)
  case hs5z => kernel_rfl
  case hf5z => kernel_rfl
  case hr5z => kernel_rfl
  case hQ5z => exact fun _ _ _ h => h
  case hy5z =>
    refine Or.inl ⟨rfl, ?_⟩
    intro W hSw
    go_simp
    try with_reducible rfl
  case hS5z => assumption
  try simp only [Act.put, List.setIfInBounds_toArray, List.set_cons_zero, List.set_cons_succ]
  refine wpAnyH_take (i := 6) (oi := ?oi6z) (v := ?v6z) ?hi6z ?hs6z ?hf6z ?hr6z ?hQ6z ?hy6z ?hS6z ?h6z
  case hi6z => exact (by simp only [List.getElem?_toArray, List.getElem?_cons_succ, List.getElem?_cons_zero]; rfl)
  case hs6z => kernel_rfl
  case hf6z => kernel_rfl
  case hr6z => kernel_rfl
  case hQ6z => exact fun _ _ _ h => h
  case hy6z =>
    refine Or.inl ⟨rfl, ?_⟩
    intro W hSw
    go_simp
    try with_reducible rfl
  case hS6z => assumption
  try simp only [Act.put, List.setIfInBounds_toArray, List.set_cons_zero, List.set_cons_succ]
  refine wpAnyH_ready (rs := [3]) (by kernel_rfl) (by simp) ?_
  refine AllReadyH.cons (o := _) rfl (fun K hK => ?_) AllReadyH.nil
  have hAV1 := ask_any Wz0 (HF7.out.below HDz.out)
  go_simp
  refine hAV1.mono ?_
  rintro r V1 ⟨rfl, hfV1, hkV1⟩
  have HF8 : Hid (Fw V1 H 3 10 1 1) := hfV1
  have HK8 := Lib.hid (Kp.trans (Kp.of_below (fun k => k = H) HDz.out) hkV1 (fun i _ e => e))
  clear hAV1 hfV1 hkV1
  refine hK.out _ _ (trivial) (fun hHeld => ?_)
  clear hK K
  try simp only [Act.put, List.setIfInBounds_toArray, List.set_cons_zero, List.set_cons_succ]
  refine wpAnyH_ready (rs := [7]) (by kernel_rfl) (by simp) ?_
  refine AllReadyH.cons (o := _) rfl (fun K hK => ?_) AllReadyH.nil
  have hAV2 := ask_any V1 HF8.out
  go_simp
  refine hAV2.mono ?_
  rintro r V2 ⟨rfl, hfV2, hkV2⟩
  have HF9 : Hid (Fw V2 H 3 10 1 1) := hfV2
  have HK9 := Lib.hid (Kp.trans HK8.out hkV2 (fun i _ e => e))
  clear hAV2 hfV2 hkV2
  refine hK.out _ _ (trivial) (fun hHeld => ?_)
  clear hK K
  try simp only [Act.put, List.setIfInBounds_toArray, List.set_cons_zero, List.set_cons_succ]
  refine wpAnyH_take (i := 8) (oi := ?oi8z) (v := ?v8z) ?hi8z ?hs8z ?hf8z ?hr8z ?hQ8z ?hy8z ?hS8z ?h8z
  case hi8z => exact (by simp only [List.getElem?_toArray, List.getElem?_cons_succ, List.getElem?_cons_zero]; rfl)
  case hs8z => kernel_rfl
  case hf8z => kernel_rfl
  case hr8z => kernel_rfl
  case hQ8z => exact fun _ _ _ h => h
  case hy8z =>
    refine Or.inl ⟨rfl, ?_⟩
    intro W hSw
    go_simp
    try with_reducible rfl
  case hS8z => assumption
  try simp only [Act.put, List.setIfInBounds_toArray, List.set_cons_zero, List.set_cons_succ]
  refine wpAnyH_take (i := 9) (oi := ?oi9z) (v := ?v9z) ?hi9z ?hs9z ?hf9z ?hr9z ?hQ9z ?hy9z ?hS9z ?h9z
  case hi9z => exact (by simp only [List.getElem?_toArray, List.getElem?_cons_succ, List.getElem?_cons_zero]; rfl)
  case hs9z => kernel_rfl
  case hf9z => kernel_rfl
  case hr9z => kernel_rfl
  case hQ9z => exact fun _ _ _ h => h
  case hy9z =>
    refine Or.inl ⟨rfl, ?_⟩
    intro W hSw
    go_simp
    try with_reducible rfl
  case hS9z => assumption
  try simp only [Act.put, List.setIfInBounds_toArray, List.set_cons_zero, List.set_cons_succ]
  refine wpAnyH_done (by kernel_rfl) ?_ _
  have HB9 := Lib.hid (kp_below HB8.out (Nat.le_refl _) HK9.out HH.out)
  have HP9 := Lib.hid (HP8.out.kept HK9.out)
  clear HP8 HB8
  have HTK := Lib.hid (tick_any V2 HF9.out)
  go_wp2_with fail
  refine HTK.out.mono ?_
  rintro r w10 ⟨rfl, hf10, hk10⟩
  have HB10 := Lib.hid (kp_below HB9.out (Nat.le_refl _) hk10 HH.out)
  have HP10 := Lib.hid (HP9.out.kept hk10)
  have hb11 := (Below.refl w10.heap.size w10).alloc (Nat.le_refl _) (.cells #[.int .u8 0, .int .u8 3, .int .u8 1, .int .u8 2, .int .u8 3] 5)
  have k1 : (convert 32 9 (.slice A4 5 c4)).run Try.prog w10 = .ok (.string ⟨#[0, 3, 1, 2, 3]⟩) w10 := conv_pb HP10.out.pb
  have k2 : (convert 32 9 (.slice (some ⟨w10.heap.size, 0, none⟩) 5 5)).run Try.prog (w10.alloc (.cells #[.int .u8 0, .int .u8 3, .int .u8 1, .int .u8 2, .int .u8 3] 5)) = .ok (.string ⟨#[0, 3, 1, 2, 3]⟩) (w10.alloc (.cells #[.int .u8 0, .int .u8 3, .int .u8 1, .int .u8 2, .int .u8 3] 5)) := conv_pb (pb_lit w10 [0, 3, 1, 2, 3] _ rfl 5 rfl)
  have HLA := Lib.hid (ask_any (w10.alloc (.cells #[.int .u8 0, .int .u8 3, .int .u8 1, .int .u8 2, .int .u8 3] 5)) (hf10.below hb11))
  have HB11 := Lib.hid (HB10.out.alloc HB10.out.size (.cells #[.int .u8 0, .int .u8 3, .int .u8 1, .int .u8 2, .int .u8 3] 5))
  clear hf10 hk10 hb11 HTK HB9 HP9
  go_wp2_with fail
  refine HLA.out.mono ?_
  rintro r w12 ⟨rfl, hf12, hk12⟩
  have HB12 := Lib.hid (kp_below HB11.out (Nat.le_refl _) hk12 HH.out)
  clear hf12 hk12 HLA
  go_wp2_with fail
  go_ret
  exact ⟨rfl, HB12.out⟩
end Go.Proofs.Ytbahifbhjdnacaa
