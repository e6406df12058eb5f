/- Pass: PassTickets' and PassTokens' walks. -/
import Derived.Test.YtaefgieodehceaaDoorR3
namespace Go.Proofs.YtaefgieodehceaaDoor
open Go.RowKit Go.ChangeShapes
set_option maxRecDepth 20000

set_option maxHeartbeats 4000000 in
theorem ptickets_walk (A : Option Addr) (c : Nat) (key : List UInt8) (s : ByteArray) (w : World) (hs : Sh w) (hk : Bs w w.heap.size (.slice A key.length c) key) (hkl : key.length ≤ 9223372036854775807) (hsz : s.size ≤ 9223372036854775807) :
    Calls Tryd.prog 4 #[.slice A key.length c, .string s] w fun r w' => r = .returned (.bool true) ∧ Below w.heap.size w w' := by
  obtain ⟨k, hkn⟩ : ∃ k, k = key.length := ⟨_, rfl⟩
  rw [← hkn] at hk hkl ⊢
  by_cases hbig : 200 < k
  · have t : decide ((k : Int) > 200) = true := by rw [decide_eq_true_iff]; omega
    clear hs hk hkn
    go_enter Tryd.func4, Tryd.ntmps4
    go_wp2
    go_ret
    exact ⟨rfl, Below.refl _ _⟩
  have t : decide ((k : Int) > 200) = false := by rw [decide_eq_false_iff_not]; omega
  by_cases hlong : 300 < s.size
  · have t2 : decide ((s.size : Int) > 300) = true := by rw [decide_eq_true_iff]; omega
    clear hs hk hkn
    go_enter Tryd.func4, Tryd.ntmps4
    go_wp2
    go_ret
    exact ⟨rfl, Below.refl _ _⟩
  have t2 : decide ((s.size : Int) > 300) = false := by rw [decide_eq_false_iff_not]; omega
  have HMK := Lib.hid (make_o (.slice A k c) key w hk hs (by omega))
  obtain ⟨⟨er, p, e, n⟩, hr⟩ : ∃ r, r = openT (some (Sha.blockP key)) s.data.toList := ⟨_, rfl⟩
  have HOP : Hid (∀ kv W, KeyAt W kv (some (Sha.blockP key)) → Sh W → Calls Tryd.prog 18 #[kv, .string s] W fun x w' => x = .returned (.tuple #[tickV p e n, .int .i64 (er : Int)]) ∧ Below W.heap.size W w') := fun kv W hK hS => by
    have := opent_any _ kv s W hK hS
    rw [← hr] at this
    exact this
  have hkl2 : key.length ≤ 900000 := by omega
  have HRO : Hid (∀ W, Below w.heap.size w W → Calls Tryd.prog 19 #[.slice A k c, .string s] W fun x w' => x = .returned (.tuple #[tickV p e n, .int .i64 (er : Int)]) ∧ Below W.heap.size W w') := fun W hW => by
    have := ropent_any (.slice A k c) key s W (bs_up (hk.below hW (Nat.le_refl _)) hW.size) hkl2
    rw [← hr] at this
    exact this
  have ter : ((er : Int) == (er : Int)) = true := beq_self_eq_true _
  have HS := Lib.hid hs
  clear hs hk hkn hr hkl2
  go_enter Tryd.func4, Tryd.ntmps4
  go_wp2_with fail
  refine HMK.out.mono ?_
  rintro x w1 ⟨kv, rfl, hK, hb1⟩
  have HK := Lib.hid hK
  have HB1 := Lib.hid hb1
  clear hK hb1
  go_wp2_with fail
  refine (HOP.out kv w1 HK.out (HS.out.below HB1.out)).mono ?_
  rintro x w2 ⟨rfl, hb2⟩
  obtain ⟨w3, hw3⟩ : ∃ w3, w3 = w2.alloc (.cells #[.int .u32 (p : Int), .int .i64 e, .int .u64 (n : Int)] 35) := ⟨_, rfl⟩
  have HB3 : Hid (Below w.heap.size w w3) := by rw [hw3]; exact (HB1.out.trans (hb2.mono HB1.out.size)).alloc (HB1.out.trans (hb2.mono HB1.out.size)).size _
  have HP3 : Hid (w3.heap[w2.heap.size]? = some (.cells #[.int .u32 (p : Int), .int .i64 e, .int .u64 (n : Int)] 35 (0, 0))) := by rw [hw3]; exact heap_alloc_new w2 _
  have H3 := Lib.hid hw3
  clear hw3 hb2
  go_upto_region 4 with (fail)
  rw [← H3.out]
  go_wp2_with fail
  refine (HRO.out w3 HB3.out).mono ?_
  rintro x w4 ⟨rfl, hb4⟩
  obtain ⟨w5, hw5⟩ : ∃ w5, w5 = w4.alloc (.cells #[.int .u32 (p : Int), .int .i64 e, .int .u64 (n : Int)] 26) := ⟨_, rfl⟩
  have hb45 : Below w4.heap.size w4 w5 := by rw [hw5]; exact (Below.refl _ _).alloc (Nat.le_refl _) _
  have HB5 : Hid (Below w.heap.size w w5) := HB3.out.trans ((hb4.trans (hb45.mono hb4.size)).mono HB3.out.size)
  have HP5 : Hid (w5.heap[w4.heap.size]? = some (.cells #[.int .u32 (p : Int), .int .i64 e, .int .u64 (n : Int)] 26 (0, 0))) := by rw [hw5]; exact heap_alloc_new w4 _
  have HQ5 : Hid (w5.heap[w2.heap.size]? = some (.cells #[.int .u32 (p : Int), .int .i64 e, .int .u64 (n : Int)] 35 (0, 0))) := (((hb4.trans (hb45.mono hb4.size)).block w2.heap.size (lt_of_block HP3.out)).trans HP3.out)
  have H5 := Lib.hid hw5
  clear hw5 hb45 hb4
  go_upto_region 5 with (fail)
  rw [← H5.out]
  have HCELL : Hid (∀ W, Below w5.heap.size w5 W → W.cell? ⟨w2.heap.size, 0, none⟩ = some (.int .u32 (p : Int)) ∧ W.cell? ⟨w2.heap.size, 1, none⟩ = some (.int .i64 e) ∧ W.cell? ⟨w2.heap.size, 2, none⟩ = some (.int .u64 (n : Int)) ∧ W.cell? ⟨w4.heap.size, 0, none⟩ = some (.int .u32 (p : Int)) ∧ W.cell? ⟨w4.heap.size, 1, none⟩ = some (.int .i64 e) ∧ W.cell? ⟨w4.heap.size, 2, none⟩ = some (.int .u64 (n : Int))) := fun W hW => by
    have e1 := (hW.block w2.heap.size (lt_of_block HQ5.out)).trans HQ5.out
    have e2 := (hW.block w4.heap.size (lt_of_block HP5.out)).trans HP5.out
    exact ⟨cell_of_row W _ 0 _ _ _ e1, cell_of_row W _ 1 _ _ _ e1, cell_of_row W _ 2 _ _ _ e1, cell_of_row W _ 0 _ _ _ e2, cell_of_row W _ 1 _ _ _ e2, cell_of_row W _ 2 _ _ _ e2⟩
  have HD : Hid (Below w5.heap.size w5 w5.drew) := (Below.refl _ _).drew
  have HSW : Hid (∀ W, Below w5.heap.size w5 W → Sh W ∧ Below w.heap.size w W) := fun W hW => ⟨(HS.out.below HB5.out).below hW, HB5.out.trans (hW.mono HB5.out.size)⟩
  go_region_held3 (fun W => W.cell? ⟨w2.heap.size, 0, none⟩ = some (.int .u32 (p : Int)) ∧ W.cell? ⟨w2.heap.size, 1, none⟩ = some (.int .i64 e) ∧ W.cell? ⟨w2.heap.size, 2, none⟩ = some (.int .u64 (n : Int)) ∧ W.cell? ⟨w4.heap.size, 0, none⟩ = some (.int .u32 (p : Int)) ∧ W.cell? ⟨w4.heap.size, 1, none⟩ = some (.int .i64 e) ∧ W.cell? ⟨w4.heap.size, 2, none⟩ = some (.int .u64 (n : Int)))
    (first | exact HCELL.out _ hc2 | exact HCELL.out _ hc1 | exact HCELL.out _ HD.out | go_keep)
    (first
      | (go_at_call 11; refine (ticket_any p e n w5.drew).mono ?_; rintro x wA ⟨rfl, hbA⟩; have hc1 := HD.out.trans hbA)
      | (go_at_call 17; refine (pawake wA (HSW.out wA hc1).1).mono ?_; rintro x wG ⟨rfl, hbG⟩; have hc2 := hc1.trans (hbG.mono hc1.size))
      | fail)
  go_wp2
  go_ret
  exact ⟨rfl, (HSW.out _ hc2).2⟩

set_option maxHeartbeats 4000000 in
theorem ptokens_walk (A : Option Addr) (c : Nat) (key : List UInt8) (s : ByteArray) (w : World) (hs : Sh w) (hk : Bs w w.heap.size (.slice A key.length c) key) (hkl : key.length ≤ 9223372036854775807) (hsz : s.size ≤ 9223372036854775807) :
    Calls Tryd.prog 5 #[.slice A key.length c, .string s] w fun r w' => r = .returned (.bool true) ∧ Below w.heap.size w w' := by
  obtain ⟨k, hkn⟩ : ∃ k, k = key.length := ⟨_, rfl⟩
  rw [← hkn] at hk hkl ⊢
  by_cases hbig : 200 < k
  · have t : decide ((k : Int) > 200) = true := by rw [decide_eq_true_iff]; omega
    clear hs hk hkn
    go_enter Tryd.func5, Tryd.ntmps5
    go_wp2
    go_ret
    exact ⟨rfl, Below.refl _ _⟩
  have t : decide ((k : Int) > 200) = false := by rw [decide_eq_false_iff_not]; omega
  by_cases hlong : 300 < s.size
  · have t2 : decide ((s.size : Int) > 300) = true := by rw [decide_eq_true_iff]; omega
    clear hs hk hkn
    go_enter Tryd.func5, Tryd.ntmps5
    go_wp2
    go_ret
    exact ⟨rfl, Below.refl _ _⟩
  have t2 : decide ((s.size : Int) > 300) = false := by rw [decide_eq_false_iff_not]; omega
  have HMK := Lib.hid (make_o (.slice A k c) key w hk hs (by omega))
  obtain ⟨⟨er, p, m, i, q, e, n⟩, hr⟩ : ∃ r, r = openK (some (Sha.blockP key)) s.data.toList := ⟨_, rfl⟩
  have HOP : Hid (∀ kv W, KeyAt W kv (some (Sha.blockP key)) → Sh W → Calls Tryd.prog 20 #[kv, .string s] W fun x w' => x = .returned (.tuple #[tokV p m i q e n, .int .i64 (er : Int)]) ∧ Below W.heap.size W w') := fun kv W hK hS => by
    have := openk_any _ kv s W hK hS
    rw [← hr] at this
    exact this
  have hkl2 : key.length ≤ 900000 := by omega
  have HRO : Hid (∀ W, Below w.heap.size w W → Calls Tryd.prog 21 #[.slice A k c, .string s] W fun x w' => x = .returned (.tuple #[tokV p m i q e n, .int .i64 (er : Int)]) ∧ Below W.heap.size W w') := fun W hW => by
    have := ropenk_any (.slice A k c) key s W (bs_up (hk.below hW (Nat.le_refl _)) hW.size) hkl2
    rw [← hr] at this
    exact this
  have ter : ((er : Int) == (er : Int)) = true := beq_self_eq_true _
  have HZE : s.size = 0 → er = 7 := fun h0 => by
    unfold openK at hr
    rw [if_neg (by simp; omega)] at hr
    injection hr
  have tz : (((s.size : Int) != 0) = true ∧ ((s.size : Int) == 0) = false) ∨ ((s.size : Int) = 0 ∧ er = 7) := by
    by_cases h0 : s.size = 0
    · exact .inr ⟨by omega, HZE h0⟩
    · exact .inl ⟨by simp [h0], by simp [h0]⟩
  clear HZE
  have HS := Lib.hid hs
  clear hs hk hkn hr hkl2
  go_enter Tryd.func5, Tryd.ntmps5
  go_wp2_with fail
  refine HMK.out.mono ?_
  rintro x w1 ⟨kv, rfl, hK, hb1⟩
  have HK := Lib.hid hK
  have HB1 := Lib.hid hb1
  clear hK hb1
  go_wp2_with fail
  refine (HOP.out kv w1 HK.out (HS.out.below HB1.out)).mono ?_
  rintro x w2 ⟨rfl, hb2⟩
  obtain ⟨w3, hw3⟩ : ∃ w3, w3 = w2.alloc (.cells #[.int .u32 (p : Int), .int .u32 (m : Int), .int .u16 (i : Int), .int .u8 (q : Int), .int .i64 e, .int .u64 (n : Int)] 40) := ⟨_, rfl⟩
  have HB3 : Hid (Below w.heap.size w w3) := by rw [hw3]; exact (HB1.out.trans (hb2.mono HB1.out.size)).alloc (HB1.out.trans (hb2.mono HB1.out.size)).size _
  have HP3 : Hid (w3.heap[w2.heap.size]? = some (.cells #[.int .u32 (p : Int), .int .u32 (m : Int), .int .u16 (i : Int), .int .u8 (q : Int), .int .i64 e, .int .u64 (n : Int)] 40 (0, 0))) := by rw [hw3]; exact heap_alloc_new w2 _
  have H3 := Lib.hid hw3
  clear hw3 hb2
  go_upto_region 4 with (fail)
  rw [← H3.out]
  go_wp2_with fail
  refine (HRO.out w3 HB3.out).mono ?_
  rintro x w4 ⟨rfl, hb4⟩
  obtain ⟨w5, hw5⟩ : ∃ w5, w5 = w4.alloc (.cells #[.int .u32 (p : Int), .int .u32 (m : Int), .int .u16 (i : Int), .int .u8 (q : Int), .int .i64 e, .int .u64 (n : Int)] 29) := ⟨_, rfl⟩
  have hb45 : Below w4.heap.size w4 w5 := by rw [hw5]; exact (Below.refl _ _).alloc (Nat.le_refl _) _
  have HB5 : Hid (Below w.heap.size w w5) := HB3.out.trans ((hb4.trans (hb45.mono hb4.size)).mono HB3.out.size)
  have HP5 : Hid (w5.heap[w4.heap.size]? = some (.cells #[.int .u32 (p : Int), .int .u32 (m : Int), .int .u16 (i : Int), .int .u8 (q : Int), .int .i64 e, .int .u64 (n : Int)] 29 (0, 0))) := by rw [hw5]; exact heap_alloc_new w4 _
  have HQ5 : Hid (w5.heap[w2.heap.size]? = some (.cells #[.int .u32 (p : Int), .int .u32 (m : Int), .int .u16 (i : Int), .int .u8 (q : Int), .int .i64 e, .int .u64 (n : Int)] 40 (0, 0))) := (((hb4.trans (hb45.mono hb4.size)).block w2.heap.size (lt_of_block HP3.out)).trans HP3.out)
  have H5 := Lib.hid hw5
  clear hw5 hb45 hb4
  go_upto_region 5 with (fail)
  rw [← H5.out]
  have HCELL : Hid (∀ W, Below w5.heap.size w5 W → W.cell? ⟨w2.heap.size, 0, none⟩ = some (.int .u32 (p : Int)) ∧ W.cell? ⟨w2.heap.size, 1, none⟩ = some (.int .u32 (m : Int)) ∧ W.cell? ⟨w2.heap.size, 2, none⟩ = some (.int .u16 (i : Int)) ∧ W.cell? ⟨w2.heap.size, 3, none⟩ = some (.int .u8 (q : Int)) ∧ W.cell? ⟨w2.heap.size, 4, none⟩ = some (.int .i64 e) ∧ W.cell? ⟨w2.heap.size, 5, none⟩ = some (.int .u64 (n : Int)) ∧ W.cell? ⟨w4.heap.size, 0, none⟩ = some (.int .u32 (p : Int)) ∧ W.cell? ⟨w4.heap.size, 1, none⟩ = some (.int .u32 (m : Int)) ∧ W.cell? ⟨w4.heap.size, 2, none⟩ = some (.int .u16 (i : Int)) ∧ W.cell? ⟨w4.heap.size, 3, none⟩ = some (.int .u8 (q : Int)) ∧ W.cell? ⟨w4.heap.size, 4, none⟩ = some (.int .i64 e) ∧ W.cell? ⟨w4.heap.size, 5, none⟩ = some (.int .u64 (n : Int))) := fun W hW => by
    have e1 := (hW.block w2.heap.size (lt_of_block HQ5.out)).trans HQ5.out
    have e2 := (hW.block w4.heap.size (lt_of_block HP5.out)).trans HP5.out
    exact ⟨cell_of_row W _ 0 _ _ _ e1, cell_of_row W _ 1 _ _ _ e1, cell_of_row W _ 2 _ _ _ e1, cell_of_row W _ 3 _ _ _ e1, cell_of_row W _ 4 _ _ _ e1, cell_of_row W _ 5 _ _ _ e1, cell_of_row W _ 0 _ _ _ e2, cell_of_row W _ 1 _ _ _ e2, cell_of_row W _ 2 _ _ _ e2, cell_of_row W _ 3 _ _ _ e2, cell_of_row W _ 4 _ _ _ e2, cell_of_row W _ 5 _ _ _ e2⟩
  have HD : Hid (Below w5.heap.size w5 w5.drew) := (Below.refl _ _).drew
  have HSW : Hid (∀ W, Below w5.heap.size w5 W → Sh W ∧ Below w.heap.size w W) := fun W hW => ⟨(HS.out.below HB5.out).below hW, HB5.out.trans (hW.mono HB5.out.size)⟩
  rcases tz with ⟨tz, tz2⟩ | ⟨tz, h7⟩
  · have HS0 : Hid ((fun W : World => W.cell? ⟨w2.heap.size, 0, none⟩ = some (.int .u32 (p : Int)) ∧ W.cell? ⟨w2.heap.size, 1, none⟩ = some (.int .u32 (m : Int)) ∧ W.cell? ⟨w2.heap.size, 2, none⟩ = some (.int .u16 (i : Int)) ∧ W.cell? ⟨w2.heap.size, 3, none⟩ = some (.int .u8 (q : Int)) ∧ W.cell? ⟨w2.heap.size, 4, none⟩ = some (.int .i64 e) ∧ W.cell? ⟨w2.heap.size, 5, none⟩ = some (.int .u64 (n : Int)) ∧ W.cell? ⟨w4.heap.size, 0, none⟩ = some (.int .u32 (p : Int)) ∧ W.cell? ⟨w4.heap.size, 1, none⟩ = some (.int .u32 (m : Int)) ∧ W.cell? ⟨w4.heap.size, 2, none⟩ = some (.int .u16 (i : Int)) ∧ W.cell? ⟨w4.heap.size, 3, none⟩ = some (.int .u8 (q : Int)) ∧ W.cell? ⟨w4.heap.size, 4, none⟩ = some (.int .i64 e) ∧ W.cell? ⟨w4.heap.size, 5, none⟩ = some (.int .u64 (n : Int))) w5.drew) := HCELL.out _ HD.out
    refine wp_region_held_drew (S := fun W : World => W.cell? ⟨w2.heap.size, 0, none⟩ = some (.int .u32 (p : Int)) ∧ W.cell? ⟨w2.heap.size, 1, none⟩ = some (.int .u32 (m : Int)) ∧ W.cell? ⟨w2.heap.size, 2, none⟩ = some (.int .u16 (i : Int)) ∧ W.cell? ⟨w2.heap.size, 3, none⟩ = some (.int .u8 (q : Int)) ∧ W.cell? ⟨w2.heap.size, 4, none⟩ = some (.int .i64 e) ∧ W.cell? ⟨w2.heap.size, 5, none⟩ = some (.int .u64 (n : Int)) ∧ W.cell? ⟨w4.heap.size, 0, none⟩ = some (.int .u32 (p : Int)) ∧ W.cell? ⟨w4.heap.size, 1, none⟩ = some (.int .u32 (m : Int)) ∧ W.cell? ⟨w4.heap.size, 2, none⟩ = some (.int .u16 (i : Int)) ∧ W.cell? ⟨w4.heap.size, 3, none⟩ = some (.int .u8 (q : Int)) ∧ W.cell? ⟨w4.heap.size, 4, none⟩ = some (.int .i64 e) ∧ W.cell? ⟨w4.heap.size, 5, none⟩ = some (.int .u64 (n : Int))) (by kernel_rfl) HS0.out (fun hHeld => ?_)
    obtain ⟨W0, hW0⟩ : ∃ W0, W0 = w5.drew := ⟨_, rfl⟩
    have HD0 : Hid (Below w5.heap.size w5 W0) := by rw [hW0]; exact HD.out
    rw [← hW0] at hHeld ⊢
    clear hW0
    refine wpAnyH_take (i := 0) (oi := ?oi0) (v := ?v0) ?hi0 ?hs0 ?hf0 ?hr0 ?hQ0 ?hy0 ?hS0 ?h0
    case hi0 => exact (by simp only [List.getElem?_toArray, List.getElem?_cons_zero]; rfl)
    case hs0 => kernel_rfl
    case hf0 => kernel_rfl
    case hr0 => kernel_rfl
    case hQ0 => exact fun _ _ _ h => h
    case hy0 =>
      refine Or.inl ⟨rfl, ?_⟩
      intro W hSw
      obtain ⟨y0, y1, y2, y3, y4, y5, y6, y7, y8, y9, y10, y11⟩ := hSw
      go_simp
      try with_reducible rfl
    case hS0 => assumption
    try simp only [Act.put, List.setIfInBounds_toArray, List.set_cons_zero, List.set_cons_succ]
    refine wpAnyH_take (i := 1) (oi := ?oi1) (v := ?v1) ?hi1 ?hs1 ?hf1 ?hr1 ?hQ1 ?hy1 ?hS1 ?h1
    case hi1 => exact (by simp only [List.getElem?_toArray, List.getElem?_cons_succ, List.getElem?_cons_zero]; rfl)
    case hs1 => kernel_rfl
    case hf1 => kernel_rfl
    case hr1 => kernel_rfl
    case hQ1 => exact fun _ _ _ h => h
    case hy1 =>
      refine Or.inl ⟨rfl, ?_⟩
      intro W hSw
      obtain ⟨y0, y1, y2, y3, y4, y5, y6, y7, y8, y9, y10, y11⟩ := hSw
      go_simp
      try with_reducible rfl
    case hS1 => assumption
    try simp only [Act.put, List.setIfInBounds_toArray, List.set_cons_zero, List.set_cons_succ]
    refine wpAnyH_ready (rs := [2]) (by kernel_rfl) (by simp) ?_
    refine AllReadyH.cons (o := _) rfl (fun K hK => ?_) AllReadyH.nil
    go_simp
    refine (token_any p m i q e n W0).mono ?_
    rintro x wA ⟨rfl, hbA⟩
    have hc1 := HD0.out.trans (hbA.mono HD0.out.size)
    refine hK.out _ _ (HCELL.out _ hc1) (fun hHeld => ?_)
    clear hK K
    try simp only [Act.put, List.setIfInBounds_toArray, List.set_cons_zero, List.set_cons_succ]
    refine wpAnyH_take (i := 3) (oi := ?oi3) (v := ?v3) ?hi3 ?hs3 ?hf3 ?hr3 ?hQ3 ?hy3 ?hS3 ?h3
    case hi3 => exact (by simp only [List.getElem?_toArray, List.getElem?_cons_succ, List.getElem?_cons_zero]; rfl)
    case hs3 => kernel_rfl
    case hf3 => kernel_rfl
    case hr3 => kernel_rfl
    case hQ3 => exact fun _ _ _ h => h
    case hy3 =>
      refine Or.inl ⟨rfl, ?_⟩
      intro W hSw
      obtain ⟨y0, y1, y2, y3, y4, y5, y6, y7, y8, y9, y10, y11⟩ := hSw
      go_simp
      try with_reducible rfl
    case hS3 => assumption
    try simp only [Act.put, List.setIfInBounds_toArray, List.set_cons_zero, List.set_cons_succ]
    refine wpAnyH_take (i := 4) (oi := ?oi4) (v := ?v4) ?hi4 ?hs4 ?hf4 ?hr4 ?hQ4 ?hy4 ?hS4 ?h4
    case hi4 => exact (by simp only [List.getElem?_toArray, List.getElem?_cons_succ, List.getElem?_cons_zero]; rfl)
    case hs4 => kernel_rfl
    case hf4 => kernel_rfl
    case hr4 => kernel_rfl
    case hQ4 => exact fun _ _ _ h => h
    case hy4 =>
      refine Or.inl ⟨rfl, ?_⟩
      intro W hSw
      obtain ⟨y0, y1, y2, y3, y4, y5, y6, y7, y8, y9, y10, y11⟩ := hSw
      go_simp
      try with_reducible rfl
    case hS4 => assumption
    try simp only [Act.put, List.setIfInBounds_toArray, List.set_cons_zero, List.set_cons_succ]
    refine wpAnyH_take (i := 5) (oi := ?oi5) (v := ?v5) ?hi5 ?hs5 ?hf5 ?hr5 ?hQ5 ?hy5 ?hS5 ?h5
    case hi5 => exact (by simp only [List.getElem?_toArray, List.getElem?_cons_succ, List.getElem?_cons_zero]; rfl)
    case hs5 => kernel_rfl
    case hf5 => kernel_rfl
    case hr5 => kernel_rfl
    case hQ5 => exact fun _ _ _ h => h
    case hy5 =>
      refine Or.inl ⟨rfl, ?_⟩
      intro W hSw
      obtain ⟨y0, y1, y2, y3, y4, y5, y6, y7, y8, y9, y10, y11⟩ := hSw
      go_simp
      try with_reducible rfl
    case hS5 => assumption
    try simp only [Act.put, List.setIfInBounds_toArray, List.set_cons_zero, List.set_cons_succ]
    refine wpAnyH_take (i := 6) (oi := ?oi6) (v := ?v6) ?hi6 ?hs6 ?hf6 ?hr6 ?hQ6 ?hy6 ?hS6 ?h6
    case hi6 => exact (by simp only [List.getElem?_toArray, List.getElem?_cons_succ, List.getElem?_cons_zero]; rfl)
    case hs6 => kernel_rfl
    case hf6 => kernel_rfl
    case hr6 => kernel_rfl
    case hQ6 => exact fun _ _ _ h => h
    case hy6 =>
      refine Or.inl ⟨rfl, ?_⟩
      intro W hSw
      obtain ⟨y0, y1, y2, y3, y4, y5, y6, y7, y8, y9, y10, y11⟩ := hSw
      go_simp
      try with_reducible rfl
    case hS6 => assumption
    try simp only [Act.put, List.setIfInBounds_toArray, List.set_cons_zero, List.set_cons_succ]
    refine wpAnyH_take (i := 7) (oi := ?oi7) (v := ?v7) ?hi7 ?hs7 ?hf7 ?hr7 ?hQ7 ?hy7 ?hS7 ?h7
    case hi7 => exact (by simp only [List.getElem?_toArray, List.getElem?_cons_succ, List.getElem?_cons_zero]; rfl)
    case hs7 => kernel_rfl
    case hf7 => kernel_rfl
    case hr7 => kernel_rfl
    case hQ7 => exact fun _ _ _ h => h
    case hy7 =>
      refine Or.inl ⟨rfl, ?_⟩
      intro W hSw
      obtain ⟨y0, y1, y2, y3, y4, y5, y6, y7, y8, y9, y10, y11⟩ := hSw
      go_simp
      try with_reducible rfl
    case hS7 => assumption
    try simp only [Act.put, List.setIfInBounds_toArray, List.set_cons_zero, List.set_cons_succ]
    refine wpAnyH_take (i := 8) (oi := ?oi8) (v := ?v8) ?hi8 ?hs8 ?hf8 ?hr8 ?hQ8 ?hy8 ?hS8 ?h8
    case hi8 => exact (by simp only [List.getElem?_toArray, List.getElem?_cons_succ, List.getElem?_cons_zero]; rfl)
    case hs8 => kernel_rfl
    case hf8 => kernel_rfl
    case hr8 => kernel_rfl
    case hQ8 => exact fun _ _ _ h => h
    case hy8 =>
      refine Or.inl ⟨rfl, ?_⟩
      intro W hSw
      obtain ⟨y0, y1, y2, y3, y4, y5, y6, y7, y8, y9, y10, y11⟩ := hSw
      go_simp
      try with_reducible rfl
    case hS8 => assumption
    try simp only [Act.put, List.setIfInBounds_toArray, List.set_cons_zero, List.set_cons_succ]
    refine wpAnyH_take (i := 9) (oi := ?oi9) (v := ?v9) ?hi9 ?hs9 ?hf9 ?hr9 ?hQ9 ?hy9 ?hS9 ?h9
    case hi9 => exact (by simp only [List.getElem?_toArray, List.getElem?_cons_succ, List.getElem?_cons_zero]; rfl)
    case hs9 => kernel_rfl
    case hf9 => kernel_rfl
    case hr9 => kernel_rfl
    case hQ9 => exact fun _ _ _ h => h
    case hy9 =>
      refine Or.inl ⟨rfl, ?_⟩
      intro W hSw
      obtain ⟨y0, y1, y2, y3, y4, y5, y6, y7, y8, y9, y10, y11⟩ := hSw
      go_simp
      try with_reducible rfl
    case hS9 => assumption
    try simp only [Act.put, List.setIfInBounds_toArray, List.set_cons_zero, List.set_cons_succ]
    refine wpAnyH_take (i := 10) (oi := ?oi10) (v := ?v10) ?hi10 ?hs10 ?hf10 ?hr10 ?hQ10 ?hy10 ?hS10 ?h10
    case hi10 => exact (by simp only [List.getElem?_toArray, List.getElem?_cons_succ, List.getElem?_cons_zero]; rfl)
    case hs10 => kernel_rfl
    case hf10 => kernel_rfl
    case hr10 => kernel_rfl
    case hQ10 => exact fun _ _ _ h => h
    case hy10 =>
      refine Or.inl ⟨rfl, ?_⟩
      intro W hSw
      obtain ⟨y0, y1, y2, y3, y4, y5, y6, y7, y8, y9, y10, y11⟩ := hSw
      go_simp
      try with_reducible rfl
    case hS10 => assumption
    try simp only [Act.put, List.setIfInBounds_toArray, List.set_cons_zero, List.set_cons_succ]
    refine wpAnyH_take (i := 11) (oi := ?oi11) (v := ?v11) ?hi11 ?hs11 ?hf11 ?hr11 ?hQ11 ?hy11 ?hS11 ?h11
    case hi11 => exact (by simp only [List.getElem?_toArray, List.getElem?_cons_succ, List.getElem?_cons_zero]; rfl)
    case hs11 => kernel_rfl
    case hf11 => kernel_rfl
    case hr11 => kernel_rfl
    case hQ11 => exact fun _ _ _ h => h
    case hy11 =>
      refine Or.inl ⟨rfl, ?_⟩
      intro W hSw
      obtain ⟨y0, y1, y2, y3, y4, y5, y6, y7, y8, y9, y10, y11⟩ := hSw
      go_simp
      try with_reducible rfl
    case hS11 => assumption
    try simp only [Act.put, List.setIfInBounds_toArray, List.set_cons_zero, List.set_cons_succ]
    refine wpAnyH_take (i := 12) (oi := ?oi12) (v := ?v12) ?hi12 ?hs12 ?hf12 ?hr12 ?hQ12 ?hy12 ?hS12 ?h12
    case hi12 => exact (by simp only [List.getElem?_toArray, List.getElem?_cons_succ, List.getElem?_cons_zero]; rfl)
    case hs12 => kernel_rfl
    case hf12 => kernel_rfl
    case hr12 => kernel_rfl
    case hQ12 => exact fun _ _ _ h => h
    case hy12 =>
      refine Or.inl ⟨rfl, ?_⟩
      intro W hSw
      obtain ⟨y0, y1, y2, y3, y4, y5, y6, y7, y8, y9, y10, y11⟩ := hSw
      go_simp
      try with_reducible rfl
    case hS12 => assumption
    try simp only [Act.put, List.setIfInBounds_toArray, List.set_cons_zero, List.set_cons_succ]
    refine wpAnyH_take (i := 13) (oi := ?oi13) (v := ?v13) ?hi13 ?hs13 ?hf13 ?hr13 ?hQ13 ?hy13 ?hS13 ?h13
    case hi13 => exact (by simp only [List.getElem?_toArray, List.getElem?_cons_succ, List.getElem?_cons_zero]; rfl)
    case hs13 => kernel_rfl
    case hf13 => kernel_rfl
    case hr13 => kernel_rfl
    case hQ13 => exact fun _ _ _ h => h
    case hy13 =>
      refine Or.inl ⟨rfl, ?_⟩
      intro W hSw
      obtain ⟨y0, y1, y2, y3, y4, y5, y6, y7, y8, y9, y10, y11⟩ := hSw
      go_simp
      try with_reducible rfl
    case hS13 => assumption
    try simp only [Act.put, List.setIfInBounds_toArray, List.set_cons_zero, List.set_cons_succ]
    refine wpAnyH_take (i := 14) (oi := ?oi14) (v := undef) ?hi14 ?hs14 ?hf14 ?hr14 ?hQ14 ?hy14 ?hS14 ?h14
    case hi14 => exact (by simp only [List.getElem?_toArray, List.getElem?_cons_succ, List.getElem?_cons_zero]; rfl)
    case hs14 => kernel_rfl
    case hf14 => kernel_rfl
    case hr14 => kernel_rfl
    case hQ14 => exact fun _ _ _ h => h
    case hy14 =>
      exact Or.inr ⟨rfl, rfl⟩
    case hS14 => assumption
    try simp only [Act.put, List.setIfInBounds_toArray, List.set_cons_zero, List.set_cons_succ]
    refine wpAnyH_take (i := 15) (oi := ?oi15) (v := undef) ?hi15 ?hs15 ?hf15 ?hr15 ?hQ15 ?hy15 ?hS15 ?h15
    case hi15 => exact (by simp only [List.getElem?_toArray, List.getElem?_cons_succ, List.getElem?_cons_zero]; rfl)
    case hs15 => kernel_rfl
    case hf15 => kernel_rfl
    case hr15 => kernel_rfl
    case hQ15 => exact fun _ _ _ h => h
    case hy15 =>
      exact Or.inr ⟨rfl, rfl⟩
    case hS15 => assumption
    try simp only [Act.put, List.setIfInBounds_toArray, List.set_cons_zero, List.set_cons_succ]
    refine wpAnyH_take (i := 16) (oi := ?oi16) (v := ?v16) ?hi16 ?hs16 ?hf16 ?hr16 ?hQ16 ?hy16 ?hS16 ?h16
    case hi16 => exact (by simp only [List.getElem?_toArray, List.getElem?_cons_succ, List.getElem?_cons_zero]; rfl)
    case hs16 => kernel_rfl
    case hf16 => kernel_rfl
    case hr16 => kernel_rfl
    case hQ16 => exact fun _ _ _ h => h
    case hy16 =>
      refine Or.inl ⟨rfl, ?_⟩
      intro W hSw
      obtain ⟨y0, y1, y2, y3, y4, y5, y6, y7, y8, y9, y10, y11⟩ := hSw
      go_simp
      try with_reducible rfl
    case hS16 => assumption
    try simp only [Act.put, List.setIfInBounds_toArray, List.set_cons_zero, List.set_cons_succ]
    refine wpAnyH_take (i := 17) (oi := ?oi17) (v := ?v17) ?hi17 ?hs17 ?hf17 ?hr17 ?hQ17 ?hy17 ?hS17 ?h17
    case hi17 => exact (by simp only [List.getElem?_toArray, List.getElem?_cons_succ, List.getElem?_cons_zero]; rfl)
    case hs17 => kernel_rfl
    case hf17 => kernel_rfl
    case hr17 => kernel_rfl
    case hQ17 => exact fun _ _ _ h => h
    case hy17 =>
      refine Or.inl ⟨rfl, ?_⟩
      intro W hSw
      obtain ⟨y0, y1, y2, y3, y4, y5, y6, y7, y8, y9, y10, y11⟩ := hSw
      go_simp
      try with_reducible rfl
    case hS17 => assumption
    try simp only [Act.put, List.setIfInBounds_toArray, List.set_cons_zero, List.set_cons_succ]
    refine wpAnyH_take (i := 18) (oi := ?oi18) (v := ?v18) ?hi18 ?hs18 ?hf18 ?hr18 ?hQ18 ?hy18 ?hS18 ?h18
    case hi18 => exact (by simp only [List.getElem?_toArray, List.getElem?_cons_succ, List.getElem?_cons_zero]; rfl)
    case hs18 => kernel_rfl
    case hf18 => kernel_rfl
    case hr18 => kernel_rfl
    case hQ18 => exact fun _ _ _ h => h
    case hy18 =>
      refine Or.inl ⟨rfl, ?_⟩
      intro W hSw
      obtain ⟨y0, y1, y2, y3, y4, y5, y6, y7, y8, y9, y10, y11⟩ := hSw
      go_simp
      try with_reducible rfl
    case hS18 => assumption
    try simp only [Act.put, List.setIfInBounds_toArray, List.set_cons_zero, List.set_cons_succ]
    refine wpAnyH_ready (rs := [19]) (by kernel_rfl) (by simp) ?_
    refine AllReadyH.cons (o := _) rfl (fun K hK => ?_) AllReadyH.nil
    go_simp
    refine (pawake wA (HSW.out wA hc1).1).mono ?_
    rintro x wG ⟨rfl, hbG⟩
    have hc2 := hc1.trans (hbG.mono hc1.size)
    refine hK.out _ _ (HCELL.out _ hc2) (fun hHeld => ?_)
    clear hK K
    try simp only [Act.put, List.setIfInBounds_toArray, List.set_cons_zero, List.set_cons_succ]
    refine wpAnyH_take (i := 20) (oi := ?oi20) (v := ?v20) ?hi20 ?hs20 ?hf20 ?hr20 ?hQ20 ?hy20 ?hS20 ?h20
    case hi20 => exact (by simp only [List.getElem?_toArray, List.getElem?_cons_succ, List.getElem?_cons_zero]; rfl)
    case hs20 => kernel_rfl
    case hf20 => kernel_rfl
    case hr20 => kernel_rfl
    case hQ20 => exact fun _ _ _ h => h
    case hy20 =>
      refine Or.inl ⟨rfl, ?_⟩
      intro W hSw
      obtain ⟨y0, y1, y2, y3, y4, y5, y6, y7, y8, y9, y10, y11⟩ := hSw
      go_simp
      try with_reducible rfl
    case hS20 => assumption
    try simp only [Act.put, List.setIfInBounds_toArray, List.set_cons_zero, List.set_cons_succ]
    refine wpAnyH_take (i := 21) (oi := ?oi21) (v := ?v21) ?hi21 ?hs21 ?hf21 ?hr21 ?hQ21 ?hy21 ?hS21 ?h21
    case hi21 => exact (by simp only [List.getElem?_toArray, List.getElem?_cons_succ, List.getElem?_cons_zero]; rfl)
    case hs21 => kernel_rfl
    case hf21 => kernel_rfl
    case hr21 => kernel_rfl
    case hQ21 => exact fun _ _ _ h => h
    case hy21 =>
      refine Or.inl ⟨rfl, ?_⟩
      intro W hSw
      obtain ⟨y0, y1, y2, y3, y4, y5, y6, y7, y8, y9, y10, y11⟩ := hSw
      go_simp
      try with_reducible rfl
    case hS21 => assumption
    try simp only [Act.put, List.setIfInBounds_toArray, List.set_cons_zero, List.set_cons_succ]
    refine wpAnyH_done (by kernel_rfl) ?_ _
    go_wp2
    go_ret
    exact ⟨rfl, (HSW.out _ hc2).2⟩
  · have t7 : ((er : Int) == 7) = true := by rw [beq_iff_eq]; omega
    clear h7
    go_region_held3 (fun W => W.cell? ⟨w2.heap.size, 0, none⟩ = some (.int .u32 (p : Int)) ∧ W.cell? ⟨w2.heap.size, 1, none⟩ = some (.int .u32 (m : Int)) ∧ W.cell? ⟨w2.heap.size, 2, none⟩ = some (.int .u16 (i : Int)) ∧ W.cell? ⟨w2.heap.size, 3, none⟩ = some (.int .u8 (q : Int)) ∧ W.cell? ⟨w2.heap.size, 4, none⟩ = some (.int .i64 e) ∧ W.cell? ⟨w2.heap.size, 5, none⟩ = some (.int .u64 (n : Int)) ∧ W.cell? ⟨w4.heap.size, 0, none⟩ = some (.int .u32 (p : Int)) ∧ W.cell? ⟨w4.heap.size, 1, none⟩ = some (.int .u32 (m : Int)) ∧ W.cell? ⟨w4.heap.size, 2, none⟩ = some (.int .u16 (i : Int)) ∧ W.cell? ⟨w4.heap.size, 3, none⟩ = some (.int .u8 (q : Int)) ∧ W.cell? ⟨w4.heap.size, 4, none⟩ = some (.int .i64 e) ∧ W.cell? ⟨w4.heap.size, 5, none⟩ = some (.int .u64 (n : Int)))
      (first | exact HCELL.out _ hc2 | exact HCELL.out _ hc1 | exact HCELL.out _ HD.out | go_keep)
      (first
        | (go_at_call 14; refine (token_any p m i q e n w5.drew).mono ?_; rintro x wA ⟨rfl, hbA⟩; have hc1 := HD.out.trans hbA)
        | (go_at_call 17; refine (pawake wA (HSW.out wA hc1).1).mono ?_; rintro x wG ⟨rfl, hbG⟩; have hc2 := hc1.trans (hbG.mono hc1.size))
        | fail)
    go_wp2
    go_ret
    exact ⟨rfl, (HSW.out _ hc2).2⟩
end Go.Proofs.YtaefgieodehceaaDoor
