/- Ledger: more contracts: New of any size, Issue of a nonce that is there, Spend of what is wrong or old. -/
import Derived.Test.YticegnbdpihdpaaL3
namespace Go.Proofs.Yticegnbdpihdpaa
open Go.RowKit
set_option maxRecDepth 20000

set_option linter.unusedSimpArgs false in
set_option maxHeartbeats 4000000 in
theorem issue_exists (L M : Nat) (most : Int) (cnt : Nat) (D : DataW Unit) (n o a : Nat) (x now : Int) (w : World) (hL : IsL w L M most cnt D) (hn : n < 18446744073709551616) (hnow : ¬ x < now) (hh : Maps.has D (kl n) = true) (n' o' a' : Nat) (x' : Int) (hat : D.atKey (kl n) (eD 0 0 0 0) = eD n' o' a' x') :
    Calls Try.prog 15 #[.pointer (some ⟨L, 0, none⟩), eV n o a x, .int .i64 now] w fun r w' => r = .returned (.int .i64 11) ∧ Below w.heap.size w w' := by
  obtain ⟨w0, hw0⟩ : ∃ w0, w0 = w.alloc (.cells #[.int .u64 (n : Int), .int .u32 (o : Int), .int .u32 (a : Int), .int .i64 x] 33) := ⟨_, rfl⟩
  have hb0 : Below w.heap.size w w0 := by rw [hw0]; exact (Below.refl _ _).alloc (Nat.le_refl _) _
  have hp0 : w0.heap[w.heap.size]? = some (.cells #[.int .u64 (n : Int), .int .u32 (o : Int), .int .u32 (a : Int), .int .i64 x] 33 (0, 0)) := by rw [hw0]; exact heap_alloc_new w _
  have HIL : Hid (∀ W, Below w0.heap.size w0 W → IsL W L M most cnt D) := fun W hW => (hL.below hb0).below hW
  have HLK : Hid (∀ W, Below w0.heap.size w0 W → (Instr.lookup 88 (.map (some M)) (.int .u64 (n : Int)) true).run Try.prog W = .ok (.tuple #[eV n' o' a' x', .bool true]) W) := fun W hW => by
    obtain ⟨v, ps, hlk, hv⟩ := (HIL.out W hW).2.look_ok K26 Try.underlying88 (zero33 W) (R_mk 0 0 0 0) (key26 n hn)
    rw [hat] at hv
    obtain rfl := R_inv hv
    rw [hh] at hlk
    exact hlk
  have HCE : Hid (∀ W, Below w0.heap.size w0 W → W.cell? ⟨L, 1, none⟩ = some (.map (some M)) ∧ W.cell? ⟨L, 0, none⟩ = some (.int .i64 most) ∧ W.cell? ⟨w.heap.size, 0, none⟩ = some (.int .u64 (n : Int)) ∧ W.cell? ⟨w.heap.size, 1, none⟩ = some (.int .u32 (o : Int)) ∧ W.cell? ⟨w.heap.size, 2, none⟩ = some (.int .u32 (a : Int)) ∧ W.cell? ⟨w.heap.size, 3, none⟩ = some (.int .i64 x)) := fun W hW => by
    have e1 := (HIL.out W hW).1
    have e2 := (hW.block _ (lt_of_block hp0)).trans hp0
    exact ⟨cell_of_row W _ 1 _ _ _ e1, cell_of_row W _ 0 _ _ _ e1, cell_of_row W _ 0 _ _ _ e2, cell_of_row W _ 1 _ _ _ e2, cell_of_row W _ 2 _ _ _ e2, cell_of_row W _ 3 _ _ _ e2⟩
  have g2 : decide (x < now) = false := by rw [decide_eq_false_iff_not]; exact hnow
  have HOL : Hid (∀ W, Calls Try.prog 45 #[eV n o a x, .int .i64 now] W fun r w' => r = .returned (.bool false) ∧ Below W.heap.size W w') := fun W => by
    rw [← g2]; exact old_any n o a x now W
  have H0 := Lib.hid hw0
  have HB0 := Lib.hid hb0
  clear hw0 hb0 hp0 hat hL hn hnow hh g2
  go_enter Try.func15, Try.ntmps15
  go_upto_region 3 with (fail)
  rw [← H0.out]
  go_cut [8] (fun v wx => v = .bool true ∧ Hid (Below w0.heap.size w0 wx))
  case first =>
    have HD : Hid (Below w0.heap.size w0 w0.drew) := (Below.refl _ _).drew
    have HS : Hid ((fun W : World => W.cell? ⟨L, 1, none⟩ = some (.map (some M)) ∧ W.cell? ⟨w.heap.size, 0, none⟩ = some (.int .u64 (n : Int)) ∧ (Instr.lookup 88 (.map (some M)) (.int .u64 (n : Int)) true).run Try.prog W = .ok (.tuple #[eV n' o' a' x', .bool true]) W) w0.drew) := ⟨(HCE.out _ HD.out).1, (HCE.out _ HD.out).2.2.1, HLK.out _ HD.out⟩
    refine wp_region_held_drew (S := fun W : World => W.cell? ⟨L, 1, none⟩ = some (.map (some M)) ∧ W.cell? ⟨w.heap.size, 0, none⟩ = some (.int .u64 (n : Int)) ∧ (Instr.lookup 88 (.map (some M)) (.int .u64 (n : Int)) true).run Try.prog W = .ok (.tuple #[eV n' o' a' x', .bool true]) W) (by kernel_rfl) HS.out (fun hHeld => ?_)
    obtain ⟨W0, hW0⟩ : ∃ W0, W0 = w0.drew := ⟨_, rfl⟩
    have HD0 : Hid (Below w0.heap.size w0 W0) := by rw [hW0]; exact HD.out
    rw [← hW0] at hHeld ⊢
    clear hW0
    have HA : Hid (Below w0.heap.size w0 (W0.alloc (.cells #[.int .u64 0, .int .u32 0, .int .u32 0, .int .i64 0] 33))) := HD0.out.alloc HD0.out.size _
    have HSA : Hid ((fun W : World => W.cell? ⟨L, 1, none⟩ = some (.map (some M)) ∧ W.cell? ⟨w.heap.size, 0, none⟩ = some (.int .u64 (n : Int)) ∧ (Instr.lookup 88 (.map (some M)) (.int .u64 (n : Int)) true).run Try.prog W = .ok (.tuple #[eV n' o' a' x', .bool true]) W) (W0.alloc (.cells #[.int .u64 0, .int .u32 0, .int .u32 0, .int .i64 0] 33))) := ⟨(HCE.out _ HA.out).1, (HCE.out _ HA.out).2.2.1, HLK.out _ HA.out⟩
    have HB : Hid (Below w0.heap.size w0 (W0.alloc (.cells #[.int .u64 (n' : Int), .int .u32 (o' : Int), .int .u32 (a' : Int), .int .i64 x'] 33))) := HD0.out.alloc HD0.out.size _
    have HSB : Hid (( fun W : World => W.cell? ⟨L, 1, none⟩ = some (.map (some M)) ∧ W.cell? ⟨w.heap.size, 0, none⟩ = some (.int .u64 (n : Int)) ∧ (Instr.lookup 88 (.map (some M)) (.int .u64 (n : Int)) true).run Try.prog W = .ok (.tuple #[eV n' o' a' x', .bool true]) W) (W0.alloc (.cells #[.int .u64 (n' : Int), .int .u32 (o' : Int), .int .u32 (a' : Int), .int .i64 x'] 33))) := ⟨(HCE.out _ HB.out).1, (HCE.out _ HB.out).2.2.1, HLK.out _ HB.out⟩
    have qA := heap_alloc_new W0 (.cells #[.int .u64 0, .int .u32 0, .int .u32 0, .int .i64 0] 33)
    have fA : ∀ i, (W0.alloc (.cells #[.int .u64 0, .int .u32 0, .int .u32 0, .int .i64 0] 33)).frozen? ⟨W0.heap.size, i, none⟩ = false := fun i => frozen_of_row _ _ i _ _ qA
    have a0 := cell_of_row (W0.alloc (.cells #[.int .u64 0, .int .u32 0, .int .u32 0, .int .i64 0] 33)) W0.heap.size 0 _ _ _ qA
    have a1 := cell_of_row (W0.alloc (.cells #[.int .u64 0, .int .u32 0, .int .u32 0, .int .i64 0] 33)) W0.heap.size 1 _ _ _ qA
    have a2 := cell_of_row (W0.alloc (.cells #[.int .u64 0, .int .u32 0, .int .u32 0, .int .i64 0] 33)) W0.heap.size 2 _ _ _ qA
    have a3 := cell_of_row (W0.alloc (.cells #[.int .u64 0, .int .u32 0, .int .u32 0, .int .i64 0] 33)) W0.heap.size 3 _ _ _ qA
    simp at a0 a1 a2 a3
    clear qA
    refine wpAnyH_take (i := 0) (oi := ?oi0a) (v := ?v0a) ?hi0a ?hs0a ?hf0a ?hr0a ?hQ0a ?hy0a ?hS0a ?h0a
    case hi0a => exact (by simp only [List.getElem?_toArray, List.getElem?_cons_zero]; rfl)
    case hs0a => kernel_rfl
    case hf0a => kernel_rfl
    case hr0a => kernel_rfl
    case hQ0a => exact fun _ _ _ h => h
    case hy0a =>
      refine Or.inl ⟨rfl, ?_⟩
      intro W hSw
      obtain ⟨y1, y2, y3⟩ := hSw
      go_simp
      try with_reducible rfl
    case hS0a => assumption
    try simp only [Act.put, List.setIfInBounds_toArray, List.set_cons_zero, List.set_cons_succ]
    refine wpAnyH_take (i := 1) (oi := ?oi1a) (v := ?v1a) ?hi1a ?hs1a ?hf1a ?hr1a ?hQ1a ?hy1a ?hS1a ?h1a
    case hi1a => exact (by simp only [List.getElem?_toArray, List.getElem?_cons_succ, List.getElem?_cons_zero]; rfl)
    case hs1a => kernel_rfl
    case hf1a => kernel_rfl
    case hr1a => kernel_rfl
    case hQ1a => exact fun _ _ _ h => h
    case hy1a =>
      refine Or.inl ⟨rfl, ?_⟩
      intro W hSw
      obtain ⟨y1, y2, y3⟩ := hSw
      go_simp
      try with_reducible rfl
    case hS1a => assumption
    try simp only [Act.put, List.setIfInBounds_toArray, List.set_cons_zero, List.set_cons_succ]
    refine wpAnyH_take (i := 2) (oi := ?oi2a) (v := ?v2a) ?hi2a ?hs2a ?hf2a ?hr2a ?hQ2a ?hy2a ?hS2a ?h2a
    case hi2a => exact (by simp only [List.getElem?_toArray, List.getElem?_cons_succ, List.getElem?_cons_zero]; rfl)
    case hs2a => kernel_rfl
    case hf2a => kernel_rfl
    case hr2a => kernel_rfl
    case hQ2a => exact fun _ _ _ h => h
    case hy2a =>
      refine Or.inl ⟨rfl, ?_⟩
      intro W hSw
      obtain ⟨y1, y2, y3⟩ := hSw
      go_simp
      try with_reducible rfl
    case hS2a => assumption
    try simp only [Act.put, List.setIfInBounds_toArray, List.set_cons_zero, List.set_cons_succ]
    refine wpAnyH_take (i := 3) (oi := ?oi3a) (v := ?v3a) ?hi3a ?hs3a ?hf3a ?hr3a ?hQ3a ?hy3a ?hS3a ?h3a
    case hi3a => exact (by simp only [List.getElem?_toArray, List.getElem?_cons_succ, List.getElem?_cons_zero]; rfl)
    case hs3a => kernel_rfl
    case hf3a => kernel_rfl
    case hr3a => kernel_rfl
    case hQ3a => exact fun _ _ _ h => h
    case hy3a =>
      refine Or.inl ⟨rfl, ?_⟩
      intro W hSw
      obtain ⟨y1, y2, y3⟩ := hSw
      go_simp
      try with_reducible rfl
    case hS3a => assumption
    try simp only [Act.put, List.setIfInBounds_toArray, List.set_cons_zero, List.set_cons_succ]
    refine wpAnyH_take (i := 4) (oi := ?oi4a) (v := ?v4a) ?hi4a ?hs4a ?hf4a ?hr4a ?hQ4a ?hy4a ?hS4a ?h4a
    case hi4a => exact (by simp only [List.getElem?_toArray, List.getElem?_cons_succ, List.getElem?_cons_zero]; rfl)
    case hs4a => kernel_rfl
    case hf4a => kernel_rfl
    case hr4a => kernel_rfl
    case hQ4a => exact fun _ _ _ h => h
    case hy4a =>
      refine Or.inl ⟨rfl, ?_⟩
      intro W hSw
      obtain ⟨y1, y2, y3⟩ := hSw
      go_simp
      try with_reducible rfl
    case hS4a => assumption
    try simp only [Act.put, List.setIfInBounds_toArray, List.set_cons_zero, List.set_cons_succ]
    refine wpAnyH_take (i := 5) (oi := ?oi5a) (v := ?v5a) ?hi5a ?hs5a ?hf5a ?hr5a ?hQ5a ?hy5a ?hS5a ?h5a
    case hi5a => exact (by simp only [List.getElem?_toArray, List.getElem?_cons_succ, List.getElem?_cons_zero]; rfl)
    case hs5a => kernel_rfl
    case hf5a => kernel_rfl
    case hr5a => kernel_rfl
    case hQ5a => exact fun _ _ _ h => h
    case hy5a =>
      refine Or.inl ⟨rfl, ?_⟩
      intro W hSw
      obtain ⟨y1, y2, y3⟩ := hSw
      go_simp
      try with_reducible rfl
    case hS5a => assumption
    try simp only [Act.put, List.setIfInBounds_toArray, List.set_cons_zero, List.set_cons_succ]
    refine wpAnyH_take (i := 6) (oi := ?oi6a) (v := ?v6a) ?hi6a ?hs6a ?hf6a ?hr6a ?hQ6a ?hy6a ?hS6a ?h6a
    case hi6a => exact (by simp only [List.getElem?_toArray, List.getElem?_cons_succ, List.getElem?_cons_zero]; rfl)
    case hs6a => kernel_rfl
    case hf6a => kernel_rfl
    case hr6a => kernel_rfl
    case hQ6a => exact fun _ _ _ h => h
    case hy6a =>
      refine Or.inl ⟨rfl, ?_⟩
      intro W hSw
      obtain ⟨y1, y2, y3⟩ := hSw
      go_simp
      try with_reducible rfl
    case hS6a => assumption
    try simp only [Act.put, List.setIfInBounds_toArray, List.set_cons_zero, List.set_cons_succ]
    refine wpAnyH_take (i := 7) (oi := ?oi7a) (v := ?v7a) ?hi7a ?hs7a ?hf7a ?hr7a ?hQ7a ?hy7a ?hS7a ?h7a
    case hi7a => exact (by simp only [List.getElem?_toArray, List.getElem?_cons_succ, List.getElem?_cons_zero]; rfl)
    case hs7a => kernel_rfl
    case hf7a => kernel_rfl
    case hr7a => kernel_rfl
    case hQ7a => exact fun _ _ _ h => h
    case hy7a =>
      refine Or.inl ⟨rfl, ?_⟩
      intro W hSw
      obtain ⟨y1, y2, y3⟩ := hSw
      go_simp
      try with_reducible rfl
    case hS7a => assumption
    try simp only [Act.put, List.setIfInBounds_toArray, List.set_cons_zero, List.set_cons_succ]
    refine wpAnyH_take (i := 8) (oi := ?oi8a) (v := ?v8a) ?hi8a ?hs8a ?hf8a ?hr8a ?hQ8a ?hy8a ?hS8a ?h8a
    case hi8a => exact (by simp only [List.getElem?_toArray, List.getElem?_cons_succ, List.getElem?_cons_zero]; rfl)
    case hs8a => kernel_rfl
    case hf8a => kernel_rfl
    case hr8a => kernel_rfl
    case hQ8a => exact fun _ _ _ h => h
    case hy8a =>
      refine Or.inl ⟨rfl, ?_⟩
      intro W hSw
      obtain ⟨y1, y2, y3⟩ := hSw
      go_simp
      try with_reducible rfl
    case hS8a => assumption
    try simp only [Act.put, List.setIfInBounds_toArray, List.set_cons_zero, List.set_cons_succ]
    refine wpAnyH_take (i := 9) (oi := ?oi9a) (v := ?v9a) ?hi9a ?hs9a ?hf9a ?hr9a ?hQ9a ?hy9a ?hS9a ?h9a
    case hi9a => exact (by simp only [List.getElem?_toArray, List.getElem?_cons_succ, List.getElem?_cons_zero]; rfl)
    case hs9a => kernel_rfl
    case hf9a => kernel_rfl
    case hr9a => kernel_rfl
    case hQ9a => exact fun _ _ _ h => h
    case hy9a =>
      refine Or.inl ⟨rfl, ?_⟩
      intro W hSw
      obtain ⟨y1, y2, y3⟩ := hSw
      go_simp
      try with_reducible rfl
    case hS9a => assumption
    try simp only [Act.put, List.setIfInBounds_toArray, List.set_cons_zero, List.set_cons_succ]
    refine wpAnyH_ready (rs := [10]) (by kernel_rfl) (by simp) ?_
    refine AllReadyH.cons (o := _) rfl (fun K hK => ?_) AllReadyH.nil
    go_simp
    refine hK.out _ _ HSA.out (fun hHeld => ?_)
    clear hK K
    try simp only [Act.put, List.setIfInBounds_toArray, List.set_cons_zero, List.set_cons_succ]
    refine wpAnyH_ready (rs := [11]) (by kernel_rfl) (by simp) ?_
    refine AllReadyH.cons (o := _) rfl (fun K hK => ?_) AllReadyH.nil
    go_simp
    refine hK.out _ _ HSB.out (fun hHeld => ?_)
    clear hK K
    try simp only [Act.put, List.setIfInBounds_toArray, List.set_cons_zero, List.set_cons_succ]
    refine wpAnyH_ready (rs := [12]) (by kernel_rfl) (by simp) ?_
    refine AllReadyH.cons (o := _) rfl (fun K hK => ?_) AllReadyH.nil
    go_simp
    refine hK.out _ _ HSB.out (fun hHeld => ?_)
    clear hK K
    try simp only [Act.put, List.setIfInBounds_toArray, List.set_cons_zero, List.set_cons_succ]
    refine wpAnyH_done (by kernel_rfl) ?_ _
    try go_wp2_with fail
    go_meet
    exact ⟨rfl, HB⟩
  case rest =>
    rename World => w1
    obtain ⟨rfl, HB1⟩ := hcut
    obtain ⟨c1, c2, c3, c4, c5, c6⟩ := HCE.out w1 HB1.out
    go_wp2_with fail
    refine (HOL.out w1).mono ?_
    rintro e w2 ⟨rfl, hb2⟩
    have HB2 := Lib.hid (HB1.out.trans (hb2.mono HB1.out.size))
    go_wp2
    go_ret
    exact ⟨rfl, HB0.out.trans (HB2.out.mono HB0.out.size)⟩

set_option maxHeartbeats 1000000 in
theorem new_some (most : Int) (h0 : 0 ≤ most) (w : World) : Calls Try.prog 11 #[.int .i64 most] w fun e w' => e = .returned (.pointer (some ⟨w.heap.size + 1, 0, none⟩)) ∧ IsL w' (w.heap.size + 1) w.heap.size most 0 (.map []) ∧ Below w.heap.size w w' := by
  have hm := World.ownsMap_made w Try.prog 26 R
  have hb := ((Below.refl w.heap.size w).alloc (Nat.le_refl _) (.map #[] 0)).alloc (by simp) (.cells #[.int .i64 most, .map (some w.heap.size)] 90)
  have hq := heap_alloc_new (w.alloc (.map #[] 0)) (.cells #[.int .i64 most, .map (some w.heap.size)] 90)
  rw [World.size_alloc] at hq
  have hmk : ∀ W : World, (Instr.makeMap 88 none).run Try.prog W = .ok (.map (some W.heap.size)) (W.alloc (.map #[] 0)) := fun W => rfl
  go_enter Try.func11, Try.ntmps11
  go_wp2
  go_ret
  exact ⟨rfl, ⟨hq, hm.alloc _⟩, hb⟩

set_option maxHeartbeats 4000000 in
theorem spend_wrong2 (p : Value) (n o a n' o' a' : Nat) (x now : Int) (w : World) (hne : o' = o ∧ a' ≠ a) (hg : Calls Try.prog 12 #[p, .int .u64 (n : Int)] w fun r w' => r = .returned (.tuple #[eV n' o' a' x, .bool true]) ∧ Below w.heap.size w w') :
    Calls Try.prog 17 #[p, .int .u64 (n : Int), .int .u32 (o : Int), .int .u32 (a : Int), .int .i64 now] w fun r w' => r = .returned (.int .i64 13) ∧ Below w.heap.size w w' := by
  obtain ⟨rfl, hne⟩ := hne
  have t0 : ((o' : Int) != (o' : Int)) = false := bne_self_eq_false _
  have t1 : ((a' : Int) != (a : Int)) = true := by rw [bne_iff_ne]; omega
  have HG := Lib.hid hg
  clear hg hne
  go_enter Try.func17, Try.ntmps17
  go_wp2_with fail
  refine HG.out.mono ?_
  rintro e w1 ⟨rfl, hb1⟩
  go_wp2
  go_ret
  exact ⟨rfl, hb1.alloc hb1.size _⟩

set_option maxHeartbeats 4000000 in
theorem spend_old (p : Value) (n o a n' : Nat) (x now : Int) (w : World) (hnow : x < now) (hg : Calls Try.prog 12 #[p, .int .u64 (n : Int)] w fun r w' => r = .returned (.tuple #[eV n' o a x, .bool true]) ∧ Below w.heap.size w w') :
    Calls Try.prog 17 #[p, .int .u64 (n : Int), .int .u32 (o : Int), .int .u32 (a : Int), .int .i64 now] w fun r w' => r = .returned (.int .i64 9) ∧ Below w.heap.size w w' := by
  have t1 : ((o : Int) != (o : Int)) = false := bne_self_eq_false _
  have t2 : ((a : Int) != (a : Int)) = false := bne_self_eq_false _
  have g2 : decide (x < now) = true := by rw [decide_eq_true_iff]; exact hnow
  have HOL : Hid (∀ W, Calls Try.prog 45 #[eV n' o a x, .int .i64 now] W fun r w' => r = .returned (.bool true) ∧ Below W.heap.size W w') := fun W => by
    rw [← g2]; exact old_any n' o a x now W
  have HG := Lib.hid hg
  clear hg hnow g2
  go_enter Try.func17, Try.ntmps17
  go_wp2_with fail
  refine HG.out.mono ?_
  rintro e w1 ⟨rfl, hb1⟩
  have HB1 := Lib.hid hb1
  clear hb1
  go_wp2_with fail
  refine (HOL.out _).mono ?_
  rintro e w3 ⟨rfl, hb3⟩
  go_wp2
  go_ret
  exact ⟨rfl, (HB1.out.alloc HB1.out.size _).trans (hb3.mono (HB1.out.alloc HB1.out.size _).size)⟩
end Go.Proofs.Yticegnbdpihdpaa
