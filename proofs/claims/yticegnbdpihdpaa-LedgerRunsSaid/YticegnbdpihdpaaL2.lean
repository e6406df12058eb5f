/- Ledger: Issue. -/
import Derived.Test.YticegnbdpihdpaaL1
namespace Go.Proofs.Yticegnbdpihdpaa
open Go.RowKit
set_option maxRecDepth 20000

/-- What a call may change that turns the map in block M. -/
def ChM (M : Nat) (w w' : World) : Prop := (∀ B, B ≤ M → B ≤ w.heap.size → Below B w w') ∧ (∀ g, g < w.heap.size → g ≠ M → w'.heap[g]? = w.heap[g]?) ∧ w.heap.size ≤ w'.heap.size
theorem ChM.of_below {M : Nat} {w w' : World} (h : Below w.heap.size w w') : ChM M w w' := ⟨fun _ _ h2 => h.mono h2, fun g hg _ => h.block g hg, h.size⟩
theorem ChM.of_grown {M : Nat} {w v w' : World} (h : Below w.heap.size w v) (hg : v.grownBy w' (some M)) : ChM M w w' :=
  ⟨fun B h1 h2 => (h.mono h2).grown hg (Nat.le_trans h2 h.size) (fun k hk => by injection hk with hk; omega), fun g hgs hne => (hg.block g (Nat.lt_of_lt_of_le hgs h.size) (fun e => by injection e with e; exact hne e)).trans (h.block g hgs), Nat.le_trans h.size hg.size⟩

set_option maxHeartbeats 1000000 in
theorem issue_nil (n o a : Nat) (x now : Int) (w : World) : Calls Try.prog 15 #[.pointer none, eV n o a x, .int .i64 now] w fun r w' => r = .returned (.int .i64 10) ∧ Below w.heap.size w w' := by
  have hb := (Below.refl w.heap.size w).alloc (Nat.le_refl _) (.cells #[.int .u64 (n : Int), .int .u32 (o : Int), .int .u32 (a : Int), .int .i64 x] 33)
  go_enter Try.func15, Try.ntmps15
  go_wp2
  go_ret
  exact ⟨rfl, hb⟩

set_option linter.unusedSimpArgs false in
set_option maxHeartbeats 4000000 in
theorem issue_ok (L M : Nat) (most : Int) (cnt : Nat) (D : DataW Unit) (n o a : Nat) (x now : Int) (w : World) (hL : IsL w L M most cnt D) (hn : n < 18446744073709551616) (hnow : ¬ x < now) (hh : Maps.has D (kl n) = false) (hsz : (Maps.size D : Int) < most) (hcnt : cnt ≤ 1000) :
    Calls Try.prog 15 #[.pointer (some ⟨L, 0, none⟩), eV n o a x, .int .i64 now] w fun r w' => r = .returned (.int .i64 0) ∧ IsL w' L M most (cnt + 1) (D.put (kl n) (eD n o a x)) ∧ ChM M w w' := by
  obtain ⟨w0, hw0⟩ : ∃ w0, w0 = w.alloc (.cells #[.int .u64 (n : Int), .int .u32 (o : Int), .int .u32 (a : Int), .int .i64 x] 33) := ⟨_, rfl⟩
  have hb0 : Below w.heap.size w w0 := by rw [hw0]; exact (Below.refl _ _).alloc (Nat.le_refl _) _
  have hp0 : w0.heap[w.heap.size]? = some (.cells #[.int .u64 (n : Int), .int .u32 (o : Int), .int .u32 (a : Int), .int .i64 x] 33 (0, 0)) := by rw [hw0]; exact heap_alloc_new w _
  have hat := Maps.atKey_of_not_has hh (eD 0 0 0 0)
  have HIL : Hid (∀ W, Below w0.heap.size w0 W → IsL W L M most cnt D) := fun W hW => (hL.below hb0).below hW
  have HLK : Hid (∀ W, Below w0.heap.size w0 W → (Instr.lookup 88 (.map (some M)) (.int .u64 (n : Int)) true).run Try.prog W = .ok (.tuple #[eV 0 0 0 0, .bool false]) W) := fun W hW => by
    obtain ⟨v, ps, hlk, hv⟩ := (HIL.out W hW).2.look_ok K26 Try.underlying88 (zero33 W) (R_mk 0 0 0 0) (key26 n hn)
    rw [hat] at hv
    obtain rfl := R_inv hv
    rw [hh] at hlk
    exact hlk
  have HCE : Hid (∀ W, Below w0.heap.size w0 W → W.cell? ⟨L, 1, none⟩ = some (.map (some M)) ∧ W.cell? ⟨L, 0, none⟩ = some (.int .i64 most) ∧ W.cell? ⟨w.heap.size, 0, none⟩ = some (.int .u64 (n : Int)) ∧ W.cell? ⟨w.heap.size, 1, none⟩ = some (.int .u32 (o : Int)) ∧ W.cell? ⟨w.heap.size, 2, none⟩ = some (.int .u32 (a : Int)) ∧ W.cell? ⟨w.heap.size, 3, none⟩ = some (.int .i64 x)) := fun W hW => by
    have e1 := (HIL.out W hW).1
    have e2 := (hW.block _ (lt_of_block hp0)).trans hp0
    exact ⟨cell_of_row W _ 1 _ _ _ e1, cell_of_row W _ 0 _ _ _ e1, cell_of_row W _ 0 _ _ _ e2, cell_of_row W _ 1 _ _ _ e2, cell_of_row W _ 2 _ _ _ e2, cell_of_row W _ 3 _ _ _ e2⟩
  obtain ⟨s, hs⟩ : ∃ s : Nat, s = Maps.size D := ⟨_, rfl⟩
  have HLN : Hid (∀ W, Below w0.heap.size w0 W → (Builtin.len_ #[88] 3 #[.map (some M)]).run Try.prog W = .ok (.int .i64 (s : Int)) W) := fun W hW => by
    rw [hs]; exact (HIL.out W hW).2.len Try.underlying88 3
  rw [← hs] at hsz
  have g1 : decide ((s : Int) ≥ most) = false := by rw [decide_eq_false_iff_not]; omega
  have g2 : decide (x < now) = false := by rw [decide_eq_false_iff_not]; exact hnow
  have HOL : Hid (∀ W, Calls Try.prog 45 #[eV n o a x, .int .i64 now] W fun r w' => r = .returned (.bool false) ∧ Below W.heap.size W w') := fun W => by
    rw [← g2]; exact old_any n o a x now W
  have HST : Hid (∀ W, Below w0.heap.size w0 W → ∃ w', (Instr.mapUpdate 88 (.map (some M)) (.int .u64 (n : Int)) (eV n o a x)).run Try.prog W = .ok () w' ∧ w'.ownsMap Try.prog 26 R M (cnt + 1) (D.put (kl n) (eD n o a x)) ∧ W.mapTurned w' M) := fun W hW =>
    (HIL.out W hW).2.store K26 Try.underlying88 (by unfold maxLen; omega) (key26 n hn) (R_mk n o a x)
  have HLM : Hid (L ≠ M) := fun e => by
    obtain ⟨h1, es, clock, hm, _⟩ := hL
    rw [e] at h1
    rw [h1] at hm
    cases hm
  have H0 := Lib.hid hw0
  have HB0 := Lib.hid hb0
  clear hw0 hb0 hp0 hat hL hn hnow hh hsz hs g2 hcnt
  go_enter Try.func15, Try.ntmps15
  go_upto_region 3 with (fail)
  rw [← H0.out]
  go_cut [8] (fun v wx => v = .bool false ∧ Hid (Below w0.heap.size w0 wx))
  case first =>
    have HD : Hid (Below w0.heap.size w0 w0.drew) := (Below.refl _ _).drew
    have HS : Hid ((fun W : World => W.cell? ⟨L, 1, none⟩ = some (.map (some M)) ∧ W.cell? ⟨w.heap.size, 0, none⟩ = some (.int .u64 (n : Int)) ∧ (Instr.lookup 88 (.map (some M)) (.int .u64 (n : Int)) true).run Try.prog W = .ok (.tuple #[eV 0 0 0 0, .bool false]) W) w0.drew) := ⟨(HCE.out _ HD.out).1, (HCE.out _ HD.out).2.2.1, HLK.out _ HD.out⟩
    refine wp_region_held_drew (S := fun W : World => W.cell? ⟨L, 1, none⟩ = some (.map (some M)) ∧ W.cell? ⟨w.heap.size, 0, none⟩ = some (.int .u64 (n : Int)) ∧ (Instr.lookup 88 (.map (some M)) (.int .u64 (n : Int)) true).run Try.prog W = .ok (.tuple #[eV 0 0 0 0, .bool false]) W) (by kernel_rfl) HS.out (fun hHeld => ?_)
    obtain ⟨W0, hW0⟩ : ∃ W0, W0 = w0.drew := ⟨_, rfl⟩
    have HD0 : Hid (Below w0.heap.size w0 W0) := by rw [hW0]; exact HD.out
    rw [← hW0] at hHeld ⊢
    clear hW0
    have HA : Hid (Below w0.heap.size w0 (W0.alloc (.cells #[.int .u64 0, .int .u32 0, .int .u32 0, .int .i64 0] 33))) := HD0.out.alloc HD0.out.size _
    have HSA : Hid ((fun W : World => W.cell? ⟨L, 1, none⟩ = some (.map (some M)) ∧ W.cell? ⟨w.heap.size, 0, none⟩ = some (.int .u64 (n : Int)) ∧ (Instr.lookup 88 (.map (some M)) (.int .u64 (n : Int)) true).run Try.prog W = .ok (.tuple #[eV 0 0 0 0, .bool false]) W) (W0.alloc (.cells #[.int .u64 0, .int .u32 0, .int .u32 0, .int .i64 0] 33))) := ⟨(HCE.out _ HA.out).1, (HCE.out _ HA.out).2.2.1, HLK.out _ HA.out⟩
    have qA := heap_alloc_new W0 (.cells #[.int .u64 0, .int .u32 0, .int .u32 0, .int .i64 0] 33)
    have fA : ∀ i, (W0.alloc (.cells #[.int .u64 0, .int .u32 0, .int .u32 0, .int .i64 0] 33)).frozen? ⟨W0.heap.size, i, none⟩ = false := fun i => frozen_of_row _ _ i _ _ qA
    have a0 := cell_of_row (W0.alloc (.cells #[.int .u64 0, .int .u32 0, .int .u32 0, .int .i64 0] 33)) W0.heap.size 0 _ _ _ qA
    have a1 := cell_of_row (W0.alloc (.cells #[.int .u64 0, .int .u32 0, .int .u32 0, .int .i64 0] 33)) W0.heap.size 1 _ _ _ qA
    have a2 := cell_of_row (W0.alloc (.cells #[.int .u64 0, .int .u32 0, .int .u32 0, .int .i64 0] 33)) W0.heap.size 2 _ _ _ qA
    have a3 := cell_of_row (W0.alloc (.cells #[.int .u64 0, .int .u32 0, .int .u32 0, .int .i64 0] 33)) W0.heap.size 3 _ _ _ qA
    simp at a0 a1 a2 a3
    clear qA
    refine wpAnyH_take (i := 0) (oi := ?oi0a) (v := ?v0a) ?hi0a ?hs0a ?hf0a ?hr0a ?hQ0a ?hy0a ?hS0a ?h0a
    case hi0a => exact (by simp only [List.getElem?_toArray, List.getElem?_cons_zero]; rfl)
    case hs0a => kernel_rfl
    case hf0a => kernel_rfl
    case hr0a => kernel_rfl
    case hQ0a => exact fun _ _ _ h => h
    case hy0a =>
      refine Or.inl ⟨rfl, ?_⟩
      intro W hSw
      obtain ⟨y1, y2, y3⟩ := hSw
      go_simp
      try with_reducible rfl
    case hS0a => assumption
    try simp only [Act.put, List.setIfInBounds_toArray, List.set_cons_zero, List.set_cons_succ]
    refine wpAnyH_take (i := 1) (oi := ?oi1a) (v := ?v1a) ?hi1a ?hs1a ?hf1a ?hr1a ?hQ1a ?hy1a ?hS1a ?h1a
    case hi1a => exact (by simp only [List.getElem?_toArray, List.getElem?_cons_succ, List.getElem?_cons_zero]; rfl)
    case hs1a => kernel_rfl
    case hf1a => kernel_rfl
    case hr1a => kernel_rfl
    case hQ1a => exact fun _ _ _ h => h
    case hy1a =>
      refine Or.inl ⟨rfl, ?_⟩
      intro W hSw
      obtain ⟨y1, y2, y3⟩ := hSw
      go_simp
      try with_reducible rfl
    case hS1a => assumption
    try simp only [Act.put, List.setIfInBounds_toArray, List.set_cons_zero, List.set_cons_succ]
    refine wpAnyH_take (i := 2) (oi := ?oi2a) (v := ?v2a) ?hi2a ?hs2a ?hf2a ?hr2a ?hQ2a ?hy2a ?hS2a ?h2a
    case hi2a => exact (by simp only [List.getElem?_toArray, List.getElem?_cons_succ, List.getElem?_cons_zero]; rfl)
    case hs2a => kernel_rfl
    case hf2a => kernel_rfl
    case hr2a => kernel_rfl
    case hQ2a => exact fun _ _ _ h => h
    case hy2a =>
      refine Or.inl ⟨rfl, ?_⟩
      intro W hSw
      obtain ⟨y1, y2, y3⟩ := hSw
      go_simp
      try with_reducible rfl
    case hS2a => assumption
    try simp only [Act.put, List.setIfInBounds_toArray, List.set_cons_zero, List.set_cons_succ]
    refine wpAnyH_take (i := 3) (oi := ?oi3a) (v := ?v3a) ?hi3a ?hs3a ?hf3a ?hr3a ?hQ3a ?hy3a ?hS3a ?h3a
    case hi3a => exact (by simp only [List.getElem?_toArray, List.getElem?_cons_succ, List.getElem?_cons_zero]; rfl)
    case hs3a => kernel_rfl
    case hf3a => kernel_rfl
    case hr3a => kernel_rfl
    case hQ3a => exact fun _ _ _ h => h
    case hy3a =>
      refine Or.inl ⟨rfl, ?_⟩
      intro W hSw
      obtain ⟨y1, y2, y3⟩ := hSw
      go_simp
      try with_reducible rfl
    case hS3a => assumption
    try simp only [Act.put, List.setIfInBounds_toArray, List.set_cons_zero, List.set_cons_succ]
    refine wpAnyH_take (i := 4) (oi := ?oi4a) (v := ?v4a) ?hi4a ?hs4a ?hf4a ?hr4a ?hQ4a ?hy4a ?hS4a ?h4a
    case hi4a => exact (by simp only [List.getElem?_toArray, List.getElem?_cons_succ, List.getElem?_cons_zero]; rfl)
    case hs4a => kernel_rfl
    case hf4a => kernel_rfl
    case hr4a => kernel_rfl
    case hQ4a => exact fun _ _ _ h => h
    case hy4a =>
      refine Or.inl ⟨rfl, ?_⟩
      intro W hSw
      obtain ⟨y1, y2, y3⟩ := hSw
      go_simp
      try with_reducible rfl
    case hS4a => assumption
    try simp only [Act.put, List.setIfInBounds_toArray, List.set_cons_zero, List.set_cons_succ]
    refine wpAnyH_take (i := 5) (oi := ?oi5a) (v := ?v5a) ?hi5a ?hs5a ?hf5a ?hr5a ?hQ5a ?hy5a ?hS5a ?h5a
    case hi5a => exact (by simp only [List.getElem?_toArray, List.getElem?_cons_succ, List.getElem?_cons_zero]; rfl)
    case hs5a => kernel_rfl
    case hf5a => kernel_rfl
    case hr5a => kernel_rfl
    case hQ5a => exact fun _ _ _ h => h
    case hy5a =>
      refine Or.inl ⟨rfl, ?_⟩
      intro W hSw
      obtain ⟨y1, y2, y3⟩ := hSw
      go_simp
      try with_reducible rfl
    case hS5a => assumption
    try simp only [Act.put, List.setIfInBounds_toArray, List.set_cons_zero, List.set_cons_succ]
    refine wpAnyH_take (i := 6) (oi := ?oi6a) (v := ?v6a) ?hi6a ?hs6a ?hf6a ?hr6a ?hQ6a ?hy6a ?hS6a ?h6a
    case hi6a => exact (by simp only [List.getElem?_toArray, List.getElem?_cons_succ, List.getElem?_cons_zero]; rfl)
    case hs6a => kernel_rfl
    case hf6a => kernel_rfl
    case hr6a => kernel_rfl
    case hQ6a => exact fun _ _ _ h => h
    case hy6a =>
      refine Or.inl ⟨rfl, ?_⟩
      intro W hSw
      obtain ⟨y1, y2, y3⟩ := hSw
      go_simp
      try with_reducible rfl
    case hS6a => assumption
    try simp only [Act.put, List.setIfInBounds_toArray, List.set_cons_zero, List.set_cons_succ]
    refine wpAnyH_take (i := 7) (oi := ?oi7a) (v := ?v7a) ?hi7a ?hs7a ?hf7a ?hr7a ?hQ7a ?hy7a ?hS7a ?h7a
    case hi7a => exact (by simp only [List.getElem?_toArray, List.getElem?_cons_succ, List.getElem?_cons_zero]; rfl)
    case hs7a => kernel_rfl
    case hf7a => kernel_rfl
    case hr7a => kernel_rfl
    case hQ7a => exact fun _ _ _ h => h
    case hy7a =>
      refine Or.inl ⟨rfl, ?_⟩
      intro W hSw
      obtain ⟨y1, y2, y3⟩ := hSw
      go_simp
      try with_reducible rfl
    case hS7a => assumption
    try simp only [Act.put, List.setIfInBounds_toArray, List.set_cons_zero, List.set_cons_succ]
    refine wpAnyH_take (i := 8) (oi := ?oi8a) (v := ?v8a) ?hi8a ?hs8a ?hf8a ?hr8a ?hQ8a ?hy8a ?hS8a ?h8a
    case hi8a => exact (by simp only [List.getElem?_toArray, List.getElem?_cons_succ, List.getElem?_cons_zero]; rfl)
    case hs8a => kernel_rfl
    case hf8a => kernel_rfl
    case hr8a => kernel_rfl
    case hQ8a => exact fun _ _ _ h => h
    case hy8a =>
      refine Or.inl ⟨rfl, ?_⟩
      intro W hSw
      obtain ⟨y1, y2, y3⟩ := hSw
      go_simp
      try with_reducible rfl
    case hS8a => assumption
    try simp only [Act.put, List.setIfInBounds_toArray, List.set_cons_zero, List.set_cons_succ]
    refine wpAnyH_take (i := 9) (oi := ?oi9a) (v := ?v9a) ?hi9a ?hs9a ?hf9a ?hr9a ?hQ9a ?hy9a ?hS9a ?h9a
    case hi9a => exact (by simp only [List.getElem?_toArray, List.getElem?_cons_succ, List.getElem?_cons_zero]; rfl)
    case hs9a => kernel_rfl
    case hf9a => kernel_rfl
    case hr9a => kernel_rfl
    case hQ9a => exact fun _ _ _ h => h
    case hy9a =>
      refine Or.inl ⟨rfl, ?_⟩
      intro W hSw
      obtain ⟨y1, y2, y3⟩ := hSw
      go_simp
      try with_reducible rfl
    case hS9a => assumption
    try simp only [Act.put, List.setIfInBounds_toArray, List.set_cons_zero, List.set_cons_succ]
    refine wpAnyH_ready (rs := [10]) (by kernel_rfl) (by simp) ?_
    refine AllReadyH.cons (o := _) rfl (fun K hK => ?_) AllReadyH.nil
    go_simp
    refine hK.out _ _ HSA.out (fun hHeld => ?_)
    clear hK K
    try simp only [Act.put, List.setIfInBounds_toArray, List.set_cons_zero, List.set_cons_succ]
    refine wpAnyH_ready (rs := [11]) (by kernel_rfl) (by simp) ?_
    refine AllReadyH.cons (o := _) rfl (fun K hK => ?_) AllReadyH.nil
    go_simp
    refine hK.out _ _ HSA.out (fun hHeld => ?_)
    clear hK K
    try simp only [Act.put, List.setIfInBounds_toArray, List.set_cons_zero, List.set_cons_succ]
    refine wpAnyH_ready (rs := [12]) (by kernel_rfl) (by simp) ?_
    refine AllReadyH.cons (o := _) rfl (fun K hK => ?_) AllReadyH.nil
    go_simp
    refine hK.out _ _ HSA.out (fun hHeld => ?_)
    clear hK K
    try simp only [Act.put, List.setIfInBounds_toArray, List.set_cons_zero, List.set_cons_succ]
    refine wpAnyH_done (by kernel_rfl) ?_ _
    try go_wp2_with fail
    go_meet
    exact ⟨rfl, HA⟩
  case rest =>
    rename World => w1
    obtain ⟨rfl, HB1⟩ := hcut
    obtain ⟨c1, c2, c3, c4, c5, c6⟩ := HCE.out w1 HB1.out
    go_wp2_with fail
    refine (HOL.out w1).mono ?_
    rintro e w2 ⟨rfl, hb2⟩
    have HB2 := Lib.hid (HB1.out.trans (hb2.mono HB1.out.size))
    clear hb2 c1 c2 c3 c4 c5 c6
    go_upto_region 8 with (fail)
    have HD2 := Lib.hid HB2.out.drew
    obtain ⟨c1, c2, c3, c4, c5, c6⟩ := HCE.out w2.drew HD2.out
    have hln := HLN.out w2.drew HD2.out
    go_cut [27] (fun v wx => v = .bool false ∧ w2.drew = wx)
    case first =>
      go_region_law fail
      all_goals
        try go_wp2_with fail
        go_meet
        exact ⟨rfl, rfl⟩
    case rest =>
      obtain ⟨rfl, rfl⟩ := hcut
      clear hln
      go_upto_region 10 with (fail)
      have HD3 := Lib.hid HD2.out.drew
      have HS : Hid ((fun W : World => W.cell? ⟨L, 1, none⟩ = some (.map (some M)) ∧ W.cell? ⟨w.heap.size, 0, none⟩ = some (.int .u64 (n : Int)) ∧ W.cell? ⟨w.heap.size, 1, none⟩ = some (.int .u32 (o : Int)) ∧ W.cell? ⟨w.heap.size, 2, none⟩ = some (.int .u32 (a : Int)) ∧ W.cell? ⟨w.heap.size, 3, none⟩ = some (.int .i64 x)) w2.drew.drew) := ⟨(HCE.out _ HD3.out).1, (HCE.out _ HD3.out).2.2⟩
      refine wp_region_held_drew (S := fun W : World => W.cell? ⟨L, 1, none⟩ = some (.map (some M)) ∧ W.cell? ⟨w.heap.size, 0, none⟩ = some (.int .u64 (n : Int)) ∧ W.cell? ⟨w.heap.size, 1, none⟩ = some (.int .u32 (o : Int)) ∧ W.cell? ⟨w.heap.size, 2, none⟩ = some (.int .u32 (a : Int)) ∧ W.cell? ⟨w.heap.size, 3, none⟩ = some (.int .i64 x)) (by kernel_rfl) HS.out (fun hHeld => ?_)
      obtain ⟨W0, hW0⟩ : ∃ W0, W0 = w2.drew.drew := ⟨_, rfl⟩
      have HD0 : Hid (Below w0.heap.size w0 W0) := by rw [hW0]; exact HD3.out
      rw [← hW0] at hHeld ⊢
      clear hW0 c1 c2 c3 c4 c5 c6
      obtain ⟨w', hrun, hown', hturn⟩ := HST.out W0 HD0.out
      have HOW := Lib.hid hown'
      have HG := Lib.hid hturn.grown
      have HC' : Hid ((fun W : World => W.cell? ⟨L, 1, none⟩ = some (.map (some M)) ∧ W.cell? ⟨w.heap.size, 0, none⟩ = some (.int .u64 (n : Int)) ∧ W.cell? ⟨w.heap.size, 1, none⟩ = some (.int .u32 (o : Int)) ∧ W.cell? ⟨w.heap.size, 2, none⟩ = some (.int .u32 (a : Int)) ∧ W.cell? ⟨w.heap.size, 3, none⟩ = some (.int .i64 x)) w') := by
        have hl0 := lt_of_block (HIL.out W0 HD0.out).1
        have hbx := World.block_lt_of_cell? W0 _ hHeld.2.1
        have hMb : M ≠ w.heap.size := fun e => by
          obtain ⟨es, clock, hm, _⟩ := (HIL.out W0 HD0.out).2
          have h1 := hHeld.2.1
          rw [← e] at h1
          unfold World.cell? at h1
          rw [hm] at h1
          cases h1
        have kL : ∀ i, w'.cell? ⟨L, i, none⟩ = W0.cell? ⟨L, i, none⟩ := fun i => by
          unfold World.cell?
          rw [HG.out.block L hl0 (fun e => by injection e with e; exact HLM.out e)]
        have kB : ∀ i, w'.cell? ⟨w.heap.size, i, none⟩ = W0.cell? ⟨w.heap.size, i, none⟩ := fun i => by
          unfold World.cell?
          rw [HG.out.block w.heap.size hbx (fun e => by injection e with e; exact hMb e.symm)]
        exact ⟨(kL 1).trans hHeld.1, (kB 0).trans hHeld.2.1, (kB 1).trans hHeld.2.2.1, (kB 2).trans hHeld.2.2.2.1, (kB 3).trans hHeld.2.2.2.2⟩
      have HL' : Hid (w'.heap[L]? = some (.cells #[.int .i64 most, .map (some M)] 90 (0, 0))) := (HG.out.block L (lt_of_block (HIL.out W0 HD0.out).1) (fun e => by injection e with e; exact HLM.out e)).trans (HIL.out W0 HD0.out).1
      clear hown' hturn
      refine wpAnyH_take (i := 0) (oi := ?oi0b) (v := ?v0b) ?hi0b ?hs0b ?hf0b ?hr0b ?hQ0b ?hy0b ?hS0b ?h0b
      case hi0b => exact (by simp only [List.getElem?_toArray, List.getElem?_cons_zero]; rfl)
      case hs0b => kernel_rfl
      case hf0b => kernel_rfl
      case hr0b => kernel_rfl
      case hQ0b => exact fun _ _ _ h => h
      case hy0b =>
        refine Or.inl ⟨rfl, ?_⟩
        intro W hSw
        obtain ⟨y1, y2, y3, y4, y5⟩ := hSw
        go_simp
        try with_reducible rfl
      case hS0b => assumption
      try simp only [Act.put, List.setIfInBounds_toArray, List.set_cons_zero, List.set_cons_succ]
      refine wpAnyH_take (i := 1) (oi := ?oi1b) (v := ?v1b) ?hi1b ?hs1b ?hf1b ?hr1b ?hQ1b ?hy1b ?hS1b ?h1b
      case hi1b => exact (by simp only [List.getElem?_toArray, List.getElem?_cons_succ, List.getElem?_cons_zero]; rfl)
      case hs1b => kernel_rfl
      case hf1b => kernel_rfl
      case hr1b => kernel_rfl
      case hQ1b => exact fun _ _ _ h => h
      case hy1b =>
        refine Or.inl ⟨rfl, ?_⟩
        intro W hSw
        obtain ⟨y1, y2, y3, y4, y5⟩ := hSw
        go_simp
        try with_reducible rfl
      case hS1b => assumption
      try simp only [Act.put, List.setIfInBounds_toArray, List.set_cons_zero, List.set_cons_succ]
      refine wpAnyH_take (i := 2) (oi := ?oi2b) (v := ?v2b) ?hi2b ?hs2b ?hf2b ?hr2b ?hQ2b ?hy2b ?hS2b ?h2b
      case hi2b => exact (by simp only [List.getElem?_toArray, List.getElem?_cons_succ, List.getElem?_cons_zero]; rfl)
      case hs2b => kernel_rfl
      case hf2b => kernel_rfl
      case hr2b => kernel_rfl
      case hQ2b => exact fun _ _ _ h => h
      case hy2b =>
        refine Or.inl ⟨rfl, ?_⟩
        intro W hSw
        obtain ⟨y1, y2, y3, y4, y5⟩ := hSw
        go_simp
        try with_reducible rfl
      case hS2b => assumption
      try simp only [Act.put, List.setIfInBounds_toArray, List.set_cons_zero, List.set_cons_succ]
      refine wpAnyH_take (i := 3) (oi := ?oi3b) (v := ?v3b) ?hi3b ?hs3b ?hf3b ?hr3b ?hQ3b ?hy3b ?hS3b ?h3b
      case hi3b => exact (by simp only [List.getElem?_toArray, List.getElem?_cons_succ, List.getElem?_cons_zero]; rfl)
      case hs3b => kernel_rfl
      case hf3b => kernel_rfl
      case hr3b => kernel_rfl
      case hQ3b => exact fun _ _ _ h => h
      case hy3b =>
        refine Or.inl ⟨rfl, ?_⟩
        intro W hSw
        obtain ⟨y1, y2, y3, y4, y5⟩ := hSw
        go_simp
        try with_reducible rfl
      case hS3b => assumption
      try simp only [Act.put, List.setIfInBounds_toArray, List.set_cons_zero, List.set_cons_succ]
      refine wpAnyH_take (i := 4) (oi := ?oi4b) (v := ?v4b) ?hi4b ?hs4b ?hf4b ?hr4b ?hQ4b ?hy4b ?hS4b ?h4b
      case hi4b => exact (by simp only [List.getElem?_toArray, List.getElem?_cons_succ, List.getElem?_cons_zero]; rfl)
      case hs4b => kernel_rfl
      case hf4b => kernel_rfl
      case hr4b => kernel_rfl
      case hQ4b => exact fun _ _ _ h => h
      case hy4b =>
        refine Or.inl ⟨rfl, ?_⟩
        intro W hSw
        obtain ⟨y1, y2, y3, y4, y5⟩ := hSw
        go_simp
        try with_reducible rfl
      case hS4b => assumption
      try simp only [Act.put, List.setIfInBounds_toArray, List.set_cons_zero, List.set_cons_succ]
      refine wpAnyH_take (i := 5) (oi := ?oi5b) (v := ?v5b) ?hi5b ?hs5b ?hf5b ?hr5b ?hQ5b ?hy5b ?hS5b ?h5b
      case hi5b => exact (by simp only [List.getElem?_toArray, List.getElem?_cons_succ, List.getElem?_cons_zero]; rfl)
      case hs5b => kernel_rfl
      case hf5b => kernel_rfl
      case hr5b => kernel_rfl
      case hQ5b => exact fun _ _ _ h => h
      case hy5b =>
        refine Or.inl ⟨rfl, ?_⟩
        intro W hSw
        obtain ⟨y1, y2, y3, y4, y5⟩ := hSw
        go_simp
        try with_reducible rfl
      case hS5b => assumption
      try simp only [Act.put, List.setIfInBounds_toArray, List.set_cons_zero, List.set_cons_succ]
      refine wpAnyH_take (i := 6) (oi := ?oi6b) (v := ?v6b) ?hi6b ?hs6b ?hf6b ?hr6b ?hQ6b ?hy6b ?hS6b ?h6b
      case hi6b => exact (by simp only [List.getElem?_toArray, List.getElem?_cons_succ, List.getElem?_cons_zero]; rfl)
      case hs6b => kernel_rfl
      case hf6b => kernel_rfl
      case hr6b => kernel_rfl
      case hQ6b => exact fun _ _ _ h => h
      case hy6b =>
        refine Or.inl ⟨rfl, ?_⟩
        intro W hSw
        obtain ⟨y1, y2, y3, y4, y5⟩ := hSw
        go_simp
        try with_reducible rfl
      case hS6b => assumption
      try simp only [Act.put, List.setIfInBounds_toArray, List.set_cons_zero, List.set_cons_succ]
      refine wpAnyH_ready (rs := [7]) (by kernel_rfl) (by simp) ?_
      refine AllReadyH.cons (o := _) rfl (fun K hK => ?_) AllReadyH.nil
      go_simp
      refine hK.out _ _ HC'.out (fun hHeld => ?_)
      clear hK K
      try simp only [Act.put, List.setIfInBounds_toArray, List.set_cons_zero, List.set_cons_succ]
      refine wpAnyH_done (by kernel_rfl) ?_ _
      go_wp2
      go_ret
      exact ⟨rfl, ⟨HL'.out, HOW.out⟩, ChM.of_grown (HB0.out.trans (HD0.out.mono HB0.out.size)) HG.out⟩
end Go.Proofs.Yticegnbdpihdpaa
