/- Rack: slices.Delete of one thing, at numbers and at things; Clone, Ids. -/
import Derived.Test.YtemjmnpclknfaaaGreatT8
import Derived.ArgAppend
import Derived.Lib.SliceRun
namespace Go.Proofs.YtemjmnpclknfaaaGreat.T
open Go.RowKit
open Go.Proofs.YtemjmnpclknfaaaGreat.P (Sl un)
set_option maxRecDepth 20000

/-- One step of a region that draws: an append whose run is known. -/
theorem step_append_run {ops : Array Oper} {o : Oper} {a : Act} {w : World} {K : Act → World → Prop} {Q : Exit → Act → World → Prop} {E : Prop}
    (hg : o.guard = none) (d x : Operand) (dT sT : TypeId) (hop : o.op = Op.call { callee := Callee.builtin Builtin.append, args := #[d, x], argTypes := #[dT, sT] })
    (v u : Value) (hd : a.eval d = v) (hx : a.eval x = u) {v' : Value} {w' : World} (hr : (Builtin.append_ #[dT, sT] o.type #[v, u]).run Tryz.prog w = .ok v' w') (hK : K (a.put o.dst v') w') :
    if Region.wanted o (yielded ops a.tmps) = true then Oper.wp Tryz.prog o a w K Q else E := by
  have hw : Region.wanted o (yielded ops a.tmps) = true := by simp [Region.wanted, hg]
  rw [if_pos hw]
  unfold Oper.wp
  simp [execOp, hop, resolve, invoke, builtin, hd, hx, hr, Result.andThen]
  exact hK
theorem cutout (cur xs : List Value) (z : Value) (p n : Nat) (hp : p < n) (hn : n ≤ cur.length) (hx : cur.take n = xs) (hxl : xs.length = n) :
    (((cur.take p ++ xs.drop (p + 1) ++ cur.drop (p + (xs.drop (p + 1)).length)).take (n - 1) ++ [z] ++ (cur.take p ++ xs.drop (p + 1) ++ cur.drop (p + (xs.drop (p + 1)).length)).drop (n - 1 + [z].length)).take (n - 1)) = xs.take p ++ xs.drop (p + 1) := by
  have hd : (xs.drop (p + 1)).length = n - (p + 1) := by rw [List.length_drop, hxl]
  have h1 : (cur.take p ++ xs.drop (p + 1)).length = n - 1 := by rw [List.length_append, List.length_take, hd]; omega
  have h2 : (cur.take p ++ xs.drop (p + 1) ++ cur.drop (p + (xs.drop (p + 1)).length)).take (n - 1) = cur.take p ++ xs.drop (p + 1) := by rw [← h1, List.take_left]
  have h3 : cur.take p = xs.take p := by rw [← hx, List.take_take, show min p n = p by omega]
  rw [h2, List.append_assoc, List.take_append_of_le_length (by omega), ← h1, List.take_length, h3]

theorem zero36d (w : World) : (zeroValue 33).run Tryz.prog w = .ok (.int .u32 0) w := by kernel_rfl
set_option linter.unusedSimpArgs false in
set_option maxHeartbeats 8000000 in
theorem del32_row (base n p g cap : Nat) (cur : Array Value) (xs : List Value) (w : World) (hp : p < n) (hl : n ≤ 1000) (hbg : base ≤ g) (hh : w.heap[g]? = some (.cells cur 33 (0, 0))) (hnc : n ≤ cap) (hcm : cap ≤ maxLen) (hcs : cur.size = cap) (ht : cur.toList.take n = xs) (h1 : ∀ x ∈ xs, x.oneCell' = true) :
    Calls Tryz.prog 50 #[.slice (some ⟨g, 0, none⟩) n cap, .int .i64 (p : Int), .int .i64 ((p : Int) + 1)] w fun r w' => r = .returned (.slice (some ⟨g, 0, none⟩) (n - 1) cap) ∧ w'.ownsRow base 33 1 (.slice (some ⟨g, 0, none⟩) (n - 1) cap) (n - 1) (xs.take p ++ xs.drop (p + 1)) ∧ w.grownBy w' (some g) := by
  obtain ⟨i0, hi0, hz0, hzz, hz2⟩ := info_parts info26
  have hxl : xs.length = n := by rw [← ht, List.length_take, Array.length_toList]; omega
  have hdl : (xs.drop (p + 1)).length = n - (p + 1) := by rw [List.length_drop, hxl]
  have hxc : ∀ j v, xs[j]? = some v → w.cell? ⟨g, j, none⟩ = some v := fun j v hj => by
    rw [cell_of_row w g j _ _ _ hh, ← hj, ← ht, List.getElem?_take, Array.getElem?_toList]
    split
    · rfl
    · have := (List.getElem?_eq_some_iff.1 hj).1
      omega
  have hap : ∀ (ad : Addr) (ty c : Nat), (n - (p + 1) = 0 ∨ ad = ⟨g, p + 1, none⟩) → (Builtin.append_ #[34, 34] ty #[.slice (some ⟨g, 0, none⟩) p cap, .slice (some ad) (n - (p + 1)) c]).run Tryz.prog w.drew = .ok (.slice (some ⟨g, 0, none⟩) (n - 1) cap) (w.drew.setCells g p (xs.drop (p + 1))) := fun ad ty c had => by
    have h := run_append_room_cells (P := Tryz.prog) (w := w.drew) 34 ty 33 i0 Tryz.underlying34 hi0 g 0 p cap ad (n - (p + 1)) c (xs.drop (p + 1)) (by rw [hdl, hzz, Nat.mul_one]) (fun j u hu => by
      rcases had with h0 | rfl
      · have := (List.getElem?_eq_some_iff.1 hu).1
        omega
      · rw [Addr.add_lit]
        rw [List.getElem?_drop] at hu
        exact hxc _ u hu) (fun u hu => h1 u (List.mem_of_mem_drop hu)) (by omega) (fun j hj => by
        rw [cell_of_row w.drew g _ _ _ _ hh, hzz, Array.getElem?_eq_getElem (by omega)]
        rfl) (fun j _ => frozen_of_row w.drew _ _ _ _ hh)
    rw [hzz, Nat.mul_one, Nat.zero_add, show p + (n - (p + 1)) = n - 1 by omega] at h
    exact h
  obtain ⟨W1, hW1⟩ : ∃ W1, W1 = w.drew.setCells g p (xs.drop (p + 1)) := ⟨_, rfl⟩
  obtain ⟨L1, hL1⟩ : ∃ L1, L1 = cur.toList.take p ++ xs.drop (p + 1) ++ cur.toList.drop (p + (xs.drop (p + 1)).length) := ⟨_, rfl⟩
  have hll : L1.length = cap := by rw [hL1]; simp [hdl]; omega
  have hrow1 : W1.heap[g]? = some (.cells L1.toArray 33 (0, 0)) := by rw [hW1, hL1]; exact setCells_row g 33 (xs.drop (p + 1)) p w.drew cur hh (by omega)
  have hclr : ∀ ty c, (Builtin.clear_ #[34] ty #[.slice (some ⟨g, n - 1, none⟩) 1 c]).run Tryz.prog W1 = .ok (.tuple #[]) (W1.setCells g (n - 1) [(.int .u32 0 : Value)]) := fun ty c =>
    Lib.run_clear_slice W1 34 33 ty (.int .u32 0) Tryz.underlying34 zero36d rfl rfl g (n - 1) 1 c (by omega) (fun j hj => by
      rw [cell_of_row W1 g _ _ _ _ hrow1, Array.getElem?_eq_getElem (by rw [List.size_toArray]; omega)]
      rfl) (fun j _ => frozen_of_row W1 _ _ _ _ hrow1)
  have hfin : (W1.setCells g (n - 1) [(.int .u32 0 : Value)]).heap[g]? = some (.cells (L1.take (n - 1) ++ [(.int .u32 0 : Value)] ++ L1.drop (n - 1 + [(.int .u32 0 : Value)].length)).toArray 33 (0, 0)) := setCells_row g 33 [(.int .u32 0 : Value)] (n - 1) W1 _ hrow1 (by rw [List.size_toArray]; simp; omega)
  have hOW : (W1.setCells g (n - 1) [(.int .u32 0 : Value)]).ownsRow base 33 1 (.slice (some ⟨g, 0, none⟩) (n - 1) cap) (n - 1) (xs.take p ++ xs.drop (p + 1)) := by
    refine ⟨?_, .inr ⟨g, cap, _, rfl, hbg, hfin, by omega, hcm, ?_, ?_⟩⟩
    · rw [List.length_append, List.length_take, hdl, hxl]
      omega
    · simp
      omega
    · rw [Nat.mul_one]
      show (L1.take (n - 1) ++ [(.int .u32 0 : Value)] ++ L1.drop (n - 1 + [(.int .u32 0 : Value)].length)).take (n - 1) = _
      rw [hL1]
      exact cutout cur.toList xs _ p n hp (by rw [Array.length_toList]; omega) ht hxl
  have hGR : w.grownBy (W1.setCells g (n - 1) [(.int .u32 0 : Value)]) (some g) := by
    refine grown_trans ?_ (setCells_grown g _ _ W1)
    rw [hW1]
    exact grown_trans (drew_grown (World.grownBy.refl w _)) (setCells_grown g _ _ _)
  have HOW := Lib.hid hOW
  have HGR := Lib.hid hGR
  rw [← hW1] at hap
  have hq1 : IntKind.i64.wrap ((p : Int) + 1) = (p : Int) + 1 := by rw [IntKind.wrap_i64]; omega
  have hb1 : (0 : Int) ≤ (p : Int) + 1 := by omega
  have hb2 : (p : Int) + 1 ≤ (n : Int) := by omega
  have hb3 : (p : Int) ≤ (p : Int) + 1 := by omega
  have htn : ((p : Int) + 1).toNat = p + 1 := by omega
  have hne : ¬((p : Int) = (p : Int) + 1) := by omega
  have hb4 : (p : Int) ≤ (cap : Int) := by omega
  have hb5 : ((n - 1 : Nat) : Int) = (n : Int) - 1 := by omega
  have hb6 : ¬(cap = n - 1) := by omega
  have hb7 : n - (n - 1) = 1 := by omega
  by_cases hcp : cap = p + 1
  · have hap1 := hap ⟨g, 0, none⟩ 34 0 (.inl (by omega))
    have hn0 : n - (p + 1) = 0 := by omega
    rw [hn0] at hap1
    have hnp : n = p + 1 := by omega
    subst hcp
    subst hnp
    rw [Nat.add_sub_cancel] at hclr HOW HGR hap1
    clear hxl hdl hxc hrow1 hfin hOW hGR hh hcs ht h1 hW1 hL1 hll
    go_enter Tryz.func50, Tryz.ntmps50
    go_upto_region 5 with (fail)
    refine wp_region_held_drew (S := fun _ : World => True) (by kernel_rfl) trivial (fun hHeld => ?_)
    refine wpAnyH_take (i := 0) (oi := ?oi0a) (v := ?v0a) ?hi0a ?hs0a ?hf0a ?hr0a ?hQ0a ?hy0a ?hS0a ?h0a
    case hi0a => exact (by simp only [List.getElem?_toArray, List.getElem?_cons_zero]; rfl)
    case hs0a => kernel_rfl
    case hf0a => kernel_rfl
    case hr0a => kernel_rfl
    case hQ0a => exact fun _ _ _ h => h
    case hy0a =>
      refine Or.inl ⟨rfl, ?_⟩
      intro W _
      go_simp
      try with_reducible rfl
    case hS0a => assumption
    try simp only [Act.put, List.setIfInBounds_toArray, List.set_cons_zero, List.set_cons_succ]
    refine wpAnyH_take (i := 1) (oi := ?oi1a) (v := ?v1a) ?hi1a ?hs1a ?hf1a ?hr1a ?hQ1a ?hy1a ?hS1a ?h1a
    case hi1a => exact (by simp only [List.getElem?_toArray, List.getElem?_cons_succ, List.getElem?_cons_zero]; rfl)
    case hs1a => kernel_rfl
    case hf1a => kernel_rfl
    case hr1a => kernel_rfl
    case hQ1a => exact fun _ _ _ h => h
    case hy1a =>
      refine Or.inl ⟨rfl, ?_⟩
      intro W _
      go_simp
      try with_reducible rfl
    case hS1a => assumption
    try simp only [Act.put, List.setIfInBounds_toArray, List.set_cons_zero, List.set_cons_succ]
    refine wpAnyH_take (i := 2) (oi := ?oi2a) (v := ?v2a) ?hi2a ?hs2a ?hf2a ?hr2a ?hQ2a ?hy2a ?hS2a ?h2a
    case hi2a => exact (by simp only [List.getElem?_toArray, List.getElem?_cons_succ, List.getElem?_cons_zero]; rfl)
    case hs2a => kernel_rfl
    case hf2a => kernel_rfl
    case hr2a => kernel_rfl
    case hQ2a => exact fun _ _ _ h => h
    case hy2a =>
      refine Or.inl ⟨rfl, ?_⟩
      intro W _
      go_simp
      try with_reducible rfl
    case hS2a => assumption
    try simp only [Act.put, List.setIfInBounds_toArray, List.set_cons_zero, List.set_cons_succ]
    refine wpAnyH_take (i := 3) (oi := ?oi3a) (v := ?v3a) ?hi3a ?hs3a ?hf3a ?hr3a ?hQ3a ?hy3a ?hS3a ?h3a
    case hi3a => exact (by simp only [List.getElem?_toArray, List.getElem?_cons_succ, List.getElem?_cons_zero]; rfl)
    case hs3a => kernel_rfl
    case hf3a => kernel_rfl
    case hr3a => kernel_rfl
    case hQ3a => exact fun _ _ _ h => h
    case hy3a =>
      refine Or.inl ⟨rfl, ?_⟩
      intro W _
      go_simp
      try with_reducible rfl
    case hS3a => assumption
    try simp only [Act.put, List.setIfInBounds_toArray, List.set_cons_zero, List.set_cons_succ]
    refine wpAnyH_take (i := 4) (oi := ?oi4a) (v := ?v4a) ?hi4a ?hs4a ?hf4a ?hr4a ?hQ4a ?hy4a ?hS4a ?h4a
    case hi4a => exact (by simp only [List.getElem?_toArray, List.getElem?_cons_succ, List.getElem?_cons_zero]; rfl)
    case hs4a => kernel_rfl
    case hf4a => kernel_rfl
    case hr4a => kernel_rfl
    case hQ4a => exact fun _ _ _ h => h
    case hy4a =>
      refine Or.inl ⟨rfl, ?_⟩
      intro W _
      go_simp
      try with_reducible rfl
    case hS4a => assumption
    try simp only [Act.put, List.setIfInBounds_toArray, List.set_cons_zero, List.set_cons_succ]
    refine wpAnyH_take (i := 5) (oi := ?oi5a) (v := ?v5a) ?hi5a ?hs5a ?hf5a ?hr5a ?hQ5a ?hy5a ?hS5a ?h5a
    case hi5a => exact (by simp only [List.getElem?_toArray, List.getElem?_cons_succ, List.getElem?_cons_zero]; rfl)
    case hs5a => kernel_rfl
    case hf5a => kernel_rfl
    case hr5a => kernel_rfl
    case hQ5a => exact fun _ _ _ h => h
    case hy5a =>
      refine Or.inl ⟨rfl, ?_⟩
      intro W _
      go_simp
      try with_reducible rfl
    case hS5a => assumption
    try simp only [Act.put, List.setIfInBounds_toArray, List.set_cons_zero, List.set_cons_succ]
    refine wpAnyH_ready (rs := [6]) (by kernel_rfl) (by simp) ?_
    refine AllReadyH.cons (o := _) rfl (fun K hK => ?_) AllReadyH.nil
    refine step_append_run rfl _ _ 34 34 rfl _ _ rfl rfl hap1 ?_
    refine hK.out _ _ trivial (fun hHeld => ?_)
    clear hK K
    try simp only [Act.put, List.setIfInBounds_toArray, List.set_cons_zero, List.set_cons_succ]
    refine wpAnyH_take (i := 7) (oi := ?oi7a) (v := ?v7a) ?hi7a ?hs7a ?hf7a ?hr7a ?hQ7a ?hy7a ?hS7a ?h7a
    case hi7a => exact (by simp only [List.getElem?_toArray, List.getElem?_cons_succ, List.getElem?_cons_zero]; rfl)
    case hs7a => kernel_rfl
    case hf7a => kernel_rfl
    case hr7a => kernel_rfl
    case hQ7a => exact fun _ _ _ h => h
    case hy7a =>
      refine Or.inl ⟨rfl, ?_⟩
      intro W _
      go_simp
      try with_reducible rfl
    case hS7a => assumption
    try simp only [Act.put, List.setIfInBounds_toArray, List.set_cons_zero, List.set_cons_succ]
    refine wpAnyH_done (by kernel_rfl) ?_ _
    go_wp2
    go_ret
    exact ⟨rfl, HOW.out, HGR.out⟩
  · have hap1 := hap ⟨g, p + 1, none⟩ 34 (cap - (p + 1)) (.inr rfl)
    clear hxl hdl hxc hrow1 hfin hOW hGR hh hcs ht h1 hW1 hL1 hll
    go_enter Tryz.func50, Tryz.ntmps50
    go_upto_region 5 with (fail)
    refine wp_region_held_drew (S := fun _ : World => True) (by kernel_rfl) trivial (fun hHeld => ?_)
    refine wpAnyH_take (i := 0) (oi := ?oi0b) (v := ?v0b) ?hi0b ?hs0b ?hf0b ?hr0b ?hQ0b ?hy0b ?hS0b ?h0b
    case hi0b => exact (by simp only [List.getElem?_toArray, List.getElem?_cons_zero]; rfl)
    case hs0b => kernel_rfl
    case hf0b => kernel_rfl
    case hr0b => kernel_rfl
    case hQ0b => exact fun _ _ _ h => h
    case hy0b =>
      refine Or.inl ⟨rfl, ?_⟩
      intro W _
      go_simp
      try with_reducible rfl
    case hS0b => assumption
    try simp only [Act.put, List.setIfInBounds_toArray, List.set_cons_zero, List.set_cons_succ]
    refine wpAnyH_take (i := 1) (oi := ?oi1b) (v := ?v1b) ?hi1b ?hs1b ?hf1b ?hr1b ?hQ1b ?hy1b ?hS1b ?h1b
    case hi1b => exact (by simp only [List.getElem?_toArray, List.getElem?_cons_succ, List.getElem?_cons_zero]; rfl)
    case hs1b => kernel_rfl
    case hf1b => kernel_rfl
    case hr1b => kernel_rfl
    case hQ1b => exact fun _ _ _ h => h
    case hy1b =>
      refine Or.inl ⟨rfl, ?_⟩
      intro W _
      go_simp
      try with_reducible rfl
    case hS1b => assumption
    try simp only [Act.put, List.setIfInBounds_toArray, List.set_cons_zero, List.set_cons_succ]
    refine wpAnyH_take (i := 2) (oi := ?oi2b) (v := ?v2b) ?hi2b ?hs2b ?hf2b ?hr2b ?hQ2b ?hy2b ?hS2b ?h2b
    case hi2b => exact (by simp only [List.getElem?_toArray, List.getElem?_cons_succ, List.getElem?_cons_zero]; rfl)
    case hs2b => kernel_rfl
    case hf2b => kernel_rfl
    case hr2b => kernel_rfl
    case hQ2b => exact fun _ _ _ h => h
    case hy2b =>
      refine Or.inl ⟨rfl, ?_⟩
      intro W _
      go_simp
      try with_reducible rfl
    case hS2b => assumption
    try simp only [Act.put, List.setIfInBounds_toArray, List.set_cons_zero, List.set_cons_succ]
    refine wpAnyH_take (i := 3) (oi := ?oi3b) (v := ?v3b) ?hi3b ?hs3b ?hf3b ?hr3b ?hQ3b ?hy3b ?hS3b ?h3b
    case hi3b => exact (by simp only [List.getElem?_toArray, List.getElem?_cons_succ, List.getElem?_cons_zero]; rfl)
    case hs3b => kernel_rfl
    case hf3b => kernel_rfl
    case hr3b => kernel_rfl
    case hQ3b => exact fun _ _ _ h => h
    case hy3b =>
      refine Or.inl ⟨rfl, ?_⟩
      intro W _
      go_simp
      try with_reducible rfl
    case hS3b => assumption
    try simp only [Act.put, List.setIfInBounds_toArray, List.set_cons_zero, List.set_cons_succ]
    refine wpAnyH_take (i := 4) (oi := ?oi4b) (v := ?v4b) ?hi4b ?hs4b ?hf4b ?hr4b ?hQ4b ?hy4b ?hS4b ?h4b
    case hi4b => exact (by simp only [List.getElem?_toArray, List.getElem?_cons_succ, List.getElem?_cons_zero]; rfl)
    case hs4b => kernel_rfl
    case hf4b => kernel_rfl
    case hr4b => kernel_rfl
    case hQ4b => exact fun _ _ _ h => h
    case hy4b =>
      refine Or.inl ⟨rfl, ?_⟩
      intro W _
      go_simp
      try with_reducible rfl
    case hS4b => assumption
    try simp only [Act.put, List.setIfInBounds_toArray, List.set_cons_zero, List.set_cons_succ]
    refine wpAnyH_take (i := 5) (oi := ?oi5b) (v := ?v5b) ?hi5b ?hs5b ?hf5b ?hr5b ?hQ5b ?hy5b ?hS5b ?h5b
    case hi5b => exact (by simp only [List.getElem?_toArray, List.getElem?_cons_succ, List.getElem?_cons_zero]; rfl)
    case hs5b => kernel_rfl
    case hf5b => kernel_rfl
    case hr5b => kernel_rfl
    case hQ5b => exact fun _ _ _ h => h
    case hy5b =>
      refine Or.inl ⟨rfl, ?_⟩
      intro W _
      go_simp
      try with_reducible rfl
    case hS5b => assumption
    try simp only [Act.put, List.setIfInBounds_toArray, List.set_cons_zero, List.set_cons_succ]
    refine wpAnyH_ready (rs := [6]) (by kernel_rfl) (by simp) ?_
    refine AllReadyH.cons (o := _) rfl (fun K hK => ?_) AllReadyH.nil
    refine step_append_run rfl _ _ 34 34 rfl _ _ rfl rfl hap1 ?_
    refine hK.out _ _ trivial (fun hHeld => ?_)
    clear hK K
    try simp only [Act.put, List.setIfInBounds_toArray, List.set_cons_zero, List.set_cons_succ]
    refine wpAnyH_take (i := 7) (oi := ?oi7b) (v := ?v7b) ?hi7b ?hs7b ?hf7b ?hr7b ?hQ7b ?hy7b ?hS7b ?h7b
    case hi7b => exact (by simp only [List.getElem?_toArray, List.getElem?_cons_succ, List.getElem?_cons_zero]; rfl)
    case hs7b => kernel_rfl
    case hf7b => kernel_rfl
    case hr7b => kernel_rfl
    case hQ7b => exact fun _ _ _ h => h
    case hy7b =>
      refine Or.inl ⟨rfl, ?_⟩
      intro W _
      go_simp
      try with_reducible rfl
    case hS7b => assumption
    try simp only [Act.put, List.setIfInBounds_toArray, List.set_cons_zero, List.set_cons_succ]
    refine wpAnyH_done (by kernel_rfl) ?_ _
    go_wp2
    go_ret
    exact ⟨rfl, HOW.out, HGR.out⟩

theorem cutoutK (cur xs zs : List Value) (a b m q : Nat) (hab : a ≤ b) (hbm : b ≤ m) (hm : m ≤ cur.length) (hq : q = a + (m - b)) (hx : cur.take m = xs) (hxl : xs.length = m) :
    (((cur.take a ++ xs.drop b ++ cur.drop (a + (xs.drop b).length)).take q ++ zs ++ (cur.take a ++ xs.drop b ++ cur.drop (a + (xs.drop b).length)).drop (q + zs.length)).take q) = xs.take a ++ xs.drop b := by
  have hd : (xs.drop b).length = m - b := by rw [List.length_drop, hxl]
  have h1 : (cur.take a ++ xs.drop b).length = q := by rw [List.length_append, List.length_take, hd]; omega
  have h2 : (cur.take a ++ xs.drop b ++ cur.drop (a + (xs.drop b).length)).take q = cur.take a ++ xs.drop b := by rw [← h1, List.take_left]
  have h3 : cur.take a = xs.take a := by rw [← hx, List.take_take, show min a m = a by omega]
  rw [h2, List.append_assoc, List.take_append_of_le_length (by omega), ← h1, List.take_length, h3]
theorem run_clear_one {P : Program} (w : World) (t e ty : TypeId) (z : Value) (zs : List Value) (ht : P.underlying t = some (.slice e)) (hv : (zeroValue e).run P w = .ok z w) (hz : (Builtin.zeroCells z.cells 1).toList = zs) (h1 : ∀ v ∈ zs, v.oneCell' = true) (b o c : Nat)
    (hc : ∀ j, j < zs.length → (w.cell? ⟨b, o + j, none⟩).isSome = true) (hf : ∀ j, j < zs.length → w.frozen? ⟨b, o + j, none⟩ = false) :
    (Builtin.clear_ #[t] ty #[.slice (some ⟨b, o, none⟩) 1 c]).run P w = .ok (.tuple #[]) (w.setCells b o zs) := by
  have hst := run_storeCells_cells (P := P) b o zs 0 w (by simpa using hc) (by simpa using hf) h1
  simp only [Nat.add_zero] at hst
  simp [Builtin.clear_, run_underlying ht, hv, hz, hst]
def zK : List Value := [.int .u32 0, .int .i64 0, .slice none 0 0, .int .i64 0, .int .i64 0]
theorem zero39d (w : World) : (zeroValue 39).run Tryz.prog w = .ok (.agg #[.int .u32 0, .int .i64 0, .slice none 0 0, .int .i64 0, .int .i64 0]) w := by kernel_rfl
theorem zeroK : (Builtin.zeroCells (Value.agg #[.int .u32 0, .int .i64 0, .slice none 0 0, .int .i64 0, .int .i64 0]).cells 1).toList = zK := by first | kernel_rfl | decide | simp [Builtin.zeroCells, Value.cells, zK]
set_option linter.unusedSimpArgs false in
set_option maxHeartbeats 8000000 in
theorem delM_row (base n p g cap : Nat) (cur : Array Value) (xs : List Value) (w : World) (hp : p < n) (hl : n ≤ 1000) (hbg : base ≤ g) (hh : w.heap[g]? = some (.cells cur 39 (0, 0))) (hnc : n ≤ cap) (hcm : cap ≤ maxLen) (hcs : cur.size = cap * 5) (ht : cur.toList.take (n * 5) = xs) (h1 : ∀ x ∈ xs, x.oneCell' = true) :
    Calls Tryz.prog 51 #[.slice (some ⟨g, 0, none⟩) n cap, .int .i64 (p : Int), .int .i64 ((p : Int) + 1)] w fun r w' => r = .returned (.slice (some ⟨g, 0, none⟩) (n - 1) cap) ∧ w'.ownsRow base 39 5 (.slice (some ⟨g, 0, none⟩) (n - 1) cap) (n - 1) (xs.take (p * 5) ++ xs.drop ((p + 1) * 5)) ∧ w.grownBy w' (some g) := by
  obtain ⟨i0, hi0, hz0, hzz, hz2⟩ := info_parts info72
  have hzl : zK.length = 5 := rfl
  have hxl : xs.length = n * 5 := by rw [← ht, List.length_take, Array.length_toList]; omega
  have hdl : (xs.drop ((p + 1) * 5)).length = (n - (p + 1)) * 5 := by rw [List.length_drop, hxl]; omega
  have hxc : ∀ j v, xs[j]? = some v → w.cell? ⟨g, j, none⟩ = some v := fun j v hj => by
    rw [cell_of_row w g j _ _ _ hh, ← hj, ← ht, List.getElem?_take, Array.getElem?_toList]
    split
    · rfl
    · have := (List.getElem?_eq_some_iff.1 hj).1
      omega
  have hap : ∀ (ad : Addr) (ty c : Nat), (n - (p + 1) = 0 ∨ ad = ⟨g, (p + 1) * 5, none⟩) → (Builtin.append_ #[59, 59] ty #[.slice (some ⟨g, 0, none⟩) p cap, .slice (some ad) (n - (p + 1)) c]).run Tryz.prog w.drew = .ok (.slice (some ⟨g, 0, none⟩) (n - 1) cap) (w.drew.setCells g (p * 5) (xs.drop ((p + 1) * 5))) := fun ad ty c had => by
    have h := run_append_room_cells (P := Tryz.prog) (w := w.drew) 59 ty 39 i0 Tryz.underlying59 hi0 g 0 p cap ad (n - (p + 1)) c (xs.drop ((p + 1) * 5)) (by rw [hdl, hzz]) (fun j u hu => by
      rcases had with h0 | rfl
      · have := (List.getElem?_eq_some_iff.1 hu).1
        omega
      · rw [Addr.add_lit]
        rw [List.getElem?_drop] at hu
        exact hxc _ u hu) (fun u hu => h1 u (List.mem_of_mem_drop hu)) (by omega) (fun j hj => by
        rw [cell_of_row w.drew g _ _ _ _ hh, hzz, Array.getElem?_eq_getElem (by omega)]
        rfl) (fun j _ => frozen_of_row w.drew _ _ _ _ hh)
    rw [hzz, Nat.zero_add, show p + (n - (p + 1)) = n - 1 by omega] at h
    exact h
  obtain ⟨W1, hW1⟩ : ∃ W1, W1 = w.drew.setCells g (p * 5) (xs.drop ((p + 1) * 5)) := ⟨_, rfl⟩
  obtain ⟨L1, hL1⟩ : ∃ L1, L1 = cur.toList.take (p * 5) ++ xs.drop ((p + 1) * 5) ++ cur.toList.drop (p * 5 + (xs.drop ((p + 1) * 5)).length) := ⟨_, rfl⟩
  have hll : L1.length = cap * 5 := by rw [hL1]; simp [hdl]; omega
  have hrow1 : W1.heap[g]? = some (.cells L1.toArray 39 (0, 0)) := by rw [hW1, hL1]; exact setCells_row g 39 (xs.drop ((p + 1) * 5)) (p * 5) w.drew cur hh (by omega)
  have hclr : ∀ ty c, (Builtin.clear_ #[59] ty #[.slice (some ⟨g, (n - 1) * 5, none⟩) 1 c]).run Tryz.prog W1 = .ok (.tuple #[]) (W1.setCells g ((n - 1) * 5) zK) := fun ty c =>
    run_clear_one W1 59 39 ty _ zK Tryz.underlying59 (zero39d W1) zeroK (by decide) g ((n - 1) * 5) c (fun j hj => by
      rw [cell_of_row W1 g _ _ _ _ hrow1, Array.getElem?_eq_getElem (by rw [List.size_toArray]; omega)]
      rfl) (fun j _ => frozen_of_row W1 _ _ _ _ hrow1)
  have hfin : (W1.setCells g ((n - 1) * 5) zK).heap[g]? = some (.cells (L1.take ((n - 1) * 5) ++ zK ++ L1.drop ((n - 1) * 5 + zK.length)).toArray 39 (0, 0)) := setCells_row g 39 zK ((n - 1) * 5) W1 _ hrow1 (by rw [List.size_toArray]; simp [zK]; omega)
  have hOW : (W1.setCells g ((n - 1) * 5) zK).ownsRow base 39 5 (.slice (some ⟨g, 0, none⟩) (n - 1) cap) (n - 1) (xs.take (p * 5) ++ xs.drop ((p + 1) * 5)) := by
    refine ⟨?_, .inr ⟨g, cap, _, rfl, hbg, hfin, by omega, hcm, ?_, ?_⟩⟩
    · rw [List.length_append, List.length_take, hdl, hxl]
      omega
    · simp [zK]
      omega
    · show (L1.take ((n - 1) * 5) ++ zK ++ L1.drop ((n - 1) * 5 + zK.length)).take ((n - 1) * 5) = _
      rw [hL1]
      exact cutoutK cur.toList xs _ (p * 5) ((p + 1) * 5) (n * 5) ((n - 1) * 5) (by omega) (by omega) (by rw [Array.length_toList]; omega) (by omega) ht hxl
  have hGR : w.grownBy (W1.setCells g ((n - 1) * 5) zK) (some g) := by
    refine grown_trans ?_ (setCells_grown g _ _ W1)
    rw [hW1]
    exact grown_trans (drew_grown (World.grownBy.refl w _)) (setCells_grown g _ _ _)
  have HOW := Lib.hid hOW
  have HGR := Lib.hid hGR
  rw [← hW1] at hap
  have hq1 : IntKind.i64.wrap ((p : Int) + 1) = (p : Int) + 1 := by rw [IntKind.wrap_i64]; omega
  have hb1 : (0 : Int) ≤ (p : Int) + 1 := by omega
  have hb2 : (p : Int) + 1 ≤ (n : Int) := by omega
  have hb3 : (p : Int) ≤ (p : Int) + 1 := by omega
  have htn : ((p : Int) + 1).toNat = p + 1 := by omega
  have hne : ¬((p : Int) = (p : Int) + 1) := by omega
  have hb4 : (p : Int) ≤ (cap : Int) := by omega
  have hb5 : ((n - 1 : Nat) : Int) = (n : Int) - 1 := by omega
  have hb6 : ¬(cap = n - 1) := by omega
  have hb7 : n - (n - 1) = 1 := by omega
  by_cases hcp : cap = p + 1
  · have hap1 := hap ⟨g, 0, none⟩ 59 0 (.inl (by omega))
    have hn0 : n - (p + 1) = 0 := by omega
    rw [hn0] at hap1
    have hnp : n = p + 1 := by omega
    subst hcp
    subst hnp
    rw [Nat.add_sub_cancel] at hclr HOW HGR hap1
    clear hxl hdl hxc hrow1 hfin hOW hGR hh hcs ht h1 hW1 hL1 hll
    go_enter Tryz.func51, Tryz.ntmps51
    go_upto_region 5 with (fail)
    refine wp_region_held_drew (S := fun _ : World => True) (by kernel_rfl) trivial (fun hHeld => ?_)
    refine wpAnyH_take (i := 0) (oi := ?oi0a) (v := ?v0a) ?hi0a ?hs0a ?hf0a ?hr0a ?hQ0a ?hy0a ?hS0a ?h0a
    case hi0a => exact (by simp only [List.getElem?_toArray, List.getElem?_cons_zero]; rfl)
    case hs0a => kernel_rfl
    case hf0a => kernel_rfl
    case hr0a => kernel_rfl
    case hQ0a => exact fun _ _ _ h => h
    case hy0a =>
      refine Or.inl ⟨rfl, ?_⟩
      intro W _
      go_simp
      try with_reducible rfl
    case hS0a => assumption
    try simp only [Act.put, List.setIfInBounds_toArray, List.set_cons_zero, List.set_cons_succ]
    refine wpAnyH_take (i := 1) (oi := ?oi1a) (v := ?v1a) ?hi1a ?hs1a ?hf1a ?hr1a ?hQ1a ?hy1a ?hS1a ?h1a
    case hi1a => exact (by simp only [List.getElem?_toArray, List.getElem?_cons_succ, List.getElem?_cons_zero]; rfl)
    case hs1a => kernel_rfl
    case hf1a => kernel_rfl
    case hr1a => kernel_rfl
    case hQ1a => exact fun _ _ _ h => h
    case hy1a =>
      refine Or.inl ⟨rfl, ?_⟩
      intro W _
      go_simp
      try with_reducible rfl
    case hS1a => assumption
    try simp only [Act.put, List.setIfInBounds_toArray, List.set_cons_zero, List.set_cons_succ]
    refine wpAnyH_take (i := 2) (oi := ?oi2a) (v := ?v2a) ?hi2a ?hs2a ?hf2a ?hr2a ?hQ2a ?hy2a ?hS2a ?h2a
    case hi2a => exact (by simp only [List.getElem?_toArray, List.getElem?_cons_succ, List.getElem?_cons_zero]; rfl)
    case hs2a => kernel_rfl
    case hf2a => kernel_rfl
    case hr2a => kernel_rfl
    case hQ2a => exact fun _ _ _ h => h
    case hy2a =>
      refine Or.inl ⟨rfl, ?_⟩
      intro W _
      go_simp
      try with_reducible rfl
    case hS2a => assumption
    try simp only [Act.put, List.setIfInBounds_toArray, List.set_cons_zero, List.set_cons_succ]
    refine wpAnyH_take (i := 3) (oi := ?oi3a) (v := ?v3a) ?hi3a ?hs3a ?hf3a ?hr3a ?hQ3a ?hy3a ?hS3a ?h3a
    case hi3a => exact (by simp only [List.getElem?_toArray, List.getElem?_cons_succ, List.getElem?_cons_zero]; rfl)
    case hs3a => kernel_rfl
    case hf3a => kernel_rfl
    case hr3a => kernel_rfl
    case hQ3a => exact fun _ _ _ h => h
    case hy3a =>
      refine Or.inl ⟨rfl, ?_⟩
      intro W _
      go_simp
      try with_reducible rfl
    case hS3a => assumption
    try simp only [Act.put, List.setIfInBounds_toArray, List.set_cons_zero, List.set_cons_succ]
    refine wpAnyH_take (i := 4) (oi := ?oi4a) (v := ?v4a) ?hi4a ?hs4a ?hf4a ?hr4a ?hQ4a ?hy4a ?hS4a ?h4a
    case hi4a => exact (by simp only [List.getElem?_toArray, List.getElem?_cons_succ, List.getElem?_cons_zero]; rfl)
    case hs4a => kernel_rfl
    case hf4a => kernel_rfl
    case hr4a => kernel_rfl
    case hQ4a => exact fun _ _ _ h => h
    case hy4a =>
      refine Or.inl ⟨rfl, ?_⟩
      intro W _
      go_simp
      try with_reducible rfl
    case hS4a => assumption
    try simp only [Act.put, List.setIfInBounds_toArray, List.set_cons_zero, List.set_cons_succ]
    refine wpAnyH_take (i := 5) (oi := ?oi5a) (v := ?v5a) ?hi5a ?hs5a ?hf5a ?hr5a ?hQ5a ?hy5a ?hS5a ?h5a
    case hi5a => exact (by simp only [List.getElem?_toArray, List.getElem?_cons_succ, List.getElem?_cons_zero]; rfl)
    case hs5a => kernel_rfl
    case hf5a => kernel_rfl
    case hr5a => kernel_rfl
    case hQ5a => exact fun _ _ _ h => h
    case hy5a =>
      refine Or.inl ⟨rfl, ?_⟩
      intro W _
      go_simp
      try with_reducible rfl
    case hS5a => assumption
    try simp only [Act.put, List.setIfInBounds_toArray, List.set_cons_zero, List.set_cons_succ]
    refine wpAnyH_ready (rs := [6]) (by kernel_rfl) (by simp) ?_
    refine AllReadyH.cons (o := _) rfl (fun K hK => ?_) AllReadyH.nil
    refine step_append_run rfl _ _ 59 59 rfl _ _ rfl rfl hap1 ?_
    refine hK.out _ _ trivial (fun hHeld => ?_)
    clear hK K
    try simp only [Act.put, List.setIfInBounds_toArray, List.set_cons_zero, List.set_cons_succ]
    refine wpAnyH_take (i := 7) (oi := ?oi7a) (v := ?v7a) ?hi7a ?hs7a ?hf7a ?hr7a ?hQ7a ?hy7a ?hS7a ?h7a
    case hi7a => exact (by simp only [List.getElem?_toArray, List.getElem?_cons_succ, List.getElem?_cons_zero]; rfl)
    case hs7a => kernel_rfl
    case hf7a => kernel_rfl
    case hr7a => kernel_rfl
    case hQ7a => exact fun _ _ _ h => h
    case hy7a =>
      refine Or.inl ⟨rfl, ?_⟩
      intro W _
      go_simp
      try with_reducible rfl
    case hS7a => assumption
    try simp only [Act.put, List.setIfInBounds_toArray, List.set_cons_zero, List.set_cons_succ]
    refine wpAnyH_done (by kernel_rfl) ?_ _
    go_wp2
    go_ret
    exact ⟨rfl, HOW.out, HGR.out⟩
  · have hap1 := hap ⟨g, (p + 1) * 5, none⟩ 59 (cap - (p + 1)) (.inr rfl)
    clear hxl hdl hxc hrow1 hfin hOW hGR hh hcs ht h1 hW1 hL1 hll
    go_enter Tryz.func51, Tryz.ntmps51
    go_upto_region 5 with (fail)
    refine wp_region_held_drew (S := fun _ : World => True) (by kernel_rfl) trivial (fun hHeld => ?_)
    refine wpAnyH_take (i := 0) (oi := ?oi0b) (v := ?v0b) ?hi0b ?hs0b ?hf0b ?hr0b ?hQ0b ?hy0b ?hS0b ?h0b
    case hi0b => exact (by simp only [List.getElem?_toArray, List.getElem?_cons_zero]; rfl)
    case hs0b => kernel_rfl
    case hf0b => kernel_rfl
    case hr0b => kernel_rfl
    case hQ0b => exact fun _ _ _ h => h
    case hy0b =>
      refine Or.inl ⟨rfl, ?_⟩
      intro W _
      go_simp
      try with_reducible rfl
    case hS0b => assumption
    try simp only [Act.put, List.setIfInBounds_toArray, List.set_cons_zero, List.set_cons_succ]
    refine wpAnyH_take (i := 1) (oi := ?oi1b) (v := ?v1b) ?hi1b ?hs1b ?hf1b ?hr1b ?hQ1b ?hy1b ?hS1b ?h1b
    case hi1b => exact (by simp only [List.getElem?_toArray, List.getElem?_cons_succ, List.getElem?_cons_zero]; rfl)
    case hs1b => kernel_rfl
    case hf1b => kernel_rfl
    case hr1b => kernel_rfl
    case hQ1b => exact fun _ _ _ h => h
    case hy1b =>
      refine Or.inl ⟨rfl, ?_⟩
      intro W _
      go_simp
      try with_reducible rfl
    case hS1b => assumption
    try simp only [Act.put, List.setIfInBounds_toArray, List.set_cons_zero, List.set_cons_succ]
    refine wpAnyH_take (i := 2) (oi := ?oi2b) (v := ?v2b) ?hi2b ?hs2b ?hf2b ?hr2b ?hQ2b ?hy2b ?hS2b ?h2b
    case hi2b => exact (by simp only [List.getElem?_toArray, List.getElem?_cons_succ, List.getElem?_cons_zero]; rfl)
    case hs2b => kernel_rfl
    case hf2b => kernel_rfl
    case hr2b => kernel_rfl
    case hQ2b => exact fun _ _ _ h => h
    case hy2b =>
      refine Or.inl ⟨rfl, ?_⟩
      intro W _
      go_simp
      try with_reducible rfl
    case hS2b => assumption
    try simp only [Act.put, List.setIfInBounds_toArray, List.set_cons_zero, List.set_cons_succ]
    refine wpAnyH_take (i := 3) (oi := ?oi3b) (v := ?v3b) ?hi3b ?hs3b ?hf3b ?hr3b ?hQ3b ?hy3b ?hS3b ?h3b
    case hi3b => exact (by simp only [List.getElem?_toArray, List.getElem?_cons_succ, List.getElem?_cons_zero]; rfl)
    case hs3b => kernel_rfl
    case hf3b => kernel_rfl
    case hr3b => kernel_rfl
    case hQ3b => exact fun _ _ _ h => h
    case hy3b =>
      refine Or.inl ⟨rfl, ?_⟩
      intro W _
      go_simp
      try with_reducible rfl
    case hS3b => assumption
    try simp only [Act.put, List.setIfInBounds_toArray, List.set_cons_zero, List.set_cons_succ]
    refine wpAnyH_take (i := 4) (oi := ?oi4b) (v := ?v4b) ?hi4b ?hs4b ?hf4b ?hr4b ?hQ4b ?hy4b ?hS4b ?h4b
    case hi4b => exact (by simp only [List.getElem?_toArray, List.getElem?_cons_succ, List.getElem?_cons_zero]; rfl)
    case hs4b => kernel_rfl
    case hf4b => kernel_rfl
    case hr4b => kernel_rfl
    case hQ4b => exact fun _ _ _ h => h
    case hy4b =>
      refine Or.inl ⟨rfl, ?_⟩
      intro W _
      go_simp
      try with_reducible rfl
    case hS4b => assumption
    try simp only [Act.put, List.setIfInBounds_toArray, List.set_cons_zero, List.set_cons_succ]
    refine wpAnyH_take (i := 5) (oi := ?oi5b) (v := ?v5b) ?hi5b ?hs5b ?hf5b ?hr5b ?hQ5b ?hy5b ?hS5b ?h5b
    case hi5b => exact (by simp only [List.getElem?_toArray, List.getElem?_cons_succ, List.getElem?_cons_zero]; rfl)
    case hs5b => kernel_rfl
    case hf5b => kernel_rfl
    case hr5b => kernel_rfl
    case hQ5b => exact fun _ _ _ h => h
    case hy5b =>
      refine Or.inl ⟨rfl, ?_⟩
      intro W _
      go_simp
      try with_reducible rfl
    case hS5b => assumption
    try simp only [Act.put, List.setIfInBounds_toArray, List.set_cons_zero, List.set_cons_succ]
    refine wpAnyH_ready (rs := [6]) (by kernel_rfl) (by simp) ?_
    refine AllReadyH.cons (o := _) rfl (fun K hK => ?_) AllReadyH.nil
    refine step_append_run rfl _ _ 59 59 rfl _ _ rfl rfl hap1 ?_
    refine hK.out _ _ trivial (fun hHeld => ?_)
    clear hK K
    try simp only [Act.put, List.setIfInBounds_toArray, List.set_cons_zero, List.set_cons_succ]
    refine wpAnyH_take (i := 7) (oi := ?oi7b) (v := ?v7b) ?hi7b ?hs7b ?hf7b ?hr7b ?hQ7b ?hy7b ?hS7b ?h7b
    case hi7b => exact (by simp only [List.getElem?_toArray, List.getElem?_cons_succ, List.getElem?_cons_zero]; rfl)
    case hs7b => kernel_rfl
    case hf7b => kernel_rfl
    case hr7b => kernel_rfl
    case hQ7b => exact fun _ _ _ h => h
    case hy7b =>
      refine Or.inl ⟨rfl, ?_⟩
      intro W _
      go_simp
      try with_reducible rfl
    case hS7b => assumption
    try simp only [Act.put, List.setIfInBounds_toArray, List.set_cons_zero, List.set_cons_succ]
    refine wpAnyH_done (by kernel_rfl) ?_ _
    go_wp2
    go_ret
    exact ⟨rfl, HOW.out, HGR.out⟩
end Go.Proofs.YtemjmnpclknfaaaGreat.T
