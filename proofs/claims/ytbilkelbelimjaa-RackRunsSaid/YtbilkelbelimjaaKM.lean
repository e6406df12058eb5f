/- Rack: Delete, Get, Drop, Put, Next, Free and Most of a rack of numbers, told exactly. -/
import Derived.Test.YtbilkelbelimjaaKF
import Derived.Test.YtbilkelbelimjaaKA
namespace Go.Proofs.Ytbilkelbelimjaa.Z
open Go.RowKit
set_option maxRecDepth 20000

theorem zero3d (w : World) : (zeroValue 3).run Try.prog w = .ok (.int .i64 0) w := by kernel_rfl
set_option linter.unusedSimpArgs false in
set_option maxHeartbeats 8000000 in
theorem delZ_row (base n p g cap : Nat) (cur : Array Value) (xs : List Value) (w : World) (hp : p < n) (hl : n ≤ 1000) (hbg : base ≤ g) (hh : w.heap[g]? = some (.cells cur 3 (0, 0))) (hnc : n ≤ cap) (hcm : cap ≤ maxLen) (hcs : cur.size = cap) (ht : cur.toList.take n = xs) (h1 : ∀ x ∈ xs, x.oneCell' = true) :
    Calls Try.prog 64 #[.slice (some ⟨g, 0, none⟩) n cap, .int .i64 (p : Int), .int .i64 ((p : Int) + 1)] w fun r w' => ∃ v', r = .returned v' ∧ w'.ownsRow base 3 1 v' (n - 1) (xs.take p ++ xs.drop (p + 1)) ∧ w.grownBy w' (some g) := by
  obtain ⟨i0, hi0, hz0, hzz, hz2⟩ := info_parts info3
  have hxl : xs.length = n := by rw [← ht, List.length_take, Array.length_toList]; omega
  have hdl : (xs.drop (p + 1)).length = n - (p + 1) := by rw [List.length_drop, hxl]
  have hxc : ∀ j v, xs[j]? = some v → w.cell? ⟨g, j, none⟩ = some v := fun j v hj => by
    rw [cell_of_row w g j _ _ _ hh, ← hj, ← ht, List.getElem?_take, Array.getElem?_toList]
    split
    · rfl
    · have := (List.getElem?_eq_some_iff.1 hj).1
      omega
  have hap : ∀ (ad : Addr) (ty c : Nat), (n - (p + 1) = 0 ∨ ad = ⟨g, p + 1, none⟩) → (Builtin.append_ #[91, 91] ty #[.slice (some ⟨g, 0, none⟩) p cap, .slice (some ad) (n - (p + 1)) c]).run Try.prog w.drew = .ok (.slice (some ⟨g, 0, none⟩) (n - 1) cap) (w.drew.setCells g p (xs.drop (p + 1))) := fun ad ty c had => by
    have h := run_append_room_cells (P := Try.prog) (w := w.drew) 91 ty 3 i0 Try.underlying91 hi0 g 0 p cap ad (n - (p + 1)) c (xs.drop (p + 1)) (by rw [hdl, hzz, Nat.mul_one]) (fun j u hu => by
      rcases had with h0 | rfl
      · have := (List.getElem?_eq_some_iff.1 hu).1
        omega
      · rw [Addr.add_lit]
        rw [List.getElem?_drop] at hu
        exact hxc _ u hu) (fun u hu => h1 u (List.mem_of_mem_drop hu)) (by omega) (fun j hj => by
        rw [cell_of_row w.drew g _ _ _ _ hh, hzz, Array.getElem?_eq_getElem (by omega)]
        rfl) (fun j _ => frozen_of_row w.drew _ _ _ _ hh)
    rw [hzz, Nat.mul_one, Nat.zero_add, show p + (n - (p + 1)) = n - 1 by omega] at h
    exact h
  obtain ⟨W1, hW1⟩ : ∃ W1, W1 = w.drew.setCells g p (xs.drop (p + 1)) := ⟨_, rfl⟩
  obtain ⟨L1, hL1⟩ : ∃ L1, L1 = cur.toList.take p ++ xs.drop (p + 1) ++ cur.toList.drop (p + (xs.drop (p + 1)).length) := ⟨_, rfl⟩
  have hll : L1.length = cap := by rw [hL1]; simp [hdl]; omega
  have hrow1 : W1.heap[g]? = some (.cells L1.toArray 3 (0, 0)) := by rw [hW1, hL1]; exact setCells_row g 3 (xs.drop (p + 1)) p w.drew cur hh (by omega)
  have hclr : ∀ ty c, (Builtin.clear_ #[91] ty #[.slice (some ⟨g, n - 1, none⟩) 1 c]).run Try.prog W1 = .ok (.tuple #[]) (W1.setCells g (n - 1) [(.int .i64 0 : Value)]) := fun ty c =>
    Lib.run_clear_slice W1 91 3 ty (.int .i64 0) Try.underlying91 zero3d rfl rfl g (n - 1) 1 c (by omega) (fun j hj => by
      rw [cell_of_row W1 g _ _ _ _ hrow1, Array.getElem?_eq_getElem (by rw [List.size_toArray]; omega)]
      rfl) (fun j _ => frozen_of_row W1 _ _ _ _ hrow1)
  have hfin : (W1.setCells g (n - 1) [(.int .i64 0 : Value)]).heap[g]? = some (.cells (L1.take (n - 1) ++ [(.int .i64 0 : Value)] ++ L1.drop (n - 1 + [(.int .i64 0 : Value)].length)).toArray 3 (0, 0)) := setCells_row g 3 [(.int .i64 0 : Value)] (n - 1) W1 _ hrow1 (by rw [List.size_toArray]; simp; omega)
  have hOW : (W1.setCells g (n - 1) [(.int .i64 0 : Value)]).ownsRow base 3 1 (.slice (some ⟨g, 0, none⟩) (n - 1) cap) (n - 1) (xs.take p ++ xs.drop (p + 1)) := by
    refine ⟨?_, .inr ⟨g, cap, _, rfl, hbg, hfin, by omega, hcm, ?_, ?_⟩⟩
    · rw [List.length_append, List.length_take, hdl, hxl]
      omega
    · simp
      omega
    · rw [Nat.mul_one]
      show (L1.take (n - 1) ++ [(.int .i64 0 : Value)] ++ L1.drop (n - 1 + [(.int .i64 0 : Value)].length)).take (n - 1) = _
      rw [hL1]
      exact cutout cur.toList xs _ p n hp (by rw [Array.length_toList]; omega) ht hxl
  have hGR : w.grownBy (W1.setCells g (n - 1) [(.int .i64 0 : Value)]) (some g) := by
    refine grown_trans ?_ (setCells_grown g _ _ W1)
    rw [hW1]
    exact grown_trans (drew_grown (World.grownBy.refl w _)) (setCells_grown g _ _ _)
  have HOW := Lib.hid hOW
  have HGR := Lib.hid hGR
  rw [← hW1] at hap
  have hq1 : IntKind.i64.wrap ((p : Int) + 1) = (p : Int) + 1 := by rw [IntKind.wrap_i64]; omega
  have hb1 : (0 : Int) ≤ (p : Int) + 1 := by omega
  have hb2 : (p : Int) + 1 ≤ (n : Int) := by omega
  have hb3 : (p : Int) ≤ (p : Int) + 1 := by omega
  have htn : ((p : Int) + 1).toNat = p + 1 := by omega
  have hne : ¬((p : Int) = (p : Int) + 1) := by omega
  have hb4 : (p : Int) ≤ (cap : Int) := by omega
  have hb5 : ((n - 1 : Nat) : Int) = (n : Int) - 1 := by omega
  have hb6 : ¬(cap = n - 1) := by omega
  have hb7 : n - (n - 1) = 1 := by omega
  by_cases hcp : cap = p + 1
  · have hap1 := hap ⟨g, 0, none⟩ 91 0 (.inl (by omega))
    have hn0 : n - (p + 1) = 0 := by omega
    rw [hn0] at hap1
    have hnp : n = p + 1 := by omega
    subst hcp
    subst hnp
    rw [Nat.add_sub_cancel] at hclr HOW HGR hap1
    clear hxl hdl hxc hrow1 hfin hOW hGR hh hcs ht h1 hW1 hL1 hll
    go_enter Try.func64, Try.ntmps64
    go_upto_region 5 with (fail)
    refine wp_region_held_drew (S := fun _ : World => True) (by kernel_rfl) trivial (fun hHeld => ?_)
    refine wpAnyH_take (i := 0) (oi := ?oi0a) (v := ?v0a) ?hi0a ?hs0a ?hf0a ?hr0a ?hQ0a ?hy0a ?hS0a ?h0a
    case hi0a => exact (by simp only [List.getElem?_toArray, List.getElem?_cons_zero]; rfl)
    case hs0a => kernel_rfl
    case hf0a => kernel_rfl
    case hr0a => kernel_rfl
    case hQ0a => exact fun _ _ _ h => h
    case hy0a =>
      refine Or.inl ⟨rfl, ?_⟩
      intro W _
      go_simp
      try with_reducible rfl
    case hS0a => assumption
    try simp only [Act.put, List.setIfInBounds_toArray, List.set_cons_zero, List.set_cons_succ]
    refine wpAnyH_take (i := 1) (oi := ?oi1a) (v := ?v1a) ?hi1a ?hs1a ?hf1a ?hr1a ?hQ1a ?hy1a ?hS1a ?h1a
    case hi1a => exact (by simp only [List.getElem?_toArray, List.getElem?_cons_succ, List.getElem?_cons_zero]; rfl)
    case hs1a => kernel_rfl
    case hf1a => kernel_rfl
    case hr1a => kernel_rfl
    case hQ1a => exact fun _ _ _ h => h
    case hy1a =>
      refine Or.inl ⟨rfl, ?_⟩
      intro W _
      go_simp
      try with_reducible rfl
    case hS1a => assumption
    try simp only [Act.put, List.setIfInBounds_toArray, List.set_cons_zero, List.set_cons_succ]
    refine wpAnyH_take (i := 2) (oi := ?oi2a) (v := ?v2a) ?hi2a ?hs2a ?hf2a ?hr2a ?hQ2a ?hy2a ?hS2a ?h2a
    case hi2a => exact (by simp only [List.getElem?_toArray, List.getElem?_cons_succ, List.getElem?_cons_zero]; rfl)
    case hs2a => kernel_rfl
    case hf2a => kernel_rfl
    case hr2a => kernel_rfl
    case hQ2a => exact fun _ _ _ h => h
    case hy2a =>
      refine Or.inl ⟨rfl, ?_⟩
      intro W _
      go_simp
      try with_reducible rfl
    case hS2a => assumption
    try simp only [Act.put, List.setIfInBounds_toArray, List.set_cons_zero, List.set_cons_succ]
    refine wpAnyH_take (i := 3) (oi := ?oi3a) (v := ?v3a) ?hi3a ?hs3a ?hf3a ?hr3a ?hQ3a ?hy3a ?hS3a ?h3a
    case hi3a => exact (by simp only [List.getElem?_toArray, List.getElem?_cons_succ, List.getElem?_cons_zero]; rfl)
    case hs3a => kernel_rfl
    case hf3a => kernel_rfl
    case hr3a => kernel_rfl
    case hQ3a => exact fun _ _ _ h => h
    case hy3a =>
      refine Or.inl ⟨rfl, ?_⟩
      intro W _
      go_simp
      try with_reducible rfl
    case hS3a => assumption
    try simp only [Act.put, List.setIfInBounds_toArray, List.set_cons_zero, List.set_cons_succ]
    refine wpAnyH_take (i := 4) (oi := ?oi4a) (v := ?v4a) ?hi4a ?hs4a ?hf4a ?hr4a ?hQ4a ?hy4a ?hS4a ?h4a
    case hi4a => exact (by simp only [List.getElem?_toArray, List.getElem?_cons_succ, List.getElem?_cons_zero]; rfl)
    case hs4a => kernel_rfl
    case hf4a => kernel_rfl
    case hr4a => kernel_rfl
    case hQ4a => exact fun _ _ _ h => h
    case hy4a =>
      refine Or.inl ⟨rfl, ?_⟩
      intro W _
      go_simp
      try with_reducible rfl
    case hS4a => assumption
    try simp only [Act.put, List.setIfInBounds_toArray, List.set_cons_zero, List.set_cons_succ]
    refine wpAnyH_take (i := 5) (oi := ?oi5a) (v := ?v5a) ?hi5a ?hs5a ?hf5a ?hr5a ?hQ5a ?hy5a ?hS5a ?h5a
    case hi5a => exact (by simp only [List.getElem?_toArray, List.getElem?_cons_succ, List.getElem?_cons_zero]; rfl)
    case hs5a => kernel_rfl
    case hf5a => kernel_rfl
    case hr5a => kernel_rfl
    case hQ5a => exact fun _ _ _ h => h
    case hy5a =>
      refine Or.inl ⟨rfl, ?_⟩
      intro W _
      go_simp
      try with_reducible rfl
    case hS5a => assumption
    try simp only [Act.put, List.setIfInBounds_toArray, List.set_cons_zero, List.set_cons_succ]
    refine wpAnyH_ready (rs := [6]) (by kernel_rfl) (by simp) ?_
    refine AllReadyH.cons (o := _) rfl (fun K hK => ?_) AllReadyH.nil
    refine step_append_run rfl _ _ 91 91 rfl _ _ rfl rfl hap1 ?_
    refine hK.out _ _ trivial (fun hHeld => ?_)
    clear hK K
    try simp only [Act.put, List.setIfInBounds_toArray, List.set_cons_zero, List.set_cons_succ]
    refine wpAnyH_take (i := 7) (oi := ?oi7a) (v := ?v7a) ?hi7a ?hs7a ?hf7a ?hr7a ?hQ7a ?hy7a ?hS7a ?h7a
    case hi7a => exact (by simp only [List.getElem?_toArray, List.getElem?_cons_succ, List.getElem?_cons_zero]; rfl)
    case hs7a => kernel_rfl
    case hf7a => kernel_rfl
    case hr7a => kernel_rfl
    case hQ7a => exact fun _ _ _ h => h
    case hy7a =>
      refine Or.inl ⟨rfl, ?_⟩
      intro W _
      go_simp
      try with_reducible rfl
    case hS7a => assumption
    try simp only [Act.put, List.setIfInBounds_toArray, List.set_cons_zero, List.set_cons_succ]
    refine wpAnyH_done (by kernel_rfl) ?_ _
    go_wp2
    go_ret
    exact ⟨_, rfl, HOW.out, HGR.out⟩
  · have hap1 := hap ⟨g, p + 1, none⟩ 91 (cap - (p + 1)) (.inr rfl)
    clear hxl hdl hxc hrow1 hfin hOW hGR hh hcs ht h1 hW1 hL1 hll
    go_enter Try.func64, Try.ntmps64
    go_upto_region 5 with (fail)
    refine wp_region_held_drew (S := fun _ : World => True) (by kernel_rfl) trivial (fun hHeld => ?_)
    refine wpAnyH_take (i := 0) (oi := ?oi0b) (v := ?v0b) ?hi0b ?hs0b ?hf0b ?hr0b ?hQ0b ?hy0b ?hS0b ?h0b
    case hi0b => exact (by simp only [List.getElem?_toArray, List.getElem?_cons_zero]; rfl)
    case hs0b => kernel_rfl
    case hf0b => kernel_rfl
    case hr0b => kernel_rfl
    case hQ0b => exact fun _ _ _ h => h
    case hy0b =>
      refine Or.inl ⟨rfl, ?_⟩
      intro W _
      go_simp
      try with_reducible rfl
    case hS0b => assumption
    try simp only [Act.put, List.setIfInBounds_toArray, List.set_cons_zero, List.set_cons_succ]
    refine wpAnyH_take (i := 1) (oi := ?oi1b) (v := ?v1b) ?hi1b ?hs1b ?hf1b ?hr1b ?hQ1b ?hy1b ?hS1b ?h1b
    case hi1b => exact (by simp only [List.getElem?_toArray, List.getElem?_cons_succ, List.getElem?_cons_zero]; rfl)
    case hs1b => kernel_rfl
    case hf1b => kernel_rfl
    case hr1b => kernel_rfl
    case hQ1b => exact fun _ _ _ h => h
    case hy1b =>
      refine Or.inl ⟨rfl, ?_⟩
      intro W _
      go_simp
      try with_reducible rfl
    case hS1b => assumption
    try simp only [Act.put, List.setIfInBounds_toArray, List.set_cons_zero, List.set_cons_succ]
    refine wpAnyH_take (i := 2) (oi := ?oi2b) (v := ?v2b) ?hi2b ?hs2b ?hf2b ?hr2b ?hQ2b ?hy2b ?hS2b ?h2b
    case hi2b => exact (by simp only [List.getElem?_toArray, List.getElem?_cons_succ, List.getElem?_cons_zero]; rfl)
    case hs2b => kernel_rfl
    case hf2b => kernel_rfl
    case hr2b => kernel_rfl
    case hQ2b => exact fun _ _ _ h => h
    case hy2b =>
      refine Or.inl ⟨rfl, ?_⟩
      intro W _
      go_simp
      try with_reducible rfl
    case hS2b => assumption
    try simp only [Act.put, List.setIfInBounds_toArray, List.set_cons_zero, List.set_cons_succ]
    refine wpAnyH_take (i := 3) (oi := ?oi3b) (v := ?v3b) ?hi3b ?hs3b ?hf3b ?hr3b ?hQ3b ?hy3b ?hS3b ?h3b
    case hi3b => exact (by simp only [List.getElem?_toArray, List.getElem?_cons_succ, List.getElem?_cons_zero]; rfl)
    case hs3b => kernel_rfl
    case hf3b => kernel_rfl
    case hr3b => kernel_rfl
    case hQ3b => exact fun _ _ _ h => h
    case hy3b =>
      refine Or.inl ⟨rfl, ?_⟩
      intro W _
      go_simp
      try with_reducible rfl
    case hS3b => assumption
    try simp only [Act.put, List.setIfInBounds_toArray, List.set_cons_zero, List.set_cons_succ]
    refine wpAnyH_take (i := 4) (oi := ?oi4b) (v := ?v4b) ?hi4b ?hs4b ?hf4b ?hr4b ?hQ4b ?hy4b ?hS4b ?h4b
    case hi4b => exact (by simp only [List.getElem?_toArray, List.getElem?_cons_succ, List.getElem?_cons_zero]; rfl)
    case hs4b => kernel_rfl
    case hf4b => kernel_rfl
    case hr4b => kernel_rfl
    case hQ4b => exact fun _ _ _ h => h
    case hy4b =>
      refine Or.inl ⟨rfl, ?_⟩
      intro W _
      go_simp
      try with_reducible rfl
    case hS4b => assumption
    try simp only [Act.put, List.setIfInBounds_toArray, List.set_cons_zero, List.set_cons_succ]
    refine wpAnyH_take (i := 5) (oi := ?oi5b) (v := ?v5b) ?hi5b ?hs5b ?hf5b ?hr5b ?hQ5b ?hy5b ?hS5b ?h5b
    case hi5b => exact (by simp only [List.getElem?_toArray, List.getElem?_cons_succ, List.getElem?_cons_zero]; rfl)
    case hs5b => kernel_rfl
    case hf5b => kernel_rfl
    case hr5b => kernel_rfl
    case hQ5b => exact fun _ _ _ h => h
    case hy5b =>
      refine Or.inl ⟨rfl, ?_⟩
      intro W _
      go_simp
      try with_reducible rfl
    case hS5b => assumption
    try simp only [Act.put, List.setIfInBounds_toArray, List.set_cons_zero, List.set_cons_succ]
    refine wpAnyH_ready (rs := [6]) (by kernel_rfl) (by simp) ?_
    refine AllReadyH.cons (o := _) rfl (fun K hK => ?_) AllReadyH.nil
    refine step_append_run rfl _ _ 91 91 rfl _ _ rfl rfl hap1 ?_
    refine hK.out _ _ trivial (fun hHeld => ?_)
    clear hK K
    try simp only [Act.put, List.setIfInBounds_toArray, List.set_cons_zero, List.set_cons_succ]
    refine wpAnyH_take (i := 7) (oi := ?oi7b) (v := ?v7b) ?hi7b ?hs7b ?hf7b ?hr7b ?hQ7b ?hy7b ?hS7b ?h7b
    case hi7b => exact (by simp only [List.getElem?_toArray, List.getElem?_cons_succ, List.getElem?_cons_zero]; rfl)
    case hs7b => kernel_rfl
    case hf7b => kernel_rfl
    case hr7b => kernel_rfl
    case hQ7b => exact fun _ _ _ h => h
    case hy7b =>
      refine Or.inl ⟨rfl, ?_⟩
      intro W _
      go_simp
      try with_reducible rfl
    case hS7b => assumption
    try simp only [Act.put, List.setIfInBounds_toArray, List.set_cons_zero, List.set_cons_succ]
    refine wpAnyH_done (by kernel_rfl) ?_ _
    go_wp2
    go_ret
    exact ⟨_, rfl, HOW.out, HGR.out⟩

theorem thing_at {w : World} {R : Nat} {most : Int} {vi vt : Value} {ids : List Nat} {ths : List Int} (h : IsR w R most vi vt ids ths) {p : Nat} (hp : p < ids.length) : ∃ g cap y, vt = .slice (some ⟨g, 0, none⟩) ids.length cap ∧ ths[p]? = some y ∧ w.cell? ⟨g, p, none⟩ = some (.int .i64 y) := by
  rcases h.rto.2 with ⟨_, h0⟩ | ⟨g, cap, cur, rfl, hr⟩
  · omega
  · obtain ⟨y, hy⟩ : ∃ y, ths[p]? = some y := ⟨ths[p]'(by rw [h.len]; exact hp), List.getElem?_eq_getElem _⟩
    have := h.rto.cells (g := g) rfl p (.int .i64 y) (by unfold zn; rw [List.getElem?_map, hy]; rfl)
    rw [Go.WideShapes.add_plain, Nat.zero_add] at this
    exact ⟨g, cap, y, rfl, hy, this⟩

set_option maxHeartbeats 2000000 in
theorem get_there (R : Nat) (most : Int) (vi vt : Value) (ids : List Nat) (ths : List Int) (x : Nat) (w : World) (h : IsR w R most vi vt ids ths) (hl : ids.length ≤ 1000) (hx : x ∈ ids) :
    Calls Try.prog 13 #[.pointer (some ⟨R, 0, none⟩), .int .u32 (x : Int)] w fun r w' => (∃ (p : Nat) (y : Int), ids[p]? = some x ∧ ths[p]? = some y ∧ r = .returned (.tuple #[.int .i64 y, .bool true])) ∧ w' = w := by
  have HP := Lib.hid (place_any R most vi vt ids ths x w h hl)
  have HU := Lib.hid h.up
  obtain ⟨n, hn⟩ : ∃ n, n = ids.length := ⟨_, rfl⟩
  have HH := Lib.hid h
  have hrow := h.row
  have HN := Lib.hid hn
  have HX := Lib.hid hx
  obtain ⟨g0, cap0, y0, hv, _, _⟩ := thing_at h (p := 0) (by exact List.length_pos_of_mem hx)
  rw [← hn] at hv
  subst hv
  rw [← hn] at hl
  have c2 := cell_of_row w R 2 _ _ _ hrow
  simp at c2
  clear h hx hrow hn
  go_enter Try.func13, Try.ntmps13
  go_wp2_with fail
  refine HP.out.mono ?_
  rintro r w' ⟨rfl, p, hp, rfl⟩
  have hget := (pl_mem HU.out hp).1 HX.out
  have hd : decide (ids[p]? = some x) = true := by simpa using hget
  have hpn : p < n := by have := (List.getElem?_eq_some_iff.1 hget).1; have := HN.out; omega
  obtain ⟨g, cap, y, hv, hy, d⟩ := thing_at HH.out (p := p) (by have := HN.out; omega)
  injection hv with e1 _ e3
  injection e1 with e1
  injection e1 with e1
  subst e1 e3
  rw [hd]
  have HG := Lib.hid (And.intro hget hy)
  clear hget hp hy
  go_wp2
  exact bodyPost_ret (v := .tuple #[.int .i64 y, .bool true]) (by simp [results, Try.results13, go_sem]) rfl ⟨⟨p, y, HG.out.1, HG.out.2, rfl⟩, rfl⟩
set_option maxHeartbeats 2000000 in
theorem get_none (R : Nat) (most : Int) (vi vt : Value) (ids : List Nat) (ths : List Int) (x : Nat) (w : World) (h : IsR w R most vi vt ids ths) (hl : ids.length ≤ 1000) (hx : x ∉ ids) :
    Calls Try.prog 13 #[.pointer (some ⟨R, 0, none⟩), .int .u32 (x : Int)] w fun r w' => r = .returned (.tuple #[.int .i64 0, .bool false]) ∧ w' = w := by
  have HP := Lib.hid (place_any R most vi vt ids ths x w h hl)
  have HU := Lib.hid h.up
  have HX := Lib.hid hx
  clear h hx
  go_enter Try.func13, Try.ntmps13
  go_wp2_with fail
  refine HP.out.mono ?_
  rintro r w' ⟨rfl, p, hp, rfl⟩
  have hd : decide (ids[p]? = some x) = false := by rw [decide_eq_false_iff_not]; exact fun e => HX.out ((pl_mem HU.out hp).2 e)
  rw [hd]
  clear hp
  go_wp2
  exact bodyPost_ret (v := .tuple #[.int .i64 0, .bool false]) (by simp [results, Try.results13, go_sem]) rfl ⟨rfl, rfl⟩

set_option maxHeartbeats 2000000 in
theorem drop_none (R : Nat) (most : Int) (vi vt : Value) (ids : List Nat) (ths : List Int) (x : Nat) (w : World) (h : IsR w R most vi vt ids ths) (hl : ids.length ≤ 1000) (hx : x ∉ ids) :
    Calls Try.prog 19 #[.pointer (some ⟨R, 0, none⟩), .int .u32 (x : Int)] w fun r w' => r = .returned (.tuple #[.int .i64 0, .bool false]) ∧ w' = w := by
  have HP := Lib.hid (place_any R most vi vt ids ths x w h hl)
  have HU := Lib.hid h.up
  have HX := Lib.hid hx
  clear h hx
  go_enter Try.func19, Try.ntmps19
  go_wp2_with fail
  refine HP.out.mono ?_
  rintro r w' ⟨rfl, p, hp, rfl⟩
  have hd : decide (ids[p]? = some x) = false := by rw [decide_eq_false_iff_not]; exact fun e => HX.out ((pl_mem HU.out hp).2 e)
  rw [hd]
  clear hp
  go_wp2
  exact bodyPost_ret (v := .tuple #[.int .i64 0, .bool false]) (by simp [results, Try.results19, go_sem]) rfl ⟨rfl, rfl⟩


theorem zn_del (l : List Int) (p : Nat) : zn (l.take p ++ l.drop (p + 1)) = (zn l).take p ++ (zn l).drop (p + 1) := by simp [zn, List.map_take, List.map_drop]
set_option linter.unusedSimpArgs false in
set_option maxHeartbeats 4000000 in
theorem drop_there (R : Nat) (most : Int) (vi vt : Value) (ids : List Nat) (ths : List Int) (x : Nat) (w : World) (h : IsR w R most vi vt ids ths) (hl : ids.length ≤ 1000) (hx : x ∈ ids) :
    Calls Try.prog 19 #[.pointer (some ⟨R, 0, none⟩), .int .u32 (x : Int)] w fun r w' => ∃ (p : Nat) (y : Int), ids[p]? = some x ∧ ths[p]? = some y ∧ r = .returned (.tuple #[.int .i64 y, .bool true]) ∧ ChR R vi vt w w' ∧ ∃ vi' vt', IsR w' R most vi' vt' (ids.take p ++ ids.drop (p + 1)) (ths.take p ++ ths.drop (p + 1)) := by
  have HP := Lib.hid (place_any R most vi vt ids ths x w h hl)
  have HH := Lib.hid h
  have HX := Lib.hid hx
  have hn0 : 0 < ids.length := List.length_pos_of_mem hx
  rcases h.rio.2 with ⟨_, h0⟩ | ⟨gi, capi, curi, rfl, hbi, hhi, hnci, hcmi, hcsi, hti⟩
  · omega
  rcases h.rto.2 with ⟨_, h0⟩ | ⟨gt, capt, curt, rfl, hbt, hht, hnct, hcmt, hcst, htt⟩
  · omega
  rw [Nat.mul_one] at hcsi hti hcst htt
  have hgne : gi ≠ gt := fun e => by rw [e, hht] at hhi; injection hhi with hhi; injection hhi with _ hhi; exact absurd hhi (by decide)
  obtain ⟨n, hn⟩ : ∃ n, n = ids.length := ⟨_, rfl⟩
  have hrow := h.row
  rw [← hn] at hrow hnci hti hnct htt hl
  have c2 := cell_of_row w R 2 _ _ _ hrow
  have c1 := cell_of_row w R 1 _ _ _ hrow
  simp at c1 c2
  have HROW := Lib.hid hrow
  have HN := Lib.hid hn
  have HI := Lib.hid (And.intro hbi (And.intro hhi (And.intro hnci (And.intro hcmi (And.intro hcsi hti)))))
  have HT := Lib.hid (And.intro hbt (And.intro hht (And.intro hnct (And.intro hcmt (And.intro hcst htt)))))
  have HGN := Lib.hid hgne
  clear h hx hn0 hbi hhi hnci hcmi hcsi hti hbt hht hnct hcmt hcst htt hgne hrow hn
  go_enter Try.func19, Try.ntmps19
  go_wp2_with fail
  refine HP.out.mono ?_
  rintro r w' ⟨rfl, p, hp, rfl⟩
  have hget := (pl_mem HH.out.up hp).1 HX.out
  have hd : decide (ids[p]? = some x) = true := by simpa using hget
  have hpn : p < n := by have := (List.getElem?_eq_some_iff.1 hget).1; have := HN.out; omega
  obtain ⟨g, cap, y, hv, hy, d⟩ := thing_at HH.out (p := p) (by have := HN.out; omega)
  injection hv with e1 _ e3
  injection e1 with e1
  injection e1 with e1
  subst e1 e3
  rw [hd]
  have HD1 := Lib.hid (del32_row (R + 1) n p gi capi curi (un ids) w' hpn hl HI.out.1 HI.out.2.1 HI.out.2.2.1 HI.out.2.2.2.1 HI.out.2.2.2.2.1 HI.out.2.2.2.2.2 (un_one ids))
  have HGY := Lib.hid (And.intro hget hy)
  clear hget hp hd hy
  go_wp2_with fail
  refine HD1.out.mono ?_
  rintro r w1 ⟨vi', rfl, hio1, hgr1⟩
  obtain ⟨A', c', rfl⟩ := own_form1 hio1
  have hRgi : R ≠ gi := by have := HI.out.1; omega
  have hRgt : R ≠ gt := by have := HT.out.1; omega
  have hrow1 := (hgr1.block R (lt_of_block HROW.out) (fun e => by injection e with e; exact hRgi e)).trans HROW.out
  have hht1 := (hgr1.block gt (lt_of_block HT.out.2.1) (fun e => by injection e with e; exact HGN.out e.symm)).trans HT.out.2.1
  obtain ⟨w2, hw2⟩ : ∃ w2, w2 = w1.setCell ⟨R, 1, none⟩ (.slice A' (n - 1) c') := ⟨_, rfl⟩
  have hrow2 : w2.heap[R]? = some (.cells #[.int .i64 most, .slice A' (n - 1) c', .slice (some ⟨gt, 0, none⟩) n capt] 93 (0, 0)) := by rw [hw2]; exact heap_setCell_same w1 R 1 _ 93 _ hrow1
  have hht2 : w2.heap[gt]? = some (.cells curt 3 (0, 0)) := by rw [hw2]; exact (Below.heap_setCell _ _ _ _ (fun e => hRgt e.symm)).trans hht1
  have hio2 : w2.ownsRow (R + 1) 28 1 (.slice A' (n - 1) c') (n - 1) ((un ids).take p ++ (un ids).drop (p + 1)) := own_after hio1 fun k hk => by rw [hw2]; exact Below.heap_setCell _ _ _ _ (by have := (ownlt hio1 k hk).1; show k ≠ R; omega)
  have hb2 : Below R w' w2 := by rw [hw2]; exact (((Below.refl _ _).grown hgr1 (Nat.le_of_lt (lt_of_block HROW.out)) (fun k hk => by injection hk with hk; have := HI.out.1; omega))).setCell (Nat.le_refl R) _
  have HD2 := Lib.hid (delZ_row (R + 1) n p gt capt curt (zn ths) w2 hpn hl HT.out.1 hht2 HT.out.2.2.1 HT.out.2.2.2.1 HT.out.2.2.2.2.1 HT.out.2.2.2.2.2 (zn_one ths))
  have H2 := Lib.hid hw2
  have HROW2 := Lib.hid hrow2
  have HIO2 := Lib.hid hio2
  have HB2 := Lib.hid hb2
  have HK2 : Hid (∀ k, k < w'.heap.size → k ≠ R → some k ≠ Value.ownBlock (.slice (some ⟨gi, 0, none⟩) n capi) → w2.heap[k]? = w'.heap[k]?) := fun k a1 a2 a3 => by rw [hw2]; exact (Below.heap_setCell _ _ _ _ a2).trans (hgr1.block k a1 (fun e => a3 (by injection e with e; rw [e]; rfl)))
  have HHT2 := Lib.hid hht2
  have d1 := cell_of_row w1 R 1 _ _ _ hrow1
  have f1 : ∀ i, w1.frozen? ⟨R, i, none⟩ = false := fun i => frozen_of_row w1 _ i _ _ hrow1
  have e2 := cell_of_row w2 R 2 _ _ _ hrow2
  simp at d1 e2
  clear hio1 hgr1 hrow1 hht1 hw2 hrow2 hht2 hio2 hb2 c1 c2 d
  go_upto_region 7 with (fail)
  rw [← H2.out]
  clear d1 f1
  go_wp2_with fail
  refine HD2.out.mono ?_
  rintro r w3 ⟨vt', rfl, hto3, hgr3⟩
  obtain ⟨A2, c2', rfl⟩ := own_form1 hto3
  have hrow3 := (hgr3.block R (lt_of_block HROW2.out) (fun e => by injection e with e; exact hRgt e)).trans HROW2.out
  have hio3 := own_after HIO2.out fun k hk => hgr3.block k (ownlt HIO2.out k hk).2 (fun e => by
    injection e with e
    obtain ⟨cc, hcc⟩ := own_type HIO2.out hk
    rw [e, HHT2.out] at hcc
    injection hcc with hcc
    injection hcc with _ hcc
    exact absurd hcc (by decide))
  have HFIN : Hid (IsR (w3.setCell ⟨R, 2, none⟩ (.slice A2 (n - 1) c2')) R most (.slice A' (n - 1) c') (.slice A2 (n - 1) c2') (ids.take p ++ ids.drop (p + 1)) (ths.take p ++ ths.drop (p + 1))) := by
    have hlen := HH.out.len
    have hN := HN.out
    refine ⟨heap_setCell_same w3 R 2 _ 93 _ hrow3, ?_, ?_, ?_, B.up_del p HH.out.up, ?_⟩
    · rw [B.un_del, B.del_len _ _ (by omega), ← hN]
      exact own_after hio3 fun k hk => Below.heap_setCell _ _ _ _ (by have := (ownlt hio3 k hk).1; show k ≠ R; omega)
    · rw [zn_del, B.del_len _ _ (by omega), ← hN]
      exact own_after hto3 fun k hk => Below.heap_setCell _ _ _ _ (by have := (ownlt hto3 k hk).1; show k ≠ R; omega)
    · rw [B.del_len _ _ (by omega), B.del_len _ _ (by omega), hlen]
    · intro z hz
      simp only [List.mem_append] at hz
      rcases hz with hz | hz
      · exact HH.out.ok z (List.mem_of_mem_take hz)
      · exact HH.out.ok z (List.mem_of_mem_drop hz)
  have HBF : Hid (Below R w' (w3.setCell ⟨R, 2, none⟩ (.slice A2 (n - 1) c2'))) := (HB2.out.grown hgr3 (Nat.le_of_lt (lt_of_block HROW2.out)) (fun k hk => by injection hk with hk; have := HT.out.1; omega)).setCell (Nat.le_refl R) _
  have HCH : Hid (ChR R (.slice (some ⟨gi, 0, none⟩) n capi) (.slice (some ⟨gt, 0, none⟩) n capt) w' (w3.setCell ⟨R, 2, none⟩ (.slice A2 (n - 1) c2'))) := by
    refine ⟨HBF.out, ?_, fun k a1 a2 a3 a4 => ?_⟩
    · rw [World.size_setCell]
      exact Nat.le_trans HB2.out.size hgr3.size
    · have hk2 : k < w2.heap.size := Nat.lt_of_lt_of_le a1 HB2.out.size
      exact ((Below.heap_setCell _ _ _ _ a2).trans (hgr3.block k hk2 (fun e => a4 e))).trans (HK2.out k a1 a2 a3)
  have d2 := cell_of_row w3 R 2 _ _ _ hrow3
  have f3 : ∀ i, w3.frozen? ⟨R, i, none⟩ = false := fun i => frozen_of_row w3 _ i _ _ hrow3
  simp at d2
  clear hto3 hgr3 hrow3 hio3 e2
  have HCH' := HCH
  clear HCH
  go_wp2
  exact bodyPost_ret (v := .tuple #[.int .i64 y, .bool true]) (by simp [results, Try.results19, go_sem]) rfl ⟨p, y, HGY.out.1, HGY.out.2, rfl, HCH'.out, _, _, HFIN.out⟩

theorem put_core (R : Nat) (most : Int) (vi vt : Value) (ids : List Nat) (ths : List Int) (x : Nat) (z : Int) (w : World) (h : IsR w R most vi vt ids ths) (hl : ids.length ≤ 1000) (hx : x ∉ ids) (Q : Ending → World → Prop)
    (hlay : ∀ p, Pl ids x p → ids[p]? ≠ some x → Calls Try.prog 62 #[.pointer (some ⟨R, 0, none⟩), .int .i64 (p : Int), .int .u32 (x : Int), .int .i64 z] w fun r w' => ∃ c, r = .returned (.int .i64 c) ∧ Q r w') :
    Calls Try.prog 15 #[.pointer (some ⟨R, 0, none⟩), .int .u32 (x : Int), .int .i64 z] w Q := by
  have HP := Lib.hid (place_any R most vi vt ids ths x w h hl)
  have HL := Lib.hid hlay
  have HU := Lib.hid h.up
  have HX := Lib.hid hx
  clear h hl hlay hx
  go_enter Try.func15, Try.ntmps15
  go_wp2_with fail
  refine HP.out.mono ?_
  rintro r w' ⟨rfl, p, hp, rfl⟩
  have hne : ids[p]? ≠ some x := fun e => HX.out ((pl_mem HU.out hp).2 e)
  have hd : decide (ids[p]? = some x) = false := by rw [decide_eq_false_iff_not]; exact hne
  have HLp := Lib.hid (HL.out p hp hne)
  clear hne hp
  rw [hd]
  go_wp2_with fail
  refine HLp.out.mono ?_
  rintro r w1 ⟨c, rfl, hq⟩
  have HQ := Lib.hid hq
  clear hq
  go_wp2
  exact HQ.out
set_option maxHeartbeats 2000000 in
theorem closure_any (K R : Nat) (most : Int) (vi vt : Value) (ids : List Nat) (ths : List Int) (i : Nat) (w : World) (h : IsR w R most vi vt ids ths) (hl : ids.length ≤ 1000) (hB : w.heap[K]? = some (.cells #[.pointer (some ⟨R, 0, none⟩)] 23 (0, 0))) (hi : i < ids.length) :
    Calls Try.prog 72 #[.int .i64 (i : Int), .pointer (some ⟨K, 0, none⟩)] w fun r w' => r = .returned (.bool (B.Gap ids i)) ∧ w' = w := by
  have c0 := cell_of_one hB
  have c1 := cell_of_row w R 1 _ _ _ h.row
  simp at c1
  rcases h.rio.2 with ⟨_, h0⟩ | ⟨g, cap, cur, rfl, hr⟩
  · omega
  obtain ⟨n, hn⟩ : ∃ n, n = ids.length := ⟨_, rfl⟩
  obtain ⟨y, hy⟩ : ∃ y, ids[i]? = some y := ⟨ids[i]'hi, List.getElem?_eq_getElem _⟩
  have hc : w.cell? ⟨g, i, none⟩ = some (.int .u32 (y : Int)) := by
    have := At32.of_own h.rio i y hy
    rwa [Nat.zero_add] at this
  have hG : B.Gap ids i = decide (i + 1 < y) := by unfold B.Gap; rw [hy]
  rw [hG]
  rw [← hn] at hi hl c1
  have hu : IntKind.u32.wrap ((i : Int) + 1) = (i : Int) + 1 := by rw [IntKind.wrap_u32]; omega
  clear h hr hy hn hB hG
  by_cases hlt : i + 1 < y
  · have e : decide (i + 1 < y) = true := by simpa using hlt
    rw [e]
    go_enter Try.func72, Try.ntmps72
    go_wp2
    go_ret
    refine ⟨?_, rfl⟩
    simp
    omega
  · have e : decide (i + 1 < y) = false := by simpa using hlt
    rw [e]
    go_enter Try.func72, Try.ntmps72
    go_wp2
    go_ret
    refine ⟨?_, rfl⟩
    simp
    omega

set_option linter.unusedSimpArgs false in
set_option maxHeartbeats 4000000 in
theorem searched_any (K n : Nat) (P : Nat → Bool) (w : World) (hl : n ≤ 1000) (hm : ∀ i j, i ≤ j → j < n → P i = true → P j = true) (hcl : ∀ i : Nat, i < n → Calls Try.prog 72 #[.int .i64 (i : Int), .pointer (some ⟨K, 0, none⟩)] w fun r w' => r = .returned (.bool (P i)) ∧ w' = w) :
    Calls Try.prog 71 #[.int .i64 (n : Int), .func (.func 72) #[] #[.pointer (some ⟨K, 0, none⟩)]] w fun r w' => ∃ g : Nat, g ≤ n ∧ (∀ k, k < g → P k = false) ∧ (∀ k, g ≤ k → k < n → P k = true) ∧ r = .returned (.int .i64 (g : Int)) ∧ w' = w := by
  have HC := Lib.hid hcl
  have HM := Lib.hid hm
  clear hcl hm
  go_enter Try.func71, Try.ntmps71
  go_wp2_with fail
  go_loopw [5, 6] (fun u v wr => ∃ i j : Nat, i ≤ j ∧ j ≤ n ∧ u = .int .i64 (i : Int) ∧ v = .int .i64 (j : Int) ∧ Hid ((∀ k, k < i → P k = false) ∧ (∀ k, j ≤ k → k < n → P k = true)) ∧ wr = w) (fun u v _ => (intOf v).toNat - (intOf u).toNat)
  case atStart => exact ⟨0, n, by omega, by omega, rfl, rfl, ⟨fun k h => absurd h (Nat.not_lt_zero k), fun k h h' => absurd h' (by omega)⟩, by first | rfl | trivial⟩
  case round =>
    obtain ⟨i, j, hij, hj, rfl, rfl, HI, rfl⟩ := hrel
    by_cases hlt : i < j
    · have hm1 : i ≤ (i + j) / 2 ∧ (i + j) / 2 < j := by omega
      obtain ⟨b, hb⟩ : ∃ b, b = P ((i + j) / 2) := ⟨_, rfl⟩
      have HK := Lib.hid (HC.out ((i + j) / 2) (by omega))
      rw [← hb] at HK
      have HBq := Lib.hid hb
      clear hb
      go_wp2_with fail
      refine HK.out.mono ?_
      rintro r w1 ⟨rfl, rfl⟩
      cases b
      · go_wp2
        go_roundw
        case rel =>
          refine ⟨(i + j) / 2 + 1, j, by omega, hj, by go_num, rfl, ⟨fun k hk => ?_, HI.out.2⟩, by first | rfl | trivial⟩
          cases hP : P k with
          | false => rfl
          | true => exact absurd (HM.out k ((i + j) / 2) (by omega) (by omega) hP) (by rw [← HBq.out]; decide)
        case measure => simp [intOf]; omega
      · go_wp2
        go_roundw
        case rel => exact ⟨i, (i + j) / 2, by omega, by omega, rfl, by go_num, ⟨HI.out.1, fun k hk hkn => HM.out _ k hk hkn HBq.out.symm⟩, by first | rfl | trivial⟩
        case measure => simp [intOf]; omega
    · have hij' : i = j := by omega
      subst hij'
      go_wp2
      go_ret
      exact ⟨i, by omega, HI.out.1, HI.out.2, rfl, rfl⟩

set_option maxHeartbeats 4000000 in
theorem free_least (R : Nat) (most : Int) (vi vt : Value) (ids : List Nat) (ths : List Int) (w : World) (h : IsR w R most vi vt ids ths) (hl : ids.length ≤ 1000) (hf : ¬ min most 2147483647 ≤ (ids.length : Int)) :
    Calls Try.prog 34 #[.pointer (some ⟨R, 0, none⟩)] w fun r w' => (∃ f : Nat, B.Fr ids f ∧ r = .returned (.int .u32 (f : Int))) ∧ Below w.heap.size w w' := by
  obtain ⟨w0, hw0⟩ : ∃ w0, w0 = w.alloc (.cells #[.pointer (some ⟨R, 0, none⟩)] 23) := ⟨_, rfl⟩
  have hb0 : Below w.heap.size w w0 := by rw [hw0]; exact (Below.refl _ _).alloc (Nat.le_refl _) _
  have hp0 : w0.heap[w.heap.size]? = some (.cells #[.pointer (some ⟨R, 0, none⟩)] 23 (0, 0)) := by rw [hw0]; exact heap_alloc_new w _
  have c0 := cell_of_one hp0
  have h0 := h.after hb0
  have HF := Lib.hid (full_any R most vi vt ids ths w0 h0)
  have hfd : decide (min most 2147483647 ≤ (ids.length : Int)) = false := by rw [decide_eq_false_iff_not]; exact hf
  rw [hfd] at HF
  have H0 := Lib.hid hw0
  have HP0 := Lib.hid hp0
  have HR0 := Lib.hid h0
  have HL := Lib.hid hl
  have HH := Lib.hid h
  obtain ⟨A, c, rfl⟩ := own_form1 h.rio
  obtain ⟨n, hn⟩ : ∃ n, n = ids.length := ⟨_, rfl⟩
  rw [← hn] at hl HR0
  have HN := Lib.hid hn
  have hmf : ∀ (fn : Fn) (first cap : Array Value) (w : World), (Instr.makeFunc fn first cap).run Try.prog w = .ok (.func fn first cap) w := fun _ _ _ _ => rfl
  have hB0 : Hid (Below w.heap.size w w0) := hb0
  clear h hf hfd hw0 hp0 h0 hn hb0
  go_enter Try.func34, Try.ntmps34
  go_upto_region 1 with (fail)
  rw [← H0.out]
  go_wp2_with fail
  refine HF.out.mono ?_
  rintro r w1 ⟨rfl, hb1⟩
  have h1 := HR0.out.after hb1
  have hp1 := (hb1.block _ (lt_of_block HP0.out)).trans HP0.out
  have HSE := Lib.hid (searched_any w.heap.size n (B.Gap ids) w1 hl (fun i j hij hj => B.gap_mono HH.out.up i j hij (by have := HN.out; omega)) (fun i hi => closure_any w.heap.size R most (.slice A n c) vt ids ths i w1 h1 HL.out hp1 (by have := HN.out; omega)))
  have HB1 : Hid (Below w.heap.size w w1) := hB0.out.trans (hb1.mono hB0.out.size)
  clear c0
  have c0 := cell_of_one hp1
  have c1 := cell_of_row w1 R 1 _ _ _ h1.row
  simp at c1
  clear h1 hp1 hb1
  go_wp2_with fail
  refine HSE.out.mono ?_
  rintro r w2 ⟨g, hg, hg1, hg2, rfl, rfl⟩
  have HFR : Hid (B.Fr ids (g + 1)) := B.fr_gap HH.out.up HH.out.ok (by have := HN.out; omega) hg1 (fun k a b => hg2 k a (by have := HN.out; omega))
  have hgb : g ≤ 1000 := by omega
  have hu : IntKind.u32.wrap ((g : Int) + 1) = (g : Int) + 1 := by rw [IntKind.wrap_u32]; omega
  clear hg1 hg2
  go_wp2
  go_ret
  exact ⟨⟨g + 1, HFR.out, by push_cast; rfl⟩, HB1.out⟩

set_option maxHeartbeats 1000000 in
theorem most_any (R : Nat) (most : Int) (vi vt : Value) (ids : List Nat) (ths : List Int) (w : World) (h : IsR w R most vi vt ids ths) :
    Calls Try.prog 41 #[.pointer (some ⟨R, 0, none⟩)] w fun r w' => r = .returned (.int .i64 most) ∧ w' = w := by
  have c0 := cell_of_row w R 0 _ _ _ h.row
  simp at c0
  clear h
  go_enter Try.func41, Try.ntmps41
  go_wp2
  go_ret
  exact ⟨rfl, rfl⟩

/-- The least of rising numbers above another one; 0: none is. -/
def Nx (ids : List Nat) (x m : Nat) : Prop := (m = 0 ∧ ∀ y ∈ ids, y ≤ x) ∨ (x < m ∧ m ∈ ids ∧ ∀ y ∈ ids, x < y → m ≤ y)
set_option maxHeartbeats 2000000 in
theorem next_at (R : Nat) (most : Int) (vi vt : Value) (ids : List Nat) (ths : List Int) (x : Nat) (w : World) (h : IsR w R most vi vt ids ths) (hl : ids.length ≤ 1000) :
    Calls Try.prog 21 #[.pointer (some ⟨R, 0, none⟩), .int .u32 (x : Int)] w fun r w' => (∃ m : Nat, Nx ids x m ∧ r = .returned (.tuple #[.int .u32 (m : Int), .bool (decide (m ≠ 0))])) ∧ w' = w := by
  have HP := Lib.hid (place_any R most vi vt ids ths x w h hl)
  have HLN := Lib.hid (len_any R most vi vt ids ths w h)
  have HH := Lib.hid h
  have hrow := h.row
  obtain ⟨A, c, rfl⟩ := own_form1 h.rio
  obtain ⟨n, hn⟩ : ∃ n, n = ids.length := ⟨_, rfl⟩
  rw [← hn] at HLN hrow hl
  have HN := Lib.hid hn
  have HC : Hid (∀ (q m : Nat), ids[q]? = some m → ∃ g, A = some ⟨g, 0, none⟩ ∧ w.cell? ⟨g, q, none⟩ = some (.int .u32 (m : Int))) := fun q m hq => by
    rcases h.rio.2 with ⟨_, h0⟩ | ⟨g, cap, cur, e, hr⟩
    · have := (List.getElem?_eq_some_iff.1 hq).1
      omega
    · injection e with e1 _ _
      subst e1
      refine ⟨g, rfl, ?_⟩
      have := At32.of_own h.rio q m hq
      rwa [Nat.zero_add] at this
  have c1 := cell_of_row w R 1 _ _ _ hrow
  simp at c1
  clear h hn hrow
  go_enter Try.func21, Try.ntmps21
  go_wp2_with fail
  refine HP.out.mono ?_
  rintro r w' ⟨rfl, p, hp, rfl⟩
  obtain ⟨b, hb⟩ : ∃ b, b = decide (ids[p]? = some x) := ⟨_, rfl⟩
  have HPL := Lib.hid hp
  have HBB := Lib.hid hb
  rw [← hb]
  have hpl : p ≤ n := by have := hp.1; have := HN.out; omega
  clear hp hb
  have above : Hid (∀ (q : Nat), (q = p ∧ b = false ∨ q = p + 1 ∧ b = true) → (∀ (m : Nat), ids[q]? = some m → Nx ids x m ∧ m ≠ 0) ∧ (n ≤ q → Nx ids x 0)) := fun q hq => by
    have hu := HH.out.up
    have hP := HPL.out
    have up2 : ∀ (j y : Nat), ids[j]? = some y → j < q → y ≤ x := fun j y hj hlt => by
      rcases hq with ⟨rfl, _⟩ | ⟨rfl, hbt⟩
      · exact Nat.le_of_lt (hP.2.1 j y hlt hj)
      · by_cases hjp : j < p
        · exact Nat.le_of_lt (hP.2.1 j y hjp hj)
        · have hjp : j = p := by omega
          subst hjp
          have := HBB.out
          rw [hbt] at this
          have := of_decide_eq_true this.symm
          rw [this] at hj
          injection hj with hj
          omega
    refine ⟨fun m hm => ?_, fun hnq => .inl ⟨rfl, fun y hy => ?_⟩⟩
    · have hxm : x < m := by
        rcases hq with ⟨rfl, hbf⟩ | ⟨rfl, hbt⟩
        · have h1 := hP.2.2 q m (Nat.le_refl _) hm
          have := HBB.out
          rw [hbf] at this
          have h2 := of_decide_eq_false this.symm
          rcases Nat.lt_or_ge x m with h3 | h3
          · exact h3
          · exact absurd (by rw [hm, show m = x by omega]) h2
        · have := HBB.out
          rw [hbt] at this
          have h2 := of_decide_eq_true this.symm
          exact hu p (p + 1) x m (by omega) h2 hm
      refine ⟨.inr ⟨hxm, List.mem_of_getElem? hm, fun y hy hxy => ?_⟩, by omega⟩
      obtain ⟨j, hj⟩ := List.getElem?_of_mem hy
      rcases Nat.lt_trichotomy j q with h3 | h3 | h3
      · have := up2 j y hj h3
        omega
      · rw [h3, hm] at hj
        injection hj with hj
        omega
      · exact Nat.le_of_lt (hu q j m y h3 hm hj)
    · obtain ⟨j, hj⟩ := List.getElem?_of_mem hy
      have := (List.getElem?_eq_some_iff.1 hj).1
      exact up2 j y hj (by have := HN.out; omega)
  cases b
  · go_wp2_with fail
    refine HLN.out.mono ?_
    rintro r w2 ⟨rfl, rfl⟩
    by_cases hpn : p = n
    · have HR := Lib.hid ((above.out p (.inl ⟨rfl, by simp⟩)).2 (by omega))
      clear above
      go_wp2
      exact bodyPost_ret (v := .tuple #[.int .u32 0, .bool false]) (by simp [results, Try.results21, go_sem]) rfl ⟨⟨0, HR.out, rfl⟩, rfl⟩
    · obtain ⟨m, hm⟩ : ∃ m, ids[p]? = some m := ⟨ids[p]'(by have := HN.out; omega), List.getElem?_eq_getElem _⟩
      obtain ⟨g, rfl, d⟩ := HC.out p m hm
      have HR := Lib.hid ((above.out p (.inl ⟨rfl, by simp⟩)).1 m hm)
      have hm0 : decide (m ≠ 0) = true := by rw [decide_eq_true_iff]; exact HR.out.2
      clear above hm HC
      go_wp2
      exact bodyPost_ret (v := .tuple #[.int .u32 (m : Int), .bool true]) (by simp [results, Try.results21, go_sem]) rfl ⟨⟨m, HR.out.1, by rw [hm0]⟩, rfl⟩
  · go_wp2_with fail
    refine HLN.out.mono ?_
    rintro r w2 ⟨rfl, rfl⟩
    by_cases hpn : p + 1 = n
    · have HR := Lib.hid ((above.out (p + 1) (.inr ⟨rfl, by simp⟩)).2 (by omega))
      clear above
      go_wp2
      exact bodyPost_ret (v := .tuple #[.int .u32 0, .bool false]) (by simp [results, Try.results21, go_sem]) rfl ⟨⟨0, HR.out, rfl⟩, rfl⟩
    · have hpn2 : p < n := by
        have := of_decide_eq_true HBB.out.symm
        have := (List.getElem?_eq_some_iff.1 this).1
        have := HN.out
        omega
      obtain ⟨m, hm⟩ : ∃ m, ids[p + 1]? = some m := ⟨ids[p + 1]'(by have := HN.out; omega), List.getElem?_eq_getElem _⟩
      obtain ⟨g, rfl, d⟩ := HC.out (p + 1) m hm
      have HR := Lib.hid ((above.out (p + 1) (.inr ⟨rfl, by simp⟩)).1 m hm)
      have hm0 : decide (m ≠ 0) = true := by rw [decide_eq_true_iff]; exact HR.out.2
      clear above hm HC
      go_wp2
      exact bodyPost_ret (v := .tuple #[.int .u32 (m : Int), .bool true]) (by simp [results, Try.results21, go_sem]) rfl ⟨⟨m, HR.out.1, by rw [hm0]⟩, rfl⟩
end Go.Proofs.Ytbilkelbelimjaa.Z
