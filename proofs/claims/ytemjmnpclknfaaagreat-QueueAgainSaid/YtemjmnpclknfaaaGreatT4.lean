/- Rack: slices.Insert of one thing at things: into room that is there. -/
import Derived.Test.YtemjmnpclknfaaaGreatR2
import Derived.Test.YtemjmnpclknfaaaGreatT3
namespace Go.Proofs.YtemjmnpclknfaaaGreat.T
open Go.RowKit
set_option maxRecDepth 20000

theorem splicedK (cur xs us : List Value) (i n k : Nat) (hi : i ≤ n) (hn : n + k ≤ cur.length) (hx : cur.take n = xs) (hxl : xs.length = n) (huk : us.length = k) :
    (((cur.take (i + k) ++ xs.drop i ++ cur.drop (i + k + (xs.drop i).length)).take i ++ us ++ (cur.take (i + k) ++ xs.drop i ++ cur.drop (i + k + (xs.drop i).length)).drop (i + us.length)).take (n + k)) = xs.take i ++ us ++ xs.drop i := by
  have hd : (xs.drop i).length = n - i := by rw [List.length_drop, hxl]
  have h1 : (cur.take (i + k)).length = i + k := by rw [List.length_take]; omega
  have h2 : (cur.take (i + k) ++ xs.drop i ++ cur.drop (i + k + (xs.drop i).length)).take i = xs.take i := by
    rw [List.append_assoc, List.take_append_of_le_length (by omega), List.take_take, ← hx, List.take_take, show min i (i + k) = min i n by omega]
  have h3 : (cur.take (i + k) ++ xs.drop i ++ cur.drop (i + k + (xs.drop i).length)).drop (i + us.length) = xs.drop i ++ cur.drop (i + k + (xs.drop i).length) := by
    rw [List.append_assoc, show i + us.length = (cur.take (i + k)).length by rw [h1, huk], List.drop_left]
  rw [h2, h3, ← List.append_assoc]
  have h4 : (xs.take i ++ us ++ xs.drop i).length = n + k := by
    rw [List.length_append, List.length_append, List.length_take, hd, hxl, huk]
    omega
  rw [← h4, List.take_left]
set_option linter.unusedSimpArgs false in
set_option maxHeartbeats 2000000 in
theorem insM_shift (base n i g cap G : Nat) (cur : Array Value) (us xs : List Value) (w : World) (hi : i < n) (hl : n ≤ 1000) (hbg : base ≤ g) (hh : w.heap[g]? = some (.cells cur 39 (0, 0))) (hnc : n + 1 ≤ cap) (hcm : cap ≤ maxLen) (hcs : cur.size = cap * 5) (ht : cur.toList.take (n * 5) = xs) (hus : us.length = 5) (hG : w.heap[G]? = some (.cells us.toArray 39 (0, 0))) (hne : G ≠ g) (hu : ∀ u ∈ us, u.oneCell' = true) (h1 : ∀ x ∈ xs, x.oneCell' = true) :
    Calls Tryz.prog 77 #[.slice (some ⟨g, 0, none⟩) n cap, .int .i64 (i : Int), .slice (some ⟨G, 0, none⟩) 1 1] w fun r w' => ∃ v', r = .returned v' ∧ w'.ownsRow base 39 5 v' (n + 1) (xs.take (i * 5) ++ us ++ xs.drop (i * 5)) ∧ w.grownBy w' (some g) := by
  obtain ⟨i0, hi0, hz0, hz1, hz2⟩ := info_parts info72
  have hsz : (Tryz.prog.info? 39).map (·.size) = some 5 := by rw [hi0]; simp [hz1]
  have hzs : ∀ w, (Go.sizeOf 39).run Tryz.prog w = .ok 5 w := fun w => by simp [Go.sizeOf, typeInfo, hi0, hz1]
  have hxl : xs.length = n * 5 := by rw [← ht, List.length_take, Array.length_toList]; omega
  have hdl : (xs.drop (i * 5)).length = (n - i) * 5 := by rw [List.length_drop, hxl, Nat.sub_mul]
  have hxc : ∀ j v, xs[j]? = some v → w.cell? ⟨g, j, none⟩ = some v := fun j v hj => by
    rw [cell_of_row w g j _ _ _ hh, ← hj, ← ht, List.getElem?_take, Array.getElem?_toList]
    split
    · rfl
    · have := (List.getElem?_eq_some_iff.1 hj).1
      omega
  have hsp : ∀ j, j < cap * 5 → (w.cell? ⟨g, j, none⟩).isSome = true := fun j hj => by
    rw [cell_of_row w g j _ _ _ hh, Array.getElem?_eq_getElem (by omega)]
    rfl
  have hfz : ∀ j, w.frozen? ⟨g, j, none⟩ = false := fun j => frozen_of_row w _ j _ _ hh
  have hov : ∀ lb cb, (callFunc 92 #[.slice (some ⟨G, 0, none⟩) 1 1, .slice (some ⟨g, (i + 1) * 5, none⟩) lb cb]).run Tryz.prog w = .ok (.value (.bool false)) w := fun lb cb => by
    rw [run_callFunc_extern (fn := (Tryz.prog.funcs[92]?).get (by kernel_rfl)) (e := Extern.SlicesOverlaps.overlaps #[59, 59] #[4]) (by kernel_rfl) (by kernel_rfl) (by kernel_rfl) (by kernel_rfl) (by kernel_rfl),
      Lib.run_overlaps_apart w 59 4 39 Tryz.underlying59 5 hzs ⟨G, 0, none⟩ ⟨g, (i + 1) * 5, none⟩ 1 1 lb cb hne 39 39 us.length cur.size (by rw [shape_row hG]; simp) (shape_row hh) (by omega) (frozen_of_row w _ 0 _ _ hG) (frozen_of_row w _ us.length _ _ hG)]
    rfl
  have hz1' : ¬ ((1 : Int) = 0) := by omega
  have hz2' : ¬ ((i : Int) = (n : Int)) := by omega
  have hb2 : ¬ (cap = i + 1) := by omega
  have hb4 : ¬ (cap = i) := by omega
  have hcp1 : ∀ ty dc sc, (Builtin.copy_ #[59, 59] ty #[.slice (some ⟨g, (i + 1) * 5, none⟩) (n - i) dc, .slice (some ⟨g, i * 5, none⟩) (n + 1 - i) sc]).run Tryz.prog w.drew = .ok (goInt (Nat.min (n + 1 - i) (n - i))) (w.drew.setCells g ((i + 1) * 5) (xs.drop (i * 5))) := fun ty dc sc =>
    run_copy_cellsK w.drew _ _ ty 39 g ((i + 1) * 5) (n - i) dc ⟨g, i * 5, none⟩ (n + 1 - i) sc 5 (xs.drop (i * 5)) Tryz.underlying59 hsz (by rw [hdl]; congr 1; simp only [Nat.min_def]; split <;> omega)
      (fun j v hj => by rw [Addr.add_lit]; exact hxc (i * 5 + j) v (by rwa [List.getElem?_drop] at hj))
      (fun j hj => hsp _ (by rw [hdl] at hj; omega)) (fun j _ => hfz _) (fun v hv => h1 v (List.mem_of_mem_drop hv))
  obtain ⟨W1, hW1⟩ : ∃ W1, W1 = w.drew.setCells g ((i + 1) * 5) (xs.drop (i * 5)) := ⟨_, rfl⟩
  obtain ⟨L1, hL1⟩ : ∃ L1, L1 = cur.toList.take (i * 5 + 5) ++ xs.drop (i * 5) ++ cur.toList.drop (i * 5 + 5 + (xs.drop (i * 5)).length) := ⟨_, rfl⟩
  have hik : (i + 1) * 5 = i * 5 + 5 := by omega
  have hll : L1.length = cap * 5 := by rw [hL1]; simp [hdl]; omega
  have hrow1 : W1.heap[g]? = some (.cells L1.toArray 39 (0, 0)) := by rw [hW1, hL1, hik]; exact setCells_row g 39 (xs.drop (i * 5)) (i * 5 + 5) w.drew cur hh (by omega)
  have hG1 : W1.heap[G]? = some (.cells us.toArray 39 (0, 0)) := by rw [hW1, setCells_other g _ _ _ G hne]; exact hG
  have hcp2 : ∀ ty dc, (Builtin.copy_ #[59, 59] ty #[.slice (some ⟨g, i * 5, none⟩) (n + 1 - i) dc, .slice (some ⟨G, 0, none⟩) 1 1]).run Tryz.prog W1 = .ok (goInt (Nat.min 1 (n + 1 - i))) (W1.setCells g (i * 5) us) := fun ty dc =>
    run_copy_cellsK W1 _ _ ty 39 g (i * 5) (n + 1 - i) dc ⟨G, 0, none⟩ 1 1 5 us Tryz.underlying59 hsz (by rw [hus]; simp only [Nat.min_def]; split <;> omega)
      (fun j v hj => by
        rw [Addr.add_lit, Nat.zero_add, cell_of_row W1 G j _ _ _ hG1, ← hj]
        simp)
      (fun j hj => by
        rw [cell_of_row W1 g (i * 5 + j) _ _ _ hrow1, Array.getElem?_eq_getElem (by rw [List.size_toArray]; omega)]
        rfl) (fun j _ => frozen_of_row W1 _ _ _ _ hrow1) hu
  have hfin : (W1.setCells g (i * 5) us).heap[g]? = some (.cells (L1.take (i * 5) ++ us ++ L1.drop (i * 5 + us.length)).toArray 39 (0, 0)) := setCells_row g 39 us (i * 5) W1 _ hrow1 (by rw [List.size_toArray]; omega)
  have hOW : (W1.setCells g (i * 5) us).ownsRow base 39 5 (.slice (some ⟨g, 0, none⟩) (n + 1) cap) (n + 1) (xs.take (i * 5) ++ us ++ xs.drop (i * 5)) := by
    refine ⟨?_, .inr ⟨g, cap, _, rfl, hbg, hfin, hnc, hcm, ?_, ?_⟩⟩
    · rw [List.length_append, List.length_append, List.length_take, hdl, hxl, hus, Nat.sub_mul]
      omega
    · simp [hll, hus]
      omega
    · rw [show (n + 1) * 5 = n * 5 + 5 by omega]
      show (L1.take (i * 5) ++ us ++ L1.drop (i * 5 + us.length)).take (n * 5 + 5) = _
      rw [hL1]
      exact splicedK cur.toList xs us (i * 5) (n * 5) 5 (by omega) (by rw [Array.length_toList]; omega) ht hxl hus
  have hGR : w.grownBy (W1.setCells g (i * 5) us) (some g) := by
    refine grown_trans ?_ (setCells_grown g (i * 5) us W1)
    rw [hW1]
    exact grown_trans (drew_grown (World.grownBy.refl w _)) (setCells_grown g _ _ _)
  have HOW := Lib.hid hOW
  have HGR := Lib.hid hGR
  rw [← hW1] at hcp1
  have hin : i ≤ n := by omega
  have hb3 : (i : Int) ≤ (n : Int) + 1 := by omega
  have htn : ((i : Int) + 1).toNat = i + 1 := by omega
  have hw1 : IntKind.i64.wrap ((i : Int) + 1) = (i : Int) + 1 := by rw [IntKind.wrap_i64]; omega
  have hb1 : (0 : Int) ≤ (i : Int) + 1 := by omega
  have hb5 : (i : Int) + 1 ≤ (n : Int) + 1 := by omega
  clear hxl hdl hxc hsp hfz hll hL1 hrow1 hG1 hfin hOW hGR hh hcs ht hG h1 hW1 hcm hik
  go_enter Tryz.func77, Tryz.ntmps77
  go_wp2_with (simp only [hov])
  go_region_law (refine step_copy_runI rfl _ _ 59 59 rfl _ _ (by simp [Act.eval, Act.put]) (by simp [Act.eval, Act.put]) (hcp1 _ _ _) ?_)
  go_wp2_with (at_builtin; refine wpList_copy_runI _ rfl _ _ 59 59 rfl _ _ rfl rfl (hcp2 _ _) ?_)
  go_ret
  exact ⟨_, rfl, HOW.out, HGR.out⟩
end Go.Proofs.YtemjmnpclknfaaaGreat.T
