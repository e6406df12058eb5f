/- Rack: slices.Insert of one thing at things: into a new row; wherever. -/
import Derived.Test.YtemjmnpclknfaaaGreatT4
namespace Go.Proofs.YtemjmnpclknfaaaGreat.T
open Go.RowKit
set_option maxRecDepth 20000

theorem spliced2K (R xs us : List Value) (i n k : Nat) (hi : i ≤ n) (hn : n + k ≤ R.length) (hx : R.take i = xs.take i) (hxl : xs.length = n) (huk : us.length = k) :
    (((R.take i ++ us ++ R.drop (i + us.length)).take (i + k) ++ xs.drop i ++ (R.take i ++ us ++ R.drop (i + us.length)).drop (i + k + (xs.drop i).length)).take (n + k)) = xs.take i ++ us ++ xs.drop i := by
  have hd : (xs.drop i).length = n - i := by rw [List.length_drop, hxl]
  have h1 : (R.take i ++ us).length = i + k := by rw [List.length_append, List.length_take, huk]; omega
  have h2 : (R.take i ++ us ++ R.drop (i + us.length)).take (i + k) = xs.take i ++ us := by
    rw [← h1, List.take_left, hx]
  rw [h2]
  have h4 : (xs.take i ++ us ++ xs.drop i).length = n + k := by
    rw [List.length_append, List.length_append, List.length_take, hd, hxl, huk]
    omega
  rw [← h4, List.take_left]
set_option linter.unusedSimpArgs false in
set_option maxHeartbeats 2000000 in
theorem insM_grow (base n i g G : Nat) (cur : Array Value) (us xs : List Value) (w : World) (hi : i < n) (hl : n ≤ 1000) (hbase : base ≤ w.heap.size) (hh : w.heap[g]? = some (.cells cur 39 (0, 0))) (hcs : cur.size = n * 5) (ht : cur.toList.take (n * 5) = xs) (hus : us.length = 5) (hG : w.heap[G]? = some (.cells us.toArray 39 (0, 0))) (hu : ∀ u ∈ us, u.oneCell' = true) (h1 : ∀ x ∈ xs, x.oneCell' = true) :
    Calls Tryz.prog 77 #[.slice (some ⟨g, 0, none⟩) n n, .int .i64 (i : Int), .slice (some ⟨G, 0, none⟩) 1 1] w fun r w' => ∃ v', r = .returned v' ∧ w'.ownsRow base 39 5 v' (n + 1) (xs.take (i * 5) ++ us ++ xs.drop (i * 5)) ∧ w.grownBy w' (some g) := by
  obtain ⟨i0, hi0, hz0, hzz, hz2⟩ := info_parts info72
  have hsz : (Tryz.prog.info? 39).map (·.size) = some 5 := by rw [hi0]; simp [hzz]
  have hxl : xs.length = n * 5 := by rw [← ht, List.length_take, Array.length_toList]; omega
  have hdl : (xs.drop (i * 5)).length = (n - i) * 5 := by rw [List.length_drop, hxl, Nat.sub_mul]
  have hxc : ∀ j v, xs[j]? = some v → w.cell? ⟨g, j, none⟩ = some v := fun j v hj => by
    rw [cell_of_row w g j _ _ _ hh, ← hj, ← ht, List.getElem?_take, Array.getElem?_toList]
    split
    · rfl
    · have := (List.getElem?_eq_some_iff.1 hj).1
      omega
  have hkk : (n : Int) + 1 - (i : Int) = ((n + 1 - i : Nat) : Int) := by omega
  have hik : i + (n + 1 - i) = n + 1 := by omega
  have hik3 : (i + 1) * 5 = i * 5 + 5 := by omega
  have hold : (Builtin.firstCells i0.size i (.slice (some ⟨g, 0, none⟩) i n)).run Tryz.prog w.drew = .ok (xs.take (i * 5)).toArray w.drew := by
    rw [hzz]
    exact run_firstCells_some w.drew 5 i ⟨g, 0, none⟩ i n (xs.take (i * 5)) (by rw [List.length_take]; omega) (fun j v hj => by
      rw [Addr.add_lit, Nat.zero_add]
      rw [List.getElem?_take] at hj
      split at hj
      · exact hxc j v hj
      · cases hj)
  obtain ⟨C, hC⟩ : ∃ C, C = grownCap w (n + 1) n 39 := ⟨_, rfl⟩
  have hC1 : n + 1 ≤ C := by rw [hC]; exact grownCap_ge w _ _ _
  have hCm : C ≤ maxLen := by rw [hC]; exact grownCap_le_maxLen w (n + 1) n 39 (by unfold maxLen; omega)
  obtain ⟨ROW, hROW⟩ : ∃ ROW : Array Value, ROW = (xs.take (i * 5)).toArray ++ Builtin.zeroCells (.agg #[.int .u32 0, .int .i64 0, .slice none 0 0, .int .i64 0, .int .i64 0] : Value).cells (n + 1 - i) ++ Builtin.zeroCells (.agg #[.int .u32 0, .int .i64 0, .slice none 0 0, .int .i64 0, .int .i64 0] : Value).cells (C - (n + 1)) := ⟨_, rfl⟩
  obtain ⟨W1, hW1⟩ : ∃ W1, W1 = w.drew.alloc (.cells ROW 39) := ⟨_, rfl⟩
  obtain ⟨N, hN⟩ : ∃ N, N = w.heap.size := ⟨_, rfl⟩
  have hrz : ∀ ty, (Builtin.append_ #[59, 3] ty #[.slice (some ⟨g, 0, none⟩) i n, .int .i64 ((n : Int) + 1 - (i : Int))]).run Tryz.prog w = .ok (.slice (some ⟨N, 0, none⟩) (n + 1) C) W1 := fun ty => by
    have h := Lib.run_append_grow_zeros w 59 3 ty 39 i0 _ .i64 .i64 Tryz.underlying59 Tryz.underlying3 hi0 hz0 (some ⟨g, 0, none⟩) i n (xs.take (i * 5)) hold (n + 1 - i) (by omega) (by omega) (by omega) (by omega) (by rw [hz2]; omega) (by rw [hz2, hik]; exact growslice_fits (by omega) (by omega))
    rw [hik, ← hC, ← hROW, ← hW1, ← hN] at h
    rw [hkk]
    exact h
  have hRl : ROW.size = C * 5 := by
    rw [hROW]
    simp [Builtin.zeroCells, Value.cells, hxl]
    omega
  have hRt : ROW.toList.take (i * 5) = xs.take (i * 5) := by
    rw [hROW, Array.toList_append, Array.toList_append, List.append_assoc, List.take_append_of_le_length (by simp [hxl]; omega), List.toList_toArray, List.take_take, Nat.min_self]
  have hN1 : W1.heap[N]? = some (.cells ROW 39 (0, 0)) := by rw [hW1, hN]; exact heap_alloc_new w.drew _
  have hgw : g < w.heap.size := lt_of_block hh
  have hGw : G < w.heap.size := lt_of_block hG
  have hg1 : W1.heap[g]? = some (.cells cur 39 (0, 0)) := by rw [hW1]; exact (Below.heap_alloc w.drew _ _ hgw).trans hh
  have hG1 : W1.heap[G]? = some (.cells us.toArray 39 (0, 0)) := by rw [hW1]; exact (Below.heap_alloc w.drew _ _ hGw).trans hG
  have hgN : g ≠ N := by omega
  have hgr1 : w.grownBy W1 (some g) := by rw [hW1]; exact ⟨rfl, rfl, rfl, by simp, fun k hk _ => Below.heap_alloc w.drew _ _ hk⟩
  have hcpA : ∀ ty dc, (Builtin.copy_ #[59, 59] ty #[.slice (some ⟨N, i * 5, none⟩) (n + 1 - i) dc, .slice (some ⟨G, 0, none⟩) 1 1]).run Tryz.prog W1 = .ok (goInt (Nat.min 1 (n + 1 - i))) (W1.setCells N (i * 5) us) := fun ty dc =>
    run_copy_cellsK W1 _ _ ty 39 N (i * 5) (n + 1 - i) dc ⟨G, 0, none⟩ 1 1 5 us Tryz.underlying59 hsz (by rw [hus]; simp only [Nat.min_def]; split <;> omega)
      (fun j v hj => by
        rw [Addr.add_lit, Nat.zero_add, cell_of_row W1 G j _ _ _ hG1, ← hj]
        simp)
      (fun j hj => by
        rw [cell_of_row W1 N (i * 5 + j) _ _ _ hN1, Array.getElem?_eq_getElem (by omega)]
        rfl) (fun j _ => frozen_of_row W1 _ _ _ _ hN1) hu
  obtain ⟨L1, hL1⟩ : ∃ L1, L1 = ROW.toList.take (i * 5) ++ us ++ ROW.toList.drop (i * 5 + us.length) := ⟨_, rfl⟩
  have hll : L1.length = C * 5 := by rw [hL1]; simp [hus]; omega
  obtain ⟨W2, hW2⟩ : ∃ W2, W2 = W1.setCells N (i * 5) us := ⟨_, rfl⟩
  rw [← hW2] at hcpA
  have hN2 : W2.heap[N]? = some (.cells L1.toArray 39 (0, 0)) := by rw [hW2, hL1]; exact setCells_row N 39 us (i * 5) W1 ROW hN1 (by omega)
  have hg2 : W2.heap[g]? = some (.cells cur 39 (0, 0)) := by rw [hW2, setCells_other N _ _ _ g hgN]; exact hg1
  have hgr2 : W1.grownBy W2 (some N) := by rw [hW2]; exact setCells_grown N (i * 5) us W1
  have hcpB : ∀ ty dc sc, (Builtin.copy_ #[59, 59] ty #[.slice (some ⟨N, (i + 1) * 5, none⟩) (n - i) dc, .slice (some ⟨g, i * 5, none⟩) (n - i) sc]).run Tryz.prog W2.drew = .ok (goInt (Nat.min (n - i) (n - i))) (W2.drew.setCells N ((i + 1) * 5) (xs.drop (i * 5))) := fun ty dc sc =>
    run_copy_cellsK W2.drew _ _ ty 39 N ((i + 1) * 5) (n - i) dc ⟨g, i * 5, none⟩ (n - i) sc 5 (xs.drop (i * 5)) Tryz.underlying59 hsz (by rw [hdl]; congr 1; simp only [Nat.min_def]; split <;> omega)
      (fun j v hj => by
        rw [Addr.add_lit]
        rw [List.getElem?_drop] at hj
        have h2 := cell_of_row W2.drew g (i * 5 + j) _ _ _ hg2
        have h3 := cell_of_row w g (i * 5 + j) _ _ _ hh
        rw [h2, ← h3]
        exact hxc (i * 5 + j) v hj)
      (fun j hj => by
        rw [cell_of_row W2.drew N ((i + 1) * 5 + j) _ _ _ hN2, Array.getElem?_eq_getElem (by rw [List.size_toArray]; rw [hdl] at hj; omega)]
        rfl) (fun j _ => frozen_of_row W2.drew _ _ _ _ hN2) (fun v hv => h1 v (List.mem_of_mem_drop hv))
  have hfin : (W2.drew.setCells N ((i + 1) * 5) (xs.drop (i * 5))).heap[N]? = some (.cells (L1.take (i * 5 + 5) ++ xs.drop (i * 5) ++ L1.drop (i * 5 + 5 + (xs.drop (i * 5)).length)).toArray 39 (0, 0)) := by
    rw [hik3]
    exact setCells_row N 39 (xs.drop (i * 5)) (i * 5 + 5) W2.drew _ hN2 (by rw [List.size_toArray]; omega)
  have hOW : (W2.drew.setCells N ((i + 1) * 5) (xs.drop (i * 5))).ownsRow base 39 5 (.slice (some ⟨N, 0, none⟩) (n + 1) C) (n + 1) (xs.take (i * 5) ++ us ++ xs.drop (i * 5)) := by
    refine ⟨?_, .inr ⟨N, C, _, rfl, by omega, hfin, hC1, hCm, ?_, ?_⟩⟩
    · rw [List.length_append, List.length_append, List.length_take, hdl, hxl, hus, Nat.sub_mul]
      omega
    · simp [hdl, hll]
      omega
    · rw [show (n + 1) * 5 = n * 5 + 5 by omega]
      show (L1.take (i * 5 + 5) ++ xs.drop (i * 5) ++ L1.drop (i * 5 + 5 + (xs.drop (i * 5)).length)).take (n * 5 + 5) = _
      rw [hL1]
      exact spliced2K ROW.toList xs us (i * 5) (n * 5) 5 (by omega) (by rw [Array.length_toList]; omega) hRt hxl hus
  have hGR : w.grownBy (W2.drew.setCells N ((i + 1) * 5) (xs.drop (i * 5))) (some g) :=
    grown_new (grown_new hgr1 (drew_grown hgr2) (by omega)) (setCells_grown N _ _ _) (by omega)
  have HOW := Lib.hid hOW
  have HGR := Lib.hid hGR
  have hz1' : ¬ ((1 : Int) = 0) := by omega
  have hz2' : ¬ ((i : Int) = (n : Int)) := by omega
  have hGi : ¬ (C = i) := by omega
  have hGim : ¬ (C = i + 1) := by omega
  have hci : ¬ (n = i) := by omega
  have hin : i ≤ n := by omega
  have hb3 : (i : Int) ≤ (n : Int) + 1 := by omega
  have htn : ((i : Int) + 1).toNat = i + 1 := by omega
  have hw1 : IntKind.i64.wrap ((i : Int) + 1) = (i : Int) + 1 := by rw [IntKind.wrap_i64]; omega
  have hb1 : (0 : Int) ≤ (i : Int) + 1 := by omega
  have hb5 : (i : Int) + 1 ≤ (n : Int) + 1 := by omega
  clear hxl hdl hxc hkk hik hik3 hold hROW hRl hRt hN1 hgw hGw hg1 hG1 hgN hgr1 hgr2 hL1 hll hN2 hg2 hfin hOW hGR hh hcs ht hG h1 hW1 hW2 hCm hC hN
  go_enter Tryz.func77, Tryz.ntmps77
  go_wp2_with (first
    | (at_builtin; refine Lib.wpList_append_run _ rfl _ _ _ _ rfl _ _ rfl rfl _ _ (hrz _) ?_)
    | (at_builtin; refine wpList_copy_runI _ rfl _ _ 59 59 rfl _ _ rfl rfl (hcpA _ _) ?_))
  go_region_law (refine step_copy_runI rfl _ _ 59 59 rfl _ _ (by simp [Act.eval, Act.put]) (by simp [Act.eval, Act.put]) (hcpB _ _ _) ?_)
  go_wp2
  go_ret
  exact ⟨_, rfl, HOW.out, HGR.out⟩

/-- slices.Insert of one thing into a row of one's own. -/
theorem insM_any (base n i G : Nat) (v : Value) (us xs : List Value) (w : World) (hi : i ≤ n) (hl : n ≤ 1000) (hbase : base ≤ w.heap.size) (hown : w.ownsRow base 39 5 v n xs) (hus : us.length = 5) (hG : w.heap[G]? = some (.cells us.toArray 39 (0, 0))) (hne : v.ownBlock ≠ some G) (hu : ∀ u ∈ us, u.oneCell' = true) (h1 : ∀ x ∈ xs, x.oneCell' = true) :
    Calls Tryz.prog 77 #[v, .int .i64 (i : Int), .slice (some ⟨G, 0, none⟩) 1 1] w fun r w' => ∃ v', r = .returned v' ∧ w'.ownsRow base 39 5 v' (n + 1) (xs.take (i * 5) ++ us ++ xs.drop (i * 5)) ∧ w.grownBy w' v.ownBlock := by
  have hxl : xs.length = n * 5 := hown.1
  by_cases hin : i = n
  · subst hin
    rw [List.take_of_length_le (by omega), List.drop_eq_nil_of_le (by omega), List.append_nil]
    exact insM_end base i G v us xs w hl hbase hown hus hG hu
  · rcases hown.2 with ⟨rfl, h0⟩ | ⟨g, cap, cur, rfl, hbg, hh, hnc, hcm, hcs, ht⟩
    · omega
    · by_cases hroom : n + 1 ≤ cap
      · exact insM_shift base n i g cap G cur us xs w (by omega) hl hbg hh hroom hcm hcs ht hus hG (fun e => hne (by rw [e]; rfl)) hu h1
      · obtain rfl : cap = n := by omega
        exact insM_grow base cap i g G cur us xs w (by omega) hl hbase hh hcs ht hus hG hu h1
end Go.Proofs.YtemjmnpclknfaaaGreat.T
