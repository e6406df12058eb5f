/- Rack: slices.Insert of one thing, at bytes. -/
import Derived.Test.YtbilkelbelimjaaK2
namespace Go.Proofs.Ytbilkelbelimjaa
open Go.RowKit
set_option maxRecDepth 20000

theorem info5 : (Try.prog.info? 5).map (fun i => (i.zero, i.size, i.bytes)) = some (some (.int .u8 0), 1, 1) := by kernel_rfl
set_option linter.unusedSimpArgs false in
set_option maxHeartbeats 4000000 in
theorem insB_end (base n G : Nat) (v u : Value) (xs : List Value) (w : World) (hl : n ≤ 1000) (hbase : base ≤ w.heap.size) (hown : w.ownsRow base 5 1 v n xs) (hG : w.heap[G]? = some (.cells #[u] 5 (0, 0))) (hu : u.oneCell' = true) :
    Calls Try.prog 97 #[v, .int .i64 (n : Int), .slice (some ⟨G, 0, none⟩) 1 1] w fun r w' => ∃ v', r = .returned v' ∧ w'.ownsRow base 5 1 v' (n + 1) (xs ++ [u]) ∧ w.grownBy w' v.ownBlock := by
  obtain ⟨i0, hi0, hz0, hz1, hz2⟩ := info_parts info5
  have hAP : ∀ ty, ∃ v' w', (Builtin.append_ #[51, 51] ty #[v, .slice (some ⟨G, 0, none⟩) 1 1]).run Try.prog w = .ok v' w' ∧ w'.ownsRow base 5 1 v' (n + 1) (xs ++ [u]) ∧ w.grownBy w' v.ownBlock := fun ty => by
    obtain ⟨v', w', hr, h2, h3, _⟩ := run_append_own (P := Try.prog) w base 51 ty 5 i0 _ 1 1 Try.underlying51 hi0 hz0 hz1 hz2 rfl (by decide) v n xs hown ⟨G, 0, none⟩ 1 1 [u] rfl (fun j y hy => by
      rcases j with _ | j
      · simp at hy
        subst hy
        exact cell_of_row w G 0 _ _ _ hG
      · simp at hy) (fun y hy => by simp at hy; rw [hy]; exact hu) (by unfold maxLen; omega) (by omega) hbase
    exact ⟨v', w', hr, h2, h3⟩
  obtain ⟨v', w', hr, h2, h3⟩ := hAP 51
  have H2 := Lib.hid h2
  have H3 := Lib.hid h3
  have hn1 : ¬((1 : Int) = 0) := by omega
  rcases hown.2 with ⟨rfl, h0⟩ | ⟨g, cap, cur, rfl, hbg, hh, hnc, hcm, hcs, ht⟩
  · subst h0
    clear hAP h2 h3 hown hG
    go_enter Try.func97, Try.ntmps97
    go_wp2_with (at_builtin; refine Lib.wpList_append_run _ rfl _ _ _ _ rfl _ _ rfl rfl _ _ hr ?_)
    go_ret
    exact ⟨_, rfl, H2.out, H3.out⟩
  · clear hAP h2 h3 hown hG hh hcs ht
    by_cases hcn : cap = n
    · subst hcn
      go_enter Try.func97, Try.ntmps97
      go_wp2_with (at_builtin; refine Lib.wpList_append_run _ rfl _ _ _ _ rfl _ _ rfl rfl _ _ hr ?_)
      go_ret
      exact ⟨_, rfl, H2.out, H3.out⟩
    · go_enter Try.func97, Try.ntmps97
      go_wp2_with (at_builtin; refine Lib.wpList_append_run _ rfl _ _ _ _ rfl _ _ rfl rfl _ _ hr ?_)
      go_ret
      exact ⟨_, rfl, H2.out, H3.out⟩

set_option linter.unusedSimpArgs false in
set_option maxHeartbeats 8000000 in
theorem insB_shift (base n i g cap G : Nat) (cur : Array Value) (u : Value) (xs : List Value) (w : World) (hi : i < n) (hl : n ≤ 1000) (hbg : base ≤ g) (hh : w.heap[g]? = some (.cells cur 5 (0, 0))) (hnc : n + 1 ≤ cap) (hcm : cap ≤ maxLen) (hcs : cur.size = cap) (ht : cur.toList.take n = xs) (hG : w.heap[G]? = some (.cells #[u] 5 (0, 0))) (hne : G ≠ g) (hu : u.oneCell' = true) (h1 : ∀ x ∈ xs, x.oneCell' = true) :
    Calls Try.prog 97 #[.slice (some ⟨g, 0, none⟩) n cap, .int .i64 (i : Int), .slice (some ⟨G, 0, none⟩) 1 1] w fun r w' => ∃ v', r = .returned v' ∧ w'.ownsRow base 5 1 v' (n + 1) (xs.take i ++ [u] ++ xs.drop i) ∧ w.grownBy w' (some g) := by
  obtain ⟨i0, hi0, hz0, hz1, hz2⟩ := info_parts info5
  have hsz : (Try.prog.info? 5).map (·.size) = some 1 := by rw [hi0]; simp [hz1]
  have hzs : ∀ w, (Go.sizeOf 5).run Try.prog w = .ok 1 w := fun w => by simp [Go.sizeOf, typeInfo, hi0, hz1]
  have hxl : xs.length = n := by rw [← ht, List.length_take, Array.length_toList]; omega
  have hdl : (xs.drop i).length = n - i := by rw [List.length_drop, hxl]
  have hxc : ∀ j v, xs[j]? = some v → w.cell? ⟨g, j, none⟩ = some v := fun j v hj => by
    rw [cell_of_row w g j _ _ _ hh, ← hj, ← ht, List.getElem?_take, Array.getElem?_toList]
    split
    · rfl
    · have := (List.getElem?_eq_some_iff.1 hj).1
      omega
  have hsp : ∀ j, j < cap → (w.cell? ⟨g, j, none⟩).isSome = true := fun j hj => by
    rw [cell_of_row w g j _ _ _ hh, Array.getElem?_eq_getElem (by omega)]
    rfl
  have hfz : ∀ j, w.frozen? ⟨g, j, none⟩ = false := fun j => frozen_of_row w _ j _ _ hh
  have hov : ∀ lb cb, (callFunc 113 #[.slice (some ⟨G, 0, none⟩) 1 1, .slice (some ⟨g, i + 1, none⟩) lb cb]).run Try.prog w = .ok (.value (.bool false)) w := fun lb cb => by
    rw [run_callFunc_extern (fn := (Try.prog.funcs[113]?).get (by kernel_rfl)) (e := Extern.SlicesOverlaps.overlaps #[51, 51] #[4]) (by kernel_rfl) (by kernel_rfl) (by kernel_rfl) (by kernel_rfl) (by kernel_rfl),
      Lib.run_overlaps_apart w 51 4 5 Try.underlying51 1 hzs ⟨G, 0, none⟩ ⟨g, i + 1, none⟩ 1 1 lb cb hne 5 5 1 cur.size (shape_row hG) (shape_row hh) (by omega) (frozen_of_row w _ 0 _ _ hG) (frozen_of_row w _ 1 _ _ hG)]
    rfl
  have hz1' : ¬ ((1 : Int) = 0) := by omega
  have hz2' : ¬ ((i : Int) = (n : Int)) := by omega
  have hb2 : ¬ (cap = i + 1) := by omega
  have hb4 : ¬ (cap = i) := by omega
  have hcp1 : ∀ ty dc sc, (Builtin.copy_ #[51, 51] ty #[.slice (some ⟨g, i + 1, none⟩) (n - i) dc, .slice (some ⟨g, i, none⟩) (n + 1 - i) sc]).run Try.prog w.drew = .ok (goInt (xs.drop i).length) (w.drew.setCells g (i + 1) (xs.drop i)) := fun ty dc sc =>
    run_copy_cells w.drew _ _ ty 5 g (i + 1) (n - i) dc ⟨g, i, none⟩ (n + 1 - i) sc (xs.drop i) Try.underlying51 hsz (by rw [hdl]; simp only [Nat.min_def]; split <;> omega)
      (fun j v hj => by rw [Addr.add_lit]; exact hxc (i + j) v (by rwa [List.getElem?_drop] at hj))
      (fun j hj => hsp _ (by omega)) (fun j _ => hfz _) (fun v hv => h1 v (List.mem_of_mem_drop hv))
  obtain ⟨W1, hW1⟩ : ∃ W1, W1 = w.drew.setCells g (i + 1) (xs.drop i) := ⟨_, rfl⟩
  obtain ⟨L1, hL1⟩ : ∃ L1, L1 = cur.toList.take (i + 1) ++ xs.drop i ++ cur.toList.drop (i + 1 + (xs.drop i).length) := ⟨_, rfl⟩
  have hll : L1.length = cap := by rw [hL1]; simp [hdl]; omega
  have hrow1 : W1.heap[g]? = some (.cells L1.toArray 5 (0, 0)) := by rw [hW1, hL1]; exact setCells_row g 5 (xs.drop i) (i + 1) w.drew cur hh (by omega)
  have hG1 : W1.heap[G]? = some (.cells #[u] 5 (0, 0)) := by rw [hW1, setCells_other g _ _ _ G hne]; exact hG
  have hcp2 : ∀ ty dc, (Builtin.copy_ #[51, 51] ty #[.slice (some ⟨g, i, none⟩) (n + 1 - i) dc, .slice (some ⟨G, 0, none⟩) 1 1]).run Try.prog W1 = .ok (goInt [u].length) (W1.setCells g i [u]) := fun ty dc =>
    run_copy_cells W1 _ _ ty 5 g i (n + 1 - i) dc ⟨G, 0, none⟩ 1 1 [u] Try.underlying51 hsz (by simp only [Nat.min_def, List.length_cons, List.length_nil]; split <;> omega)
      (fun j v hj => by
        rcases j with _ | j
        · simp at hj
          subst hj
          exact cell_of_row W1 G 0 _ _ _ hG1
        · simp at hj)
      (fun j hj => by
        rw [cell_of_row W1 g (i + j) _ _ _ hrow1]
        have hj0 : j = 0 := by simp at hj; exact hj
        subst hj0
        rw [Array.getElem?_eq_getElem (by rw [List.size_toArray]; omega)]
        rfl) (fun j _ => frozen_of_row W1 _ _ _ _ hrow1) (fun v hv => by simp at hv; rw [hv]; exact hu)
  have hfin : (W1.setCells g i [u]).heap[g]? = some (.cells (L1.take i ++ [u] ++ L1.drop (i + [u].length)).toArray 5 (0, 0)) := setCells_row g 5 [u] i W1 _ hrow1 (by rw [List.size_toArray]; simp; omega)
  have hOW : (W1.setCells g i [u]).ownsRow base 5 1 (.slice (some ⟨g, 0, none⟩) (n + 1) cap) (n + 1) (xs.take i ++ [u] ++ xs.drop i) := by
    refine ⟨?_, .inr ⟨g, cap, _, rfl, hbg, hfin, hnc, hcm, ?_, ?_⟩⟩
    · rw [List.length_append, List.length_append, List.length_take, hdl, hxl]
      simp
      omega
    · simp
      omega
    · rw [Nat.mul_one]
      show (L1.take i ++ [u] ++ L1.drop (i + [u].length)).take (n + 1) = _
      rw [hL1]
      exact spliced cur.toList xs u i n hi (by rw [Array.length_toList]; omega) ht hxl
  have hGR : w.grownBy (W1.setCells g i [u]) (some g) := by
    refine grown_trans ?_ (setCells_grown g i [u] W1)
    rw [hW1]
    exact grown_trans (drew_grown (World.grownBy.refl w _)) (setCells_grown g _ _ _)
  have HOW := Lib.hid hOW
  have HGR := Lib.hid hGR
  rw [← hW1] at hcp1
  have hin : i ≤ n := by omega
  have hb3 : (i : Int) ≤ (n : Int) + 1 := by omega
  have htn : ((i : Int) + 1).toNat = i + 1 := by omega
  have hw1 : IntKind.i64.wrap ((i : Int) + 1) = (i : Int) + 1 := by rw [IntKind.wrap_i64]; omega
  have hb1 : (0 : Int) ≤ (i : Int) + 1 := by omega
  have hb5 : (i : Int) + 1 ≤ (n : Int) + 1 := by omega
  clear hxl hdl hxc hsp hfz hll hL1 hrow1 hG1 hfin hOW hGR hh hcs ht hG h1 hW1 hcm
  go_enter Try.func97, Try.ntmps97
  go_wp2_with (simp only [hov])
  go_region_law (refine step_copy_runI rfl _ _ 51 51 rfl _ _ (by simp [Act.eval, Act.put]) (by simp [Act.eval, Act.put]) (hcp1 _ _ _) ?_)
  go_wp2_with (at_builtin; refine wpList_copy_runI _ rfl _ _ 51 51 rfl _ _ rfl rfl (hcp2 _ _) ?_)
  go_ret
  exact ⟨_, rfl, HOW.out, HGR.out⟩

set_option linter.unusedSimpArgs false in
set_option maxHeartbeats 8000000 in
theorem insB_grow (base n i g G : Nat) (cur : Array Value) (u : Value) (xs : List Value) (w : World) (hi : i < n) (hl : n ≤ 1000) (hbase : base ≤ w.heap.size) (hh : w.heap[g]? = some (.cells cur 5 (0, 0))) (hcs : cur.size = n) (ht : cur.toList.take n = xs) (hG : w.heap[G]? = some (.cells #[u] 5 (0, 0))) (hu : u.oneCell' = true) (h1 : ∀ x ∈ xs, x.oneCell' = true) :
    Calls Try.prog 97 #[.slice (some ⟨g, 0, none⟩) n n, .int .i64 (i : Int), .slice (some ⟨G, 0, none⟩) 1 1] w fun r w' => ∃ v', r = .returned v' ∧ w'.ownsRow base 5 1 v' (n + 1) (xs.take i ++ [u] ++ xs.drop i) ∧ w.grownBy w' (some g) := by
  obtain ⟨i0, hi0, hz0, hzz, hz2⟩ := info_parts info5
  have hsz : (Try.prog.info? 5).map (·.size) = some 1 := by rw [hi0]; simp [hzz]
  have hxl : xs.length = n := by rw [← ht, List.length_take, Array.length_toList]; omega
  have hdl : (xs.drop i).length = n - i := by rw [List.length_drop, hxl]
  have hxc : ∀ j v, xs[j]? = some v → w.cell? ⟨g, j, none⟩ = some v := fun j v hj => by
    rw [cell_of_row w g j _ _ _ hh, ← hj, ← ht, List.getElem?_take, Array.getElem?_toList]
    split
    · rfl
    · have := (List.getElem?_eq_some_iff.1 hj).1
      omega
  have hkk : (n : Int) + 1 - (i : Int) = ((n + 1 - i : Nat) : Int) := by omega
  have hik : i + (n + 1 - i) = n + 1 := by omega
  have hold : (Builtin.firstCells i0.size i (.slice (some ⟨g, 0, none⟩) i n)).run Try.prog w.drew = .ok (xs.take i).toArray w.drew := by
    rw [hzz]
    exact run_firstCells_some w.drew 1 i ⟨g, 0, none⟩ i n (xs.take i) (by rw [List.length_take]; omega) (fun j v hj => by
      rw [Addr.add_lit, Nat.zero_add]
      rw [List.getElem?_take] at hj
      split at hj
      · exact hxc j v hj
      · cases hj)
  obtain ⟨K, hK⟩ : ∃ K, K = grownCap w (n + 1) n 5 := ⟨_, rfl⟩
  have hK1 : n + 1 ≤ K := by rw [hK]; exact grownCap_ge w _ _ _
  have hKm : K ≤ maxLen := by rw [hK]; exact grownCap_le_maxLen w (n + 1) n 5 (by unfold maxLen; omega)
  obtain ⟨ROW, hROW⟩ : ∃ ROW : Array Value, ROW = (xs.take i).toArray ++ Builtin.zeroCells (.int .u8 0 : Value).cells (n + 1 - i) ++ Builtin.zeroCells (.int .u8 0 : Value).cells (K - (n + 1)) := ⟨_, rfl⟩
  obtain ⟨W1, hW1⟩ : ∃ W1, W1 = w.drew.alloc (.cells ROW 5) := ⟨_, rfl⟩
  obtain ⟨N, hN⟩ : ∃ N, N = w.heap.size := ⟨_, rfl⟩
  have hrz : ∀ ty, (Builtin.append_ #[51, 3] ty #[.slice (some ⟨g, 0, none⟩) i n, .int .i64 ((n : Int) + 1 - (i : Int))]).run Try.prog w = .ok (.slice (some ⟨N, 0, none⟩) (n + 1) K) W1 := fun ty => by
    have h := Lib.run_append_grow_zeros w 51 3 ty 5 i0 _ .i64 .i64 Try.underlying51 Try.underlying3 hi0 hz0 (some ⟨g, 0, none⟩) i n (xs.take i) hold (n + 1 - i) (by omega) (by omega) (by omega) (by omega) (by rw [hz2]; omega) (by rw [hz2, hik]; exact growslice_fits (by omega) (by omega))
    rw [hik, ← hK, ← hROW, ← hW1, ← hN] at h
    rw [hkk]
    exact h
  have hRl : ROW.size = K := by
    rw [hROW]
    simp [Builtin.zeroCells, Value.cells, hxl]
    omega
  have hRt : ROW.toList.take i = xs.take i := by
    rw [hROW, Array.toList_append, Array.toList_append, List.append_assoc, List.take_append_of_le_length (by simp [hxl]; omega), List.toList_toArray, List.take_take, Nat.min_self]
  have hN1 : W1.heap[N]? = some (.cells ROW 5 (0, 0)) := by rw [hW1, hN]; exact heap_alloc_new w.drew _
  have hgw : g < w.heap.size := lt_of_block hh
  have hGw : G < w.heap.size := lt_of_block hG
  have hg1 : W1.heap[g]? = some (.cells cur 5 (0, 0)) := by rw [hW1]; exact (Below.heap_alloc w.drew _ _ hgw).trans hh
  have hG1 : W1.heap[G]? = some (.cells #[u] 5 (0, 0)) := by rw [hW1]; exact (Below.heap_alloc w.drew _ _ hGw).trans hG
  have hgN : g ≠ N := by omega
  have hgr1 : w.grownBy W1 (some g) := by rw [hW1]; exact ⟨rfl, rfl, rfl, by simp, fun k hk _ => Below.heap_alloc w.drew _ _ hk⟩
  have hcpA : ∀ ty dc, (Builtin.copy_ #[51, 51] ty #[.slice (some ⟨N, i, none⟩) (n + 1 - i) dc, .slice (some ⟨G, 0, none⟩) 1 1]).run Try.prog W1 = .ok (goInt [u].length) (W1.setCells N i [u]) := fun ty dc =>
    run_copy_cells W1 _ _ ty 5 N i (n + 1 - i) dc ⟨G, 0, none⟩ 1 1 [u] Try.underlying51 hsz (by simp only [Nat.min_def, List.length_cons, List.length_nil]; split <;> omega)
      (fun j v hj => by
        rcases j with _ | j
        · simp at hj
          subst hj
          exact cell_of_row W1 G 0 _ _ _ hG1
        · simp at hj)
      (fun j hj => by
        rw [cell_of_row W1 N (i + j) _ _ _ hN1]
        have hj0 : j = 0 := by simp at hj; exact hj
        subst hj0
        rw [Array.getElem?_eq_getElem (by omega)]
        rfl) (fun j _ => frozen_of_row W1 _ _ _ _ hN1) (fun v hv => by simp at hv; rw [hv]; exact hu)
  obtain ⟨L1, hL1⟩ : ∃ L1, L1 = ROW.toList.take i ++ [u] ++ ROW.toList.drop (i + [u].length) := ⟨_, rfl⟩
  have hll : L1.length = K := by rw [hL1]; simp; omega
  obtain ⟨W2, hW2⟩ : ∃ W2, W2 = W1.setCells N i [u] := ⟨_, rfl⟩
  rw [← hW2] at hcpA
  have hN2 : W2.heap[N]? = some (.cells L1.toArray 5 (0, 0)) := by rw [hW2, hL1]; exact setCells_row N 5 [u] i W1 ROW hN1 (by simp; omega)
  have hg2 : W2.heap[g]? = some (.cells cur 5 (0, 0)) := by rw [hW2, setCells_other N _ _ _ g hgN]; exact hg1
  have hgr2 : W1.grownBy W2 (some N) := by rw [hW2]; exact setCells_grown N i [u] W1
  have hcpB : ∀ ty dc sc, (Builtin.copy_ #[51, 51] ty #[.slice (some ⟨N, i + 1, none⟩) (n - i) dc, .slice (some ⟨g, i, none⟩) (n - i) sc]).run Try.prog W2.drew = .ok (goInt (xs.drop i).length) (W2.drew.setCells N (i + 1) (xs.drop i)) := fun ty dc sc =>
    run_copy_cells W2.drew _ _ ty 5 N (i + 1) (n - i) dc ⟨g, i, none⟩ (n - i) sc (xs.drop i) Try.underlying51 hsz (by rw [hdl]; simp only [Nat.min_def]; split <;> omega)
      (fun j v hj => by
        rw [Addr.add_lit]
        rw [List.getElem?_drop] at hj
        have h2 := cell_of_row W2.drew g (i + j) _ _ _ hg2
        have h3 := cell_of_row w g (i + j) _ _ _ hh
        rw [h2, ← h3]
        exact hxc (i + j) v hj)
      (fun j hj => by
        rw [cell_of_row W2.drew N (i + 1 + j) _ _ _ hN2, Array.getElem?_eq_getElem (by rw [List.size_toArray]; omega)]
        rfl) (fun j _ => frozen_of_row W2.drew _ _ _ _ hN2) (fun v hv => h1 v (List.mem_of_mem_drop hv))
  have hfin : (W2.drew.setCells N (i + 1) (xs.drop i)).heap[N]? = some (.cells (L1.take (i + 1) ++ xs.drop i ++ L1.drop (i + 1 + (xs.drop i).length)).toArray 5 (0, 0)) := setCells_row N 5 (xs.drop i) (i + 1) W2.drew _ hN2 (by rw [List.size_toArray]; omega)
  have hOW : (W2.drew.setCells N (i + 1) (xs.drop i)).ownsRow base 5 1 (.slice (some ⟨N, 0, none⟩) (n + 1) K) (n + 1) (xs.take i ++ [u] ++ xs.drop i) := by
    refine ⟨?_, .inr ⟨N, K, _, rfl, by omega, hfin, hK1, hKm, ?_, ?_⟩⟩
    · rw [List.length_append, List.length_append, List.length_take, hdl, hxl]
      simp
      omega
    · simp [hdl]
      omega
    · rw [Nat.mul_one]
      show (L1.take (i + 1) ++ xs.drop i ++ L1.drop (i + 1 + (xs.drop i).length)).take (n + 1) = _
      rw [hL1]
      exact spliced2 ROW.toList xs u i n hi (by rw [Array.length_toList]; omega) hRt hxl
  have hGR : w.grownBy (W2.drew.setCells N (i + 1) (xs.drop i)) (some g) :=
    grown_new (grown_new hgr1 (drew_grown hgr2) (by omega)) (setCells_grown N _ _ _) (by omega)
  have HOW := Lib.hid hOW
  have HGR := Lib.hid hGR
  have hz1' : ¬ ((1 : Int) = 0) := by omega
  have hz2' : ¬ ((i : Int) = (n : Int)) := by omega
  have hGi : ¬ (K = i) := by omega
  have hGim : ¬ (K = i + 1) := by omega
  have hci : ¬ (n = i) := by omega
  have hin : i ≤ n := by omega
  have hb3 : (i : Int) ≤ (n : Int) + 1 := by omega
  have htn : ((i : Int) + 1).toNat = i + 1 := by omega
  have hw1 : IntKind.i64.wrap ((i : Int) + 1) = (i : Int) + 1 := by rw [IntKind.wrap_i64]; omega
  have hb1 : (0 : Int) ≤ (i : Int) + 1 := by omega
  have hb5 : (i : Int) + 1 ≤ (n : Int) + 1 := by omega
  clear hxl hdl hxc hkk hik hold hROW hRl hRt hN1 hgw hGw hg1 hG1 hgN hgr1 hgr2 hL1 hll hN2 hg2 hfin hOW hGR hh hcs ht hG h1 hW1 hW2 hKm hK hN
  go_enter Try.func97, Try.ntmps97
  go_wp2_with (first
    | (at_builtin; refine Lib.wpList_append_run _ rfl _ _ _ _ rfl _ _ rfl rfl _ _ (hrz _) ?_)
    | (at_builtin; refine wpList_copy_runI _ rfl _ _ 51 51 rfl _ _ rfl rfl (hcpA _ _) ?_))
  go_region_law (refine step_copy_runI rfl _ _ 51 51 rfl _ _ (by simp [Act.eval, Act.put]) (by simp [Act.eval, Act.put]) (hcpB _ _ _) ?_)
  go_wp2
  go_ret
  exact ⟨_, rfl, HOW.out, HGR.out⟩

/-- slices.Insert of one thing into a row of one's own. -/
theorem insB_any (base n i G : Nat) (v u : Value) (xs : List Value) (w : World) (hi : i ≤ n) (hl : n ≤ 1000) (hbase : base ≤ w.heap.size) (hown : w.ownsRow base 5 1 v n xs) (hG : w.heap[G]? = some (.cells #[u] 5 (0, 0))) (hne : v.ownBlock ≠ some G) (hu : u.oneCell' = true) (h1 : ∀ x ∈ xs, x.oneCell' = true) :
    Calls Try.prog 97 #[v, .int .i64 (i : Int), .slice (some ⟨G, 0, none⟩) 1 1] w fun r w' => ∃ v', r = .returned v' ∧ w'.ownsRow base 5 1 v' (n + 1) (xs.take i ++ [u] ++ xs.drop i) ∧ w.grownBy w' v.ownBlock := by
  have hxl : xs.length = n := by have := hown.1; omega
  by_cases hin : i = n
  · subst hin
    rw [List.take_of_length_le (by omega), List.drop_eq_nil_of_le (by omega), List.append_nil]
    exact insB_end base i G v u xs w hl hbase hown hG hu
  · rcases hown.2 with ⟨rfl, h0⟩ | ⟨g, cap, cur, rfl, hbg, hh, hnc, hcm, hcs, ht⟩
    · omega
    · rw [Nat.mul_one] at hcs ht
      by_cases hroom : n + 1 ≤ cap
      · exact insB_shift base n i g cap G cur u xs w (by omega) hl hbg hh hroom hcm hcs ht hG (fun e => hne (by rw [e]; rfl)) hu h1
      · obtain rfl : cap = n := by omega
        exact insB_grow base cap i g G cur u xs w (by omega) hl hbase hh hcs ht hG hu h1
end Go.Proofs.Ytbilkelbelimjaa
