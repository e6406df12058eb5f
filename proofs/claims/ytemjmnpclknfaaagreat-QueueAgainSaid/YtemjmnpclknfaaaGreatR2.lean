/- Rack: rows written into; slices.Insert of one thing, at numbers. -/
import Derived.Test.YtemjmnpclknfaaaGreatR1
import Derived.Laws.AppendOwn
import Derived.Laws.IdiomCopy
import Derived.Laws.NewBlocks
import Derived.Shelf.Spec.SlicesInsert
import Derived.Lib.AppendZerosOnto
import Derived.Maps.AppendAt
namespace Go.Proofs.YtemjmnpclknfaaaGreat
open Go.RowKit
set_option maxRecDepth 20000

theorem set_mid (l : List Value) (o : Nat) (v : Value) (r : List Value) (h : o + (r.length + 1) ≤ l.length) :
    (l.set o v).take (o + 1) ++ r ++ (l.set o v).drop (o + 1 + r.length) = l.take o ++ (v :: r) ++ l.drop (o + (r.length + 1)) := by
  have e1 : (l.set o v).take (o + 1) = l.take o ++ [v] := by
    rw [List.take_add_one, List.getElem?_set_self (by omega), List.take_set_of_le (Nat.le_refl o)]
    rfl
  have e2 : (l.set o v).drop (o + 1 + r.length) = l.drop (o + (r.length + 1)) := by
    rw [List.drop_set_of_lt (by omega), show o + 1 + r.length = o + (r.length + 1) by omega]
  rw [e1, e2]
  simp
theorem setCells_row (g T : Nat) : ∀ (vs : List Value) (o : Nat) (w : World) (cur : Array Value), w.heap[g]? = some (.cells cur T (0, 0)) → o + vs.length ≤ cur.size →
    (w.setCells g o vs).heap[g]? = some (.cells (cur.toList.take o ++ vs ++ cur.toList.drop (o + vs.length)).toArray T (0, 0))
  | [], o, w, cur, h, _ => by
    simp only [World.setCells, List.append_nil, List.length_nil, Nat.add_zero, List.take_append_drop]
    exact h
  | v :: r, o, w, cur, h, hl => by
    have h1 := heap_setCell_same w g o cur T v h
    have hs : o + 1 + r.length ≤ (cur.setIfInBounds o v).size := by
      rw [Array.size_setIfInBounds]
      simp only [List.length_cons] at hl
      omega
    have ih := setCells_row g T r (o + 1) _ _ h1 hs
    rw [World.setCells, ih, Array.toList_setIfInBounds, set_mid _ _ _ _ (by simpa using hl)]
    rfl
theorem setCells_other (g : Nat) : ∀ (vs : List Value) (o : Nat) (w : World) (k : Nat), k ≠ g → (w.setCells g o vs).heap[k]? = w.heap[k]?
  | [], _, _, _, _ => rfl
  | v :: r, o, w, k, h => by rw [World.setCells, setCells_other g r (o + 1) _ k h, Below.heap_setCell _ _ _ _ h]
theorem setCells_same (g : Nat) : ∀ (vs : List Value) (o : Nat) (w : World), (w.setCells g o vs).os = w.os ∧ (w.setCells g o vs).tape = w.tape ∧ (w.setCells g o vs).output = w.output ∧ (w.setCells g o vs).heap.size = w.heap.size
  | [], _, _ => ⟨rfl, rfl, rfl, rfl⟩
  | v :: r, o, w => by
    obtain ⟨h1, h2, h3, h4⟩ := setCells_same g r (o + 1) (w.setCell ⟨g, o, none⟩ v)
    exact ⟨h1, h2, h3, h4.trans (World.size_setCell ..)⟩
theorem setCells_grown (g o : Nat) (vs : List Value) (w : World) : w.grownBy (w.setCells g o vs) (some g) := by
  obtain ⟨h1, h2, h3, h4⟩ := setCells_same g vs o w
  exact ⟨h1, h2, h3, by omega, fun k _ hne => setCells_other g vs o w k (fun e => hne (by rw [e]))⟩
theorem drew_grown {w w' : World} {row : Option Nat} (h : w.grownBy w' row) : w.grownBy w'.drew row := ⟨h.os, h.tape, h.output, h.size, h.block⟩
theorem grown_trans {w w' w'' : World} {row : Option Nat} (h : w.grownBy w' row) (h' : w'.grownBy w'' row) : w.grownBy w'' row :=
  ⟨h'.os.trans h.os, h'.tape.trans h.tape, h'.output.trans h.output, Nat.le_trans h.size h'.size, fun k hk hne => (h'.block k (Nat.lt_of_lt_of_le hk h.size) hne).trans (h.block k hk hne)⟩
theorem shape_row {w : World} {g T : Nat} {cur : Array Value} (h : w.heap[g]? = some (.cells cur T (0, 0))) : w.shape? g = some (T, cur.size) := by
  unfold World.shape?
  rw [h]
theorem spliced (cur xs : List Value) (u : Value) (i n : Nat) (hi : i < n) (hn : n + 1 ≤ cur.length) (hx : cur.take n = xs) (hxl : xs.length = n) :
    (((cur.take (i + 1) ++ xs.drop i ++ cur.drop (i + 1 + (xs.drop i).length)).take i ++ [u] ++ (cur.take (i + 1) ++ xs.drop i ++ cur.drop (i + 1 + (xs.drop i).length)).drop (i + [u].length)).take (n + 1)) = xs.take i ++ [u] ++ xs.drop i := by
  have hd : (xs.drop i).length = n - i := by rw [List.length_drop, hxl]
  have h1 : (cur.take (i + 1)).length = i + 1 := by rw [List.length_take]; omega
  have h2 : (cur.take (i + 1) ++ xs.drop i ++ cur.drop (i + 1 + (xs.drop i).length)).take i = xs.take i := by
    rw [List.append_assoc, List.take_append_of_le_length (by omega), List.take_take, ← hx, List.take_take, show min i (i + 1) = min i n by omega]
  have h3 : (cur.take (i + 1) ++ xs.drop i ++ cur.drop (i + 1 + (xs.drop i).length)).drop (i + [u].length) = xs.drop i ++ cur.drop (i + 1 + (xs.drop i).length) := by
    rw [List.append_assoc, show i + [u].length = (cur.take (i + 1)).length by rw [h1]; rfl, List.drop_left]
  rw [h2, h3, ← List.append_assoc]
  have h4 : (xs.take i ++ [u] ++ xs.drop i).length = n + 1 := by
    rw [List.length_append, List.length_append, List.length_take, hd, hxl]
    simp
    omega
  rw [← h4, List.take_left]
theorem grown_new {w W W' : World} {row : Option Nat} {N : Nat} (h : w.grownBy W row) (h' : W.grownBy W' (some N)) (hN : w.heap.size ≤ N) : w.grownBy W' row :=
  ⟨h'.os.trans h.os, h'.tape.trans h.tape, h'.output.trans h.output, Nat.le_trans h.size h'.size, fun k hk hne => (h'.block k (Nat.lt_of_lt_of_le hk h.size) (fun e => by injection e with e; omega)).trans (h.block k hk hne)⟩
theorem spliced2 (R xs : List Value) (u : Value) (i n : Nat) (hi : i < n) (hn : n + 1 ≤ R.length) (hx : R.take i = xs.take i) (hxl : xs.length = n) :
    (((R.take i ++ [u] ++ R.drop (i + [u].length)).take (i + 1) ++ xs.drop i ++ (R.take i ++ [u] ++ R.drop (i + [u].length)).drop (i + 1 + (xs.drop i).length)).take (n + 1)) = xs.take i ++ [u] ++ xs.drop i := by
  have hd : (xs.drop i).length = n - i := by rw [List.length_drop, hxl]
  have h1 : (R.take i ++ [u]).length = i + 1 := by rw [List.length_append, List.length_take]; simp; omega
  have h2 : (R.take i ++ [u] ++ R.drop (i + [u].length)).take (i + 1) = xs.take i ++ [u] := by
    rw [← h1, List.take_left, hx]
  rw [h2]
  have h4 : (xs.take i ++ [u] ++ xs.drop i).length = n + 1 := by
    rw [List.length_append, List.length_append, List.length_take, hd, hxl]
    simp
    omega
  rw [← h4, List.take_left]

theorem info26 : (Tryz.prog.info? 33).map (fun i => (i.zero, i.size, i.bytes)) = some (some (.int .u32 0), 1, 4) := by kernel_rfl
theorem ins32_end (base n G : Nat) (v u : Value) (xs : List Value) (w : World) (hl : n ≤ 1000) (hbase : base ≤ w.heap.size) (hown : w.ownsRow base 33 1 v n xs) (hG : w.heap[G]? = some (.cells #[u] 33 (0, 0))) (hu : u.oneCell' = true) :
    Calls Tryz.prog 76 #[v, .int .i64 (n : Int), .slice (some ⟨G, 0, none⟩) 1 1] w fun r w' => ∃ v', r = .returned v' ∧ w'.ownsRow base 33 1 v' (n + 1) (xs ++ [u]) ∧ w.grownBy w' v.ownBlock ∧ (v'.ownBlock = v.ownBlock ∨ v'.ownBlock = some w.heap.size) := by
  obtain ⟨i0, hi0, hz0, hz1, hz2⟩ := info_parts info26
  have hAP : ∀ ty, ∃ v' w', (Builtin.append_ #[34, 34] ty #[v, .slice (some ⟨G, 0, none⟩) 1 1]).run Tryz.prog w = .ok v' w' ∧ w'.ownsRow base 33 1 v' (n + 1) (xs ++ [u]) ∧ w.grownBy w' v.ownBlock ∧ (v'.ownBlock = v.ownBlock ∨ v'.ownBlock = some w.heap.size) := fun ty => by
    obtain ⟨v', w', hr, h2, h3, _, h4⟩ := run_append_own_at (P := Tryz.prog) w base 34 ty 33 i0 _ 1 4 Tryz.underlying34 hi0 hz0 hz1 hz2 rfl (by decide) v n xs hown ⟨G, 0, none⟩ 1 1 [u] rfl (fun j y hy => by
      rcases j with _ | j
      · simp at hy
        subst hy
        exact cell_of_row w G 0 _ _ _ hG
      · simp at hy) (fun y hy => by simp at hy; rw [hy]; exact hu) (by unfold maxLen; omega) (by omega) hbase
    exact ⟨v', w', hr, h2, h3, h4⟩
  obtain ⟨v', w', hr, h2, h3, h4⟩ := hAP 34
  have H2 := Lib.hid h2
  have H3 := Lib.hid h3
  have H4 := Lib.hid h4
  have hn1 : ¬((1 : Int) = 0) := by omega
  rcases hown.2 with ⟨rfl, h0⟩ | ⟨g, cap, cur, rfl, hbg, hh, hnc, hcm, hcs, ht⟩
  · subst h0
    clear hAP h2 h3 h4 hown hG
    go_enter Tryz.func76, Tryz.ntmps76
    go_wp2_with (at_builtin; refine Lib.wpList_append_run _ rfl _ _ _ _ rfl _ _ rfl rfl _ _ hr ?_)
    go_ret
    exact ⟨_, rfl, H2.out, H3.out, H4.out⟩
  · clear hAP h2 h3 h4 hown hG hh hcs ht
    by_cases hcn : cap = n
    · subst hcn
      go_enter Tryz.func76, Tryz.ntmps76
      go_wp2_with (at_builtin; refine Lib.wpList_append_run _ rfl _ _ _ _ rfl _ _ rfl rfl _ _ hr ?_)
      go_ret
      exact ⟨_, rfl, H2.out, H3.out, H4.out⟩
    · go_enter Tryz.func76, Tryz.ntmps76
      go_wp2_with (at_builtin; refine Lib.wpList_append_run _ rfl _ _ _ _ rfl _ _ rfl rfl _ _ hr ?_)
      go_ret
      exact ⟨_, rfl, H2.out, H3.out, H4.out⟩

theorem ins32_shift (base n i g cap G : Nat) (cur : Array Value) (u : Value) (xs : List Value) (w : World) (hi : i < n) (hl : n ≤ 1000) (hbg : base ≤ g) (hh : w.heap[g]? = some (.cells cur 33 (0, 0))) (hnc : n + 1 ≤ cap) (hcm : cap ≤ maxLen) (hcs : cur.size = cap) (ht : cur.toList.take n = xs) (hG : w.heap[G]? = some (.cells #[u] 33 (0, 0))) (hne : G ≠ g) (hu : u.oneCell' = true) (h1 : ∀ x ∈ xs, x.oneCell' = true) :
    Calls Tryz.prog 76 #[.slice (some ⟨g, 0, none⟩) n cap, .int .i64 (i : Int), .slice (some ⟨G, 0, none⟩) 1 1] w fun r w' => ∃ v', r = .returned v' ∧ w'.ownsRow base 33 1 v' (n + 1) (xs.take i ++ [u] ++ xs.drop i) ∧ w.grownBy w' (some g) ∧ (v'.ownBlock = some g ∨ v'.ownBlock = some w.heap.size) := by
  obtain ⟨i0, hi0, hz0, hz1, hz2⟩ := info_parts info26
  have hsz : (Tryz.prog.info? 33).map (·.size) = some 1 := by rw [hi0]; simp [hz1]
  have hzs : ∀ w, (Go.sizeOf 33).run Tryz.prog w = .ok 1 w := fun w => by simp [Go.sizeOf, typeInfo, hi0, hz1]
  have hxl : xs.length = n := by rw [← ht, List.length_take, Array.length_toList]; omega
  have hdl : (xs.drop i).length = n - i := by rw [List.length_drop, hxl]
  have hxc : ∀ j v, xs[j]? = some v → w.cell? ⟨g, j, none⟩ = some v := fun j v hj => by
    rw [cell_of_row w g j _ _ _ hh, ← hj, ← ht, List.getElem?_take, Array.getElem?_toList]
    split
    · rfl
    · have := (List.getElem?_eq_some_iff.1 hj).1
      omega
  have hsp : ∀ j, j < cap → (w.cell? ⟨g, j, none⟩).isSome = true := fun j hj => by
    rw [cell_of_row w g j _ _ _ hh, Array.getElem?_eq_getElem (by omega)]
    rfl
  have hfz : ∀ j, w.frozen? ⟨g, j, none⟩ = false := fun j => frozen_of_row w _ j _ _ hh
  have hov : ∀ lb cb, (callFunc 90 #[.slice (some ⟨G, 0, none⟩) 1 1, .slice (some ⟨g, i + 1, none⟩) lb cb]).run Tryz.prog w = .ok (.value (.bool false)) w := fun lb cb => by
    rw [run_callFunc_extern (fn := (Tryz.prog.funcs[90]?).get (by kernel_rfl)) (e := Extern.SlicesOverlaps.overlaps #[34, 34] #[4]) (by kernel_rfl) (by kernel_rfl) (by kernel_rfl) (by kernel_rfl) (by kernel_rfl),
      Lib.run_overlaps_apart w 34 4 33 Tryz.underlying34 1 hzs ⟨G, 0, none⟩ ⟨g, i + 1, none⟩ 1 1 lb cb hne 33 33 1 cur.size (shape_row hG) (shape_row hh) (by omega) (frozen_of_row w _ 0 _ _ hG) (frozen_of_row w _ 1 _ _ hG)]
    rfl
  have hz1' : ¬ ((1 : Int) = 0) := by omega
  have hz2' : ¬ ((i : Int) = (n : Int)) := by omega
  have hb2 : ¬ (cap = i + 1) := by omega
  have hb4 : ¬ (cap = i) := by omega
  have hcp1 : ∀ ty dc sc, (Builtin.copy_ #[34, 34] ty #[.slice (some ⟨g, i + 1, none⟩) (n - i) dc, .slice (some ⟨g, i, none⟩) (n + 1 - i) sc]).run Tryz.prog w.drew = .ok (goInt (xs.drop i).length) (w.drew.setCells g (i + 1) (xs.drop i)) := fun ty dc sc =>
    run_copy_cells w.drew _ _ ty 33 g (i + 1) (n - i) dc ⟨g, i, none⟩ (n + 1 - i) sc (xs.drop i) Tryz.underlying34 hsz (by rw [hdl]; simp only [Nat.min_def]; split <;> omega)
      (fun j v hj => by rw [Addr.add_lit]; exact hxc (i + j) v (by rwa [List.getElem?_drop] at hj))
      (fun j hj => hsp _ (by omega)) (fun j _ => hfz _) (fun v hv => h1 v (List.mem_of_mem_drop hv))
  obtain ⟨W1, hW1⟩ : ∃ W1, W1 = w.drew.setCells g (i + 1) (xs.drop i) := ⟨_, rfl⟩
  obtain ⟨L1, hL1⟩ : ∃ L1, L1 = cur.toList.take (i + 1) ++ xs.drop i ++ cur.toList.drop (i + 1 + (xs.drop i).length) := ⟨_, rfl⟩
  have hll : L1.length = cap := by rw [hL1]; simp [hdl]; omega
  have hrow1 : W1.heap[g]? = some (.cells L1.toArray 33 (0, 0)) := by rw [hW1, hL1]; exact setCells_row g 33 (xs.drop i) (i + 1) w.drew cur hh (by omega)
  have hG1 : W1.heap[G]? = some (.cells #[u] 33 (0, 0)) := by rw [hW1, setCells_other g _ _ _ G hne]; exact hG
  have hcp2 : ∀ ty dc, (Builtin.copy_ #[34, 34] ty #[.slice (some ⟨g, i, none⟩) (n + 1 - i) dc, .slice (some ⟨G, 0, none⟩) 1 1]).run Tryz.prog W1 = .ok (goInt [u].length) (W1.setCells g i [u]) := fun ty dc =>
    run_copy_cells W1 _ _ ty 33 g i (n + 1 - i) dc ⟨G, 0, none⟩ 1 1 [u] Tryz.underlying34 hsz (by simp only [Nat.min_def, List.length_cons, List.length_nil]; split <;> omega)
      (fun j v hj => by
        rcases j with _ | j
        · simp at hj
          subst hj
          exact cell_of_row W1 G 0 _ _ _ hG1
        · simp at hj)
      (fun j hj => by
        rw [cell_of_row W1 g (i + j) _ _ _ hrow1]
        have hj0 : j = 0 := by simp at hj; exact hj
        subst hj0
        rw [Array.getElem?_eq_getElem (by rw [List.size_toArray]; omega)]
        rfl) (fun j _ => frozen_of_row W1 _ _ _ _ hrow1) (fun v hv => by simp at hv; rw [hv]; exact hu)
  have hfin : (W1.setCells g i [u]).heap[g]? = some (.cells (L1.take i ++ [u] ++ L1.drop (i + [u].length)).toArray 33 (0, 0)) := setCells_row g 33 [u] i W1 _ hrow1 (by rw [List.size_toArray]; simp; omega)
  have hOW : (W1.setCells g i [u]).ownsRow base 33 1 (.slice (some ⟨g, 0, none⟩) (n + 1) cap) (n + 1) (xs.take i ++ [u] ++ xs.drop i) := by
    refine ⟨?_, .inr ⟨g, cap, _, rfl, hbg, hfin, hnc, hcm, ?_, ?_⟩⟩
    · rw [List.length_append, List.length_append, List.length_take, hdl, hxl]
      simp
      omega
    · simp
      omega
    · rw [Nat.mul_one]
      show (L1.take i ++ [u] ++ L1.drop (i + [u].length)).take (n + 1) = _
      rw [hL1]
      exact spliced cur.toList xs u i n hi (by rw [Array.length_toList]; omega) ht hxl
  have hGR : w.grownBy (W1.setCells g i [u]) (some g) := by
    refine grown_trans ?_ (setCells_grown g i [u] W1)
    rw [hW1]
    exact grown_trans (drew_grown (World.grownBy.refl w _)) (setCells_grown g _ _ _)
  have HOW := Lib.hid hOW
  have HGR := Lib.hid hGR
  rw [← hW1] at hcp1
  have hin : i ≤ n := by omega
  have hb3 : (i : Int) ≤ (n : Int) + 1 := by omega
  have htn : ((i : Int) + 1).toNat = i + 1 := by omega
  have hw1 : IntKind.i64.wrap ((i : Int) + 1) = (i : Int) + 1 := by rw [IntKind.wrap_i64]; omega
  have hb1 : (0 : Int) ≤ (i : Int) + 1 := by omega
  have hb5 : (i : Int) + 1 ≤ (n : Int) + 1 := by omega
  clear hxl hdl hxc hsp hfz hll hL1 hrow1 hG1 hfin hOW hGR hh hcs ht hG h1 hW1 hcm
  go_enter Tryz.func76, Tryz.ntmps76
  go_wp2_with (simp only [hov])
  go_region_law (refine step_copy_runI rfl _ _ 34 34 rfl _ _ (by simp [Act.eval, Act.put]) (by simp [Act.eval, Act.put]) (hcp1 _ _ _) ?_)
  go_wp2_with (at_builtin; refine wpList_copy_runI _ rfl _ _ 34 34 rfl _ _ rfl rfl (hcp2 _ _) ?_)
  go_ret
  exact ⟨_, rfl, HOW.out, HGR.out, .inl rfl⟩

theorem ins32_grow (base n i g G : Nat) (cur : Array Value) (u : Value) (xs : List Value) (w : World) (hi : i < n) (hl : n ≤ 1000) (hbase : base ≤ w.heap.size) (hh : w.heap[g]? = some (.cells cur 33 (0, 0))) (hcs : cur.size = n) (ht : cur.toList.take n = xs) (hG : w.heap[G]? = some (.cells #[u] 33 (0, 0))) (hu : u.oneCell' = true) (h1 : ∀ x ∈ xs, x.oneCell' = true) :
    Calls Tryz.prog 76 #[.slice (some ⟨g, 0, none⟩) n n, .int .i64 (i : Int), .slice (some ⟨G, 0, none⟩) 1 1] w fun r w' => ∃ v', r = .returned v' ∧ w'.ownsRow base 33 1 v' (n + 1) (xs.take i ++ [u] ++ xs.drop i) ∧ w.grownBy w' (some g) ∧ (v'.ownBlock = some g ∨ v'.ownBlock = some w.heap.size) := by
  obtain ⟨i0, hi0, hz0, hzz, hz2⟩ := info_parts info26
  have hsz : (Tryz.prog.info? 33).map (·.size) = some 1 := by rw [hi0]; simp [hzz]
  have hxl : xs.length = n := by rw [← ht, List.length_take, Array.length_toList]; omega
  have hdl : (xs.drop i).length = n - i := by rw [List.length_drop, hxl]
  have hxc : ∀ j v, xs[j]? = some v → w.cell? ⟨g, j, none⟩ = some v := fun j v hj => by
    rw [cell_of_row w g j _ _ _ hh, ← hj, ← ht, List.getElem?_take, Array.getElem?_toList]
    split
    · rfl
    · have := (List.getElem?_eq_some_iff.1 hj).1
      omega
  have hkk : (n : Int) + 1 - (i : Int) = ((n + 1 - i : Nat) : Int) := by omega
  have hik : i + (n + 1 - i) = n + 1 := by omega
  have hold : (Builtin.firstCells i0.size i (.slice (some ⟨g, 0, none⟩) i n)).run Tryz.prog w.drew = .ok (xs.take i).toArray w.drew := by
    rw [hzz]
    exact run_firstCells_some w.drew 1 i ⟨g, 0, none⟩ i n (xs.take i) (by rw [List.length_take]; omega) (fun j v hj => by
      rw [Addr.add_lit, Nat.zero_add]
      rw [List.getElem?_take] at hj
      split at hj
      · exact hxc j v hj
      · cases hj)
  obtain ⟨K, hK⟩ : ∃ K, K = grownCap w (n + 1) n 33 := ⟨_, rfl⟩
  have hK1 : n + 1 ≤ K := by rw [hK]; exact grownCap_ge w _ _ _
  have hKm : K ≤ maxLen := by rw [hK]; exact grownCap_le_maxLen w (n + 1) n 33 (by unfold maxLen; omega)
  obtain ⟨ROW, hROW⟩ : ∃ ROW : Array Value, ROW = (xs.take i).toArray ++ Builtin.zeroCells (.int .u32 0 : Value).cells (n + 1 - i) ++ Builtin.zeroCells (.int .u32 0 : Value).cells (K - (n + 1)) := ⟨_, rfl⟩
  obtain ⟨W1, hW1⟩ : ∃ W1, W1 = w.drew.alloc (.cells ROW 33) := ⟨_, rfl⟩
  obtain ⟨N, hN⟩ : ∃ N, N = w.heap.size := ⟨_, rfl⟩
  have hrz : ∀ ty, (Builtin.append_ #[34, 3] ty #[.slice (some ⟨g, 0, none⟩) i n, .int .i64 ((n : Int) + 1 - (i : Int))]).run Tryz.prog w = .ok (.slice (some ⟨N, 0, none⟩) (n + 1) K) W1 := fun ty => by
    have h := Lib.run_append_grow_zeros w 34 3 ty 33 i0 _ .i64 .i64 Tryz.underlying34 Tryz.underlying3 hi0 hz0 (some ⟨g, 0, none⟩) i n (xs.take i) hold (n + 1 - i) (by omega) (by omega) (by omega) (by omega) (by rw [hz2]; omega) (by rw [hz2, hik]; exact growslice_fits (by omega) (by omega))
    rw [hik, ← hK, ← hROW, ← hW1, ← hN] at h
    rw [hkk]
    exact h
  have hRl : ROW.size = K := by
    rw [hROW]
    simp [Builtin.zeroCells, Value.cells, hxl]
    omega
  have hRt : ROW.toList.take i = xs.take i := by
    rw [hROW, Array.toList_append, Array.toList_append, List.append_assoc, List.take_append_of_le_length (by simp [hxl]; omega), List.toList_toArray, List.take_take, Nat.min_self]
  have hN1 : W1.heap[N]? = some (.cells ROW 33 (0, 0)) := by rw [hW1, hN]; exact heap_alloc_new w.drew _
  have hgw : g < w.heap.size := lt_of_block hh
  have hGw : G < w.heap.size := lt_of_block hG
  have hg1 : W1.heap[g]? = some (.cells cur 33 (0, 0)) := by rw [hW1]; exact (Below.heap_alloc w.drew _ _ hgw).trans hh
  have hG1 : W1.heap[G]? = some (.cells #[u] 33 (0, 0)) := by rw [hW1]; exact (Below.heap_alloc w.drew _ _ hGw).trans hG
  have hgN : g ≠ N := by omega
  have hgr1 : w.grownBy W1 (some g) := by rw [hW1]; exact ⟨rfl, rfl, rfl, by simp, fun k hk _ => Below.heap_alloc w.drew _ _ hk⟩
  have hcpA : ∀ ty dc, (Builtin.copy_ #[34, 34] ty #[.slice (some ⟨N, i, none⟩) (n + 1 - i) dc, .slice (some ⟨G, 0, none⟩) 1 1]).run Tryz.prog W1 = .ok (goInt [u].length) (W1.setCells N i [u]) := fun ty dc =>
    run_copy_cells W1 _ _ ty 33 N i (n + 1 - i) dc ⟨G, 0, none⟩ 1 1 [u] Tryz.underlying34 hsz (by simp only [Nat.min_def, List.length_cons, List.length_nil]; split <;> omega)
      (fun j v hj => by
        rcases j with _ | j
        · simp at hj
          subst hj
          exact cell_of_row W1 G 0 _ _ _ hG1
        · simp at hj)
      (fun j hj => by
        rw [cell_of_row W1 N (i + j) _ _ _ hN1]
        have hj0 : j = 0 := by simp at hj; exact hj
        subst hj0
        rw [Array.getElem?_eq_getElem (by omega)]
        rfl) (fun j _ => frozen_of_row W1 _ _ _ _ hN1) (fun v hv => by simp at hv; rw [hv]; exact hu)
  obtain ⟨L1, hL1⟩ : ∃ L1, L1 = ROW.toList.take i ++ [u] ++ ROW.toList.drop (i + [u].length) := ⟨_, rfl⟩
  have hll : L1.length = K := by rw [hL1]; simp; omega
  obtain ⟨W2, hW2⟩ : ∃ W2, W2 = W1.setCells N i [u] := ⟨_, rfl⟩
  rw [← hW2] at hcpA
  have hN2 : W2.heap[N]? = some (.cells L1.toArray 33 (0, 0)) := by rw [hW2, hL1]; exact setCells_row N 33 [u] i W1 ROW hN1 (by simp; omega)
  have hg2 : W2.heap[g]? = some (.cells cur 33 (0, 0)) := by rw [hW2, setCells_other N _ _ _ g hgN]; exact hg1
  have hgr2 : W1.grownBy W2 (some N) := by rw [hW2]; exact setCells_grown N i [u] W1
  have hcpB : ∀ ty dc sc, (Builtin.copy_ #[34, 34] ty #[.slice (some ⟨N, i + 1, none⟩) (n - i) dc, .slice (some ⟨g, i, none⟩) (n - i) sc]).run Tryz.prog W2.drew = .ok (goInt (xs.drop i).length) (W2.drew.setCells N (i + 1) (xs.drop i)) := fun ty dc sc =>
    run_copy_cells W2.drew _ _ ty 33 N (i + 1) (n - i) dc ⟨g, i, none⟩ (n - i) sc (xs.drop i) Tryz.underlying34 hsz (by rw [hdl]; simp only [Nat.min_def]; split <;> omega)
      (fun j v hj => by
        rw [Addr.add_lit]
        rw [List.getElem?_drop] at hj
        have h2 := cell_of_row W2.drew g (i + j) _ _ _ hg2
        have h3 := cell_of_row w g (i + j) _ _ _ hh
        rw [h2, ← h3]
        exact hxc (i + j) v hj)
      (fun j hj => by
        rw [cell_of_row W2.drew N (i + 1 + j) _ _ _ hN2, Array.getElem?_eq_getElem (by rw [List.size_toArray]; omega)]
        rfl) (fun j _ => frozen_of_row W2.drew _ _ _ _ hN2) (fun v hv => h1 v (List.mem_of_mem_drop hv))
  have hfin : (W2.drew.setCells N (i + 1) (xs.drop i)).heap[N]? = some (.cells (L1.take (i + 1) ++ xs.drop i ++ L1.drop (i + 1 + (xs.drop i).length)).toArray 33 (0, 0)) := setCells_row N 33 (xs.drop i) (i + 1) W2.drew _ hN2 (by rw [List.size_toArray]; omega)
  have hOW : (W2.drew.setCells N (i + 1) (xs.drop i)).ownsRow base 33 1 (.slice (some ⟨N, 0, none⟩) (n + 1) K) (n + 1) (xs.take i ++ [u] ++ xs.drop i) := by
    refine ⟨?_, .inr ⟨N, K, _, rfl, by omega, hfin, hK1, hKm, ?_, ?_⟩⟩
    · rw [List.length_append, List.length_append, List.length_take, hdl, hxl]
      simp
      omega
    · simp [hdl]
      omega
    · rw [Nat.mul_one]
      show (L1.take (i + 1) ++ xs.drop i ++ L1.drop (i + 1 + (xs.drop i).length)).take (n + 1) = _
      rw [hL1]
      exact spliced2 ROW.toList xs u i n hi (by rw [Array.length_toList]; omega) hRt hxl
  have hGR : w.grownBy (W2.drew.setCells N (i + 1) (xs.drop i)) (some g) :=
    grown_new (grown_new hgr1 (drew_grown hgr2) (by omega)) (setCells_grown N _ _ _) (by omega)
  have HOW := Lib.hid hOW
  have HGR := Lib.hid hGR
  have HNQ := Lib.hid hN
  have hz1' : ¬ ((1 : Int) = 0) := by omega
  have hz2' : ¬ ((i : Int) = (n : Int)) := by omega
  have hGi : ¬ (K = i) := by omega
  have hGim : ¬ (K = i + 1) := by omega
  have hci : ¬ (n = i) := by omega
  have hin : i ≤ n := by omega
  have hb3 : (i : Int) ≤ (n : Int) + 1 := by omega
  have htn : ((i : Int) + 1).toNat = i + 1 := by omega
  have hw1 : IntKind.i64.wrap ((i : Int) + 1) = (i : Int) + 1 := by rw [IntKind.wrap_i64]; omega
  have hb1 : (0 : Int) ≤ (i : Int) + 1 := by omega
  have hb5 : (i : Int) + 1 ≤ (n : Int) + 1 := by omega
  clear hxl hdl hxc hkk hik hold hROW hRl hRt hN1 hgw hGw hg1 hG1 hgN hgr1 hgr2 hL1 hll hN2 hg2 hfin hOW hGR hh hcs ht hG h1 hW1 hW2 hKm hK hN
  go_enter Tryz.func76, Tryz.ntmps76
  go_wp2_with (first
    | (at_builtin; refine Lib.wpList_append_run _ rfl _ _ _ _ rfl _ _ rfl rfl _ _ (hrz _) ?_)
    | (at_builtin; refine wpList_copy_runI _ rfl _ _ 34 34 rfl _ _ rfl rfl (hcpA _ _) ?_))
  go_region_law (refine step_copy_runI rfl _ _ 34 34 rfl _ _ (by simp [Act.eval, Act.put]) (by simp [Act.eval, Act.put]) (hcpB _ _ _) ?_)
  go_wp2
  go_ret
  exact ⟨_, rfl, HOW.out, HGR.out, .inr (by rw [← HNQ.out]; rfl)⟩

theorem ins32_any (base n i G : Nat) (v u : Value) (xs : List Value) (w : World) (hi : i ≤ n) (hl : n ≤ 1000) (hbase : base ≤ w.heap.size) (hown : w.ownsRow base 33 1 v n xs) (hG : w.heap[G]? = some (.cells #[u] 33 (0, 0))) (hne : v.ownBlock ≠ some G) (hu : u.oneCell' = true) (h1 : ∀ x ∈ xs, x.oneCell' = true) :
    Calls Tryz.prog 76 #[v, .int .i64 (i : Int), .slice (some ⟨G, 0, none⟩) 1 1] w fun r w' => ∃ v', r = .returned v' ∧ w'.ownsRow base 33 1 v' (n + 1) (xs.take i ++ [u] ++ xs.drop i) ∧ w.grownBy w' v.ownBlock ∧ (v'.ownBlock = v.ownBlock ∨ v'.ownBlock = some w.heap.size) := by
  have hxl : xs.length = n := by have := hown.1; omega
  by_cases hin : i = n
  · subst hin
    rw [List.take_of_length_le (by omega), List.drop_eq_nil_of_le (by omega), List.append_nil]
    exact ins32_end base i G v u xs w hl hbase hown hG hu
  · rcases hown.2 with ⟨rfl, h0⟩ | ⟨g, cap, cur, rfl, hbg, hh, hnc, hcm, hcs, ht⟩
    · omega
    · rw [Nat.mul_one] at hcs ht
      by_cases hroom : n + 1 ≤ cap
      · exact ins32_shift base n i g cap G cur u xs w (by omega) hl hbg hh hroom hcm hcs ht hG (fun e => hne (by rw [e]; rfl)) hu h1
      · obtain rfl : cap = n := by omega
        exact ins32_grow base cap i g G cur u xs w (by omega) hl hbase hh hcs ht hG hu h1
end Go.Proofs.YtemjmnpclknfaaaGreat
