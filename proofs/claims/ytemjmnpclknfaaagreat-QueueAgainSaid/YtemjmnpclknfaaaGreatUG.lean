/- Queue: Mode's tickets in a row; the sort. -/
import Derived.Test.YtemjmnpclknfaaaGreatUF
namespace Go.Proofs.YtemjmnpclknfaaaGreat.T
open Go.Shelf Go.RowKit Go.Lib Go.Sort
open Go.Proofs.YtemjmnpclknfaaaGreat.P (Sl un)
set_option maxRecDepth 20000
set_option linter.unusedVariables false
set_option linter.unusedSimpArgs false

/-- Tickets in a block, whoever's their players are. -/
def Rt (w : World) (g : Nat) (lf : List (Sl × Tk)) : Prop := ∃ cur, w.heap[g]? = some (.cells cur 39 (0, 0)) ∧ ∀ (i : Nat) (e : Sl × Tk), lf[i]? = some e → ∀ (j : Nat) (v : Value), (enT e)[j]? = some v → cur[i * 5 + j]? = some v
theorem Rt.cells {w : World} {g : Nat} {lf : List (Sl × Tk)} (h : Rt w g lf) {i : Nat} {e : Sl × Tk} (hi : lf[i]? = some e) : w.cell? ⟨g, i * 5, none⟩ = some (.int .u32 (e.2.id : Int)) ∧ w.cell? ⟨g, i * 5 + 1, none⟩ = some (.int .i64 e.2.md) ∧ w.cell? ⟨g, i * 5 + 2, none⟩ = some (.slice e.1.a e.1.n e.1.c) ∧ w.cell? ⟨g, i * 5 + 3, none⟩ = some (.int .i64 e.2.rt) ∧ w.cell? ⟨g, i * 5 + 4, none⟩ = some (.int .i64 e.2.sn) := by
  obtain ⟨cur, hb, hc⟩ := h
  have hk : ∀ j v, (enT e)[j]? = some v → w.cell? ⟨g, i * 5 + j, none⟩ = some v := fun j v hv => by rw [cell_of_row w g _ _ _ _ hb]; exact hc i e hi j v hv
  exact ⟨hk 0 _ rfl, hk 1 _ rfl, hk 2 _ rfl, hk 3 _ rfl, hk 4 _ rfl⟩
theorem Rt.lt {w : World} {g : Nat} {lf : List (Sl × Tk)} (h : Rt w g lf) : g < w.heap.size := by
  obtain ⟨cur, hb, hc⟩ := h
  exact lt_of_block hb
theorem Rt.after {w w' : World} {g : Nat} {lf : List (Sl × Tk)} (h : Rt w g lf) (hb : RowKit.Below w.heap.size w w') : Rt w' g lf := by
  obtain ⟨cur, h1, h2⟩ := h
  exact ⟨cur, (hb.block g (lt_of_block h1)).trans h1, h2⟩
abbrev put5 (W : World) (g o : Nat) (a b c d e : Value) : World := (((((W.setCell ⟨g, o, none⟩ a).setCell ⟨g, o + 1, none⟩ b).setCell ⟨g, o + 2, none⟩ c).setCell ⟨g, o + 3, none⟩ d).setCell ⟨g, o + 4, none⟩ e)
theorem put5_row {W : World} {g T : Nat} {cur : Array Value} (o : Nat) (a b c d e : Value) (h : W.heap[g]? = some (.cells cur T (0, 0))) : (put5 W g o a b c d e).heap[g]? = some (.cells (((((cur.setIfInBounds o a).setIfInBounds (o + 1) b).setIfInBounds (o + 2) c).setIfInBounds (o + 3) d).setIfInBounds (o + 4) e) T (0, 0)) :=
  heap_setCell_same _ g _ _ T _ (heap_setCell_same _ g _ _ T _ (heap_setCell_same _ g _ _ T _ (heap_setCell_same _ g _ _ T _ (heap_setCell_same _ g _ _ T _ h))))
theorem put5_other {W : World} {g k : Nat} (o : Nat) (a b c d e : Value) (h : k ≠ g) : (put5 W g o a b c d e).heap[k]? = W.heap[k]? := by
  unfold put5
  rw [RowKit.Below.heap_setCell _ _ _ _ h, RowKit.Below.heap_setCell _ _ _ _ h, RowKit.Below.heap_setCell _ _ _ _ h, RowKit.Below.heap_setCell _ _ _ _ h, RowKit.Below.heap_setCell _ _ _ _ h]
theorem put5_below {k g : Nat} {w W : World} (o : Nat) (a b c d e : Value) (h : RowKit.Below k w W) (hk : k ≤ g) : RowKit.Below k w (put5 W g o a b c d e) := ((((h.setCell hk a).setCell hk b).setCell hk c).setCell hk d).setCell hk e
theorem set5_get (cur : Array Value) (o : Nat) (a b c d e : Value) (hs : o + 4 < cur.size) (p : Nat) : (((((cur.setIfInBounds o a).setIfInBounds (o + 1) b).setIfInBounds (o + 2) c).setIfInBounds (o + 3) d).setIfInBounds (o + 4) e)[p]? = if p = o then some a else if p = o + 1 then some b else if p = o + 2 then some c else if p = o + 3 then some d else if p = o + 4 then some e else cur[p]? := by
  simp only [Array.getElem?_setIfInBounds, Array.size_setIfInBounds]
  by_cases h4 : o + 4 = p
  · rw [if_pos h4, if_pos (by omega), if_neg (by omega), if_neg (by omega), if_neg (by omega), if_neg (by omega), if_pos (by omega)]
  rw [if_neg h4]
  by_cases h3 : o + 3 = p
  · rw [if_pos h3, if_pos (by omega), if_neg (by omega), if_neg (by omega), if_neg (by omega), if_pos (by omega)]
  rw [if_neg h3]
  by_cases h2 : o + 2 = p
  · rw [if_pos h2, if_pos (by omega), if_neg (by omega), if_neg (by omega), if_pos (by omega)]
  rw [if_neg h2]
  by_cases h1 : o + 1 = p
  · rw [if_pos h1, if_pos (by omega), if_neg (by omega), if_pos (by omega)]
  rw [if_neg h1]
  by_cases h0 : o = p
  · rw [if_pos h0, if_pos (by omega), if_pos (by omega)]
  rw [if_neg h0, if_neg (by omega), if_neg (by omega), if_neg (by omega), if_neg (by omega), if_neg (by omega)]
theorem Rt.set {W : World} {g k : Nat} {lf : List (Sl × Tk)} (h : Rt W g lf) {e e' : Sl × Tk} (hk : lf[k]? = some e) : Rt (put5 W g (k * 5) (.int .u32 (e'.2.id : Int)) (.int .i64 e'.2.md) (.slice e'.1.a e'.1.n e'.1.c) (.int .i64 e'.2.rt) (.int .i64 e'.2.sn)) g (lf.set k e') := by
  obtain ⟨cur, h1, h2⟩ := h
  have hs : k * 5 + 4 < cur.size := (Array.getElem?_eq_some_iff.1 (h2 k e hk 4 _ rfl)).1
  have hl := (List.getElem?_eq_some_iff.1 hk).1
  refine ⟨_, put5_row _ _ _ _ _ _ h1, fun i x hx j v hv => ?_⟩
  rw [set5_get _ _ _ _ _ _ _ hs]
  have hj : j < 5 := (List.getElem?_eq_some_iff.1 hv).1
  rw [List.getElem?_set] at hx
  by_cases hki : k = i
  · subst hki
    rw [if_pos rfl, if_pos hl] at hx
    injection hx with hx
    subst hx
    have : j = 0 ∨ j = 1 ∨ j = 2 ∨ j = 3 ∨ j = 4 := by omega
    rcases this with rfl | rfl | rfl | rfl | rfl
    · rw [if_pos (by omega)]; exact hv
    · rw [if_neg (by omega), if_pos (by omega)]; exact hv
    · rw [if_neg (by omega), if_neg (by omega), if_pos (by omega)]; exact hv
    · rw [if_neg (by omega), if_neg (by omega), if_neg (by omega), if_pos (by omega)]; exact hv
    · rw [if_neg (by omega), if_neg (by omega), if_neg (by omega), if_neg (by omega), if_pos (by omega)]; exact hv
  · rw [if_neg hki] at hx
    rw [if_neg (by omega), if_neg (by omega), if_neg (by omega), if_neg (by omega), if_neg (by omega)]
    exact h2 i x hx j v hv
theorem mz_at : ∀ (l : List Mk) (i : Nat) (e : Mk) (j : Nat), l[i]? = some e → j < 5 → (mz l)[i * 5 + j]? = [Value.int .u32 (e.1 : Int), .int .i64 e.2.1, .slice e.2.2.1.a e.2.2.1.n e.2.2.1.c, .int .i64 e.2.2.2.1, .int .i64 e.2.2.2.2][j]?
  | [], i, e, j, h, _ => by simp at h
  | x :: l, 0, e, j, h, hj => by
    obtain rfl : x = e := by simpa using h
    rw [show mz (x :: l) = [.int .u32 (x.1 : Int), .int .i64 x.2.1, .slice x.2.2.1.a x.2.2.1.n x.2.2.1.c, .int .i64 x.2.2.2.1, .int .i64 x.2.2.2.2] ++ mz l from rfl, List.getElem?_append_left (by simp; omega)]
    simp
  | x :: l, i + 1, e, j, h, hj => by
    rw [show mz (x :: l) = [.int .u32 (x.1 : Int), .int .i64 x.2.1, .slice x.2.2.1.a x.2.2.1.n x.2.2.1.c, .int .i64 x.2.2.2.1, .int .i64 x.2.2.2.2] ++ mz l from rfl, List.getElem?_append_right (by simp; omega), ← mz_at l i e j (by simpa using h) hj]
    congr 1
    simp
    omega
theorem fl_keep {w w' : World} {R : Nat} {vi : Value} {s : Sl} {l : List Nat} (h : P.Fl w R vi s l) (hk : ∀ (b : Nat) (cur : Array Value), w.heap[b]? = some (.cells cur 33 (0, 0)) → w'.heap[b]? = w.heap[b]?) : P.Fl w' R vi s l := ⟨h.1, fun hl => by
  obtain ⟨b, o, e1, e2, e3, ⟨cur, e4⟩, e5⟩ := h.2 hl
  have k := hk b cur e4
  exact ⟨b, o, e1, e2, e3, ⟨cur, k.trans e4⟩, fun j x hj => (World.cell?_of_block k).trans (e5 j x hj)⟩⟩
theorem rt_fl {W : World} {g R : Nat} {vi : Value} {s : Sl} {l : List Nat} {lf : List (Sl × Tk)} (hr : Rt W g lf) (h : P.Fl W R vi s l) (o : Nat) (a b c d e : Value) : P.Fl (put5 W g o a b c d e) R vi s l := by
  obtain ⟨cur, h1, _⟩ := hr
  exact fl_keep h fun k cur' hk => put5_other _ _ _ _ _ _ (fun e => by subst e; rw [h1] at hk; injection hk with hk; injection hk with _ hk; exact absurd hk (by decide))
instance : Inhabited Tk := ⟨⟨0, 0, [], 0, 0⟩⟩
instance : Inhabited Sl := ⟨⟨none, 0, 0⟩⟩
def leT (a b : Tk) : Prop := a.sn < b.sn ∨ (a.sn = b.sn ∧ a.id ≤ b.id)
theorem ltT (x y : Sl × Tk) : ltOf cmpT x y = decide (x.2.sn < y.2.sn ∨ (x.2.sn = y.2.sn ∧ x.2.id < y.2.id)) := by
  unfold ltOf cmpT cmp3
  by_cases h1 : x.2.sn < y.2.sn
  · simp [h1]
  · by_cases h2 : y.2.sn < x.2.sn
    · have : ¬ x.2.sn = y.2.sn := by omega
      simp [h1, h2, this]
    · have e : x.2.sn = y.2.sn := by omega
      by_cases h3 : x.2.id < y.2.id
      · simp [e, h3]
      · by_cases h4 : y.2.id < x.2.id <;> simp [e, h3, h4]
theorem swoT : SWO (ltOf cmpT) where
  irrefl x := by rw [ltT]; simp
  trans x y z h1 h2 := by rw [ltT, decide_eq_true_iff] at *; omega
  ntrans x y z h1 h2 := by rw [ltT, decide_eq_false_iff_not] at *; omega
theorem agg72 : ∀ w, (isAgg 39).run Tryz.prog w = .ok true w := fun w => by kernel_rfl
theorem size72 : ∀ w, (Go.sizeOf 39).run Tryz.prog w = .ok 5 w := fun w => by kernel_rfl
theorem sort_blk (W : World) (g n : Nat) (d : Array (Sl × Tk)) (os : Array Obj) (k : Nat) (hk : k < W.heap.size) : (sortWorldK enT 5 W g 0 n d os).heap[k]? = if g = k then (W.heap[k]?).map (onCells (putCells id 0 (flatK enT 5 d))) else W.heap[k]? := by
  have e : (sortWorldK enT 5 W g 0 n d os).heap = (W.heap.modify g (onCells (putCells id 0 (flatK enT 5 d)))) ++ os := rfl
  rw [e, Array.getElem?_append_left (by simp; omega), Array.getElem?_modify]
theorem sort_below (W : World) (base g n : Nat) (d : Array (Sl × Tk)) (os : Array Obj) (hb : base ≤ g) (hg : g < W.heap.size) : RowKit.Below base W (sortWorldK enT 5 W g 0 n d os) :=
  ⟨rfl, rfl, rfl, size_sortWorldK_c enT 5 W g 0 n d os, fun k hk => by rw [sort_blk _ _ _ _ _ _ (by omega), if_neg (by omega)]⟩
set_option maxHeartbeats 2000000 in
theorem sort_tk (R : Nat) (vi : Value) (base : Nat) (A : Option Addr) (n c : Nat) (L : List Tk) (w : World) (h : Pw w R vi base A n c L) (hn : n ≤ 1000) :
    Calls Tryz.prog 43 #[.slice A n c, .func (.func 44) #[] #[]] w fun r w' => r = .returned (.tuple #[]) ∧ ∃ lf : List (Sl × Tk), (lf.map (·.2)).Perm L ∧ (lf.map (·.2)).Pairwise leT ∧ (∀ e ∈ lf, P.Fl w' R vi e.1 e.2.mem) ∧ n = lf.length ∧ (0 < n → ∃ g, A = some ⟨g, 0, none⟩ ∧ base ≤ g ∧ Rt w' g lf) ∧ RowKit.Below base w w' := by
  obtain ⟨lf, rfl, hown, hfl⟩ := h
  have hnl : n = lf.length := by
    have := hown.1
    rw [mz_length, List.length_map] at this
    omega
  have hrt : 0 < n → ∃ g, A = some ⟨g, 0, none⟩ ∧ base ≤ g ∧ Rt w g lf := fun h0 => by
    have hcells := fun g => hown.cells (g := g)
    rcases hown.2 with ⟨_, e⟩ | ⟨g, cap, cur, e, hg, hh, _⟩
    · omega
    · injection e with e _ _
      subst e
      refine ⟨g, rfl, hg, cur, hh, fun i x hx j v hv => ?_⟩
      have hj : j < 5 := (List.getElem?_eq_some_iff.1 hv).1
      have hz := hcells g rfl (i * 5 + j) v (by
        rw [mz_at _ _ _ _ (show (lf.map tk)[i]? = some (tk x) by rw [List.getElem?_map, hx]; rfl) hj]
        exact hv)
      rw [Go.WideShapes.add_plain, cell_of_row w g _ _ _ _ hh, Nat.zero_add] at hz
      exact hz
  by_cases h1 : n ≤ 1
  · refine (qsort_few A n c h1 _ w).mono ?_
    rintro r w' ⟨rfl, rfl⟩
    refine ⟨rfl, lf, List.Perm.refl _, ?_, hfl, hnl, hrt, RowKit.Below.refl _ _⟩
    match lf, hnl with
    | [], _ => exact List.Pairwise.nil
    | [x], _ => exact List.pairwise_singleton _ _
    | _ :: _ :: l, e => simp at e; omega
  · obtain ⟨g, rfl, hg, cur, hh, hc⟩ := hrt (by omega)
    have hlt := lt_of_block hh
    have eg : ∀ args w, (callFunc 44 args).run Tryz.prog w = .ok (.enter 44 args) w := enters_of Tryz.func44 (by kernel_rfl) rfl
    have hH : HoldsK enT 5 w g 0 lf.toArray := fun j hj => by
      have hj' : j < lf.length * 5 := by simpa using hj
      refine ⟨?_, frozen_of_row w g _ _ _ hh⟩
      rw [get_flatK _ _ _ _ (by simpa using hj')]
      have hx : lf[j / 5]? = some (lf[j / 5]'(by omega)) := List.getElem?_eq_getElem _
      have hg' : (lf.toArray)[j / 5]! = lf[j / 5]'(by omega) := by simp [show j / 5 < lf.length by omega]
      have hm : j % 5 < (enT (lf[j / 5]'(by omega))).length := by show j % 5 < 5; omega
      have hv : (enT (lf[j / 5]'(by omega)))[j % 5]? = some ((enT (lf[j / 5]'(by omega)))[j % 5]!) := by
        rw [List.getElem?_eq_getElem hm, getElem!_pos (enT (lf[j / 5]'(by omega))) (j % 5) hm]
      have := hc (j / 5) _ hx (j % 5) _ hv
      rw [hg', cell_of_row w g _ _ _ _ hh, show 0 + j = j / 5 * 5 + j % 5 by omega]
      exact this
    have h := AnyQ.slices_SortFunc T.sortTk 5 agg72 size72 enT (fun _ => rfl) (fun x v hv => by simp [enT] at hv; rcases hv with rfl | rfl | rfl | rfl | rfl <;> rfl) cmpT swoT 44 #[] g 0 c lf.toArray w eg (fun _ _ _ _ x y => closure67 x y _) hH hlt (by simp; omega)
    have h' : Calls Tryz.prog 43 #[.slice (some ⟨g, 0, none⟩) lf.toArray.size c, .func (.func 44) #[] #[]] w _ := h
    simp only [List.size_toArray, ← hnl] at h'
    refine h'.mono ?_
    rintro e w' ⟨rfl, d', m, os, hp, hs, rfl⟩
    have hsz : d'.size = lf.length := by simpa using hp.1
    have hH' := holdsK_sortWorldK enT 5 w g 0 m lf.toArray d' os hlt hH (by simpa using hsz)
    have hpm : d'.toList.Perm lf := by
      have h3 := hp.2.2
      simp at h3
      rw [List.take_of_length_le (by simp; omega), List.take_of_length_le (by omega)] at h3
      exact h3
    refine ⟨rfl, d'.toList, hpm.map _, ?_, fun x hx => ?_, by rw [Array.length_toList, hsz]; exact hnl, fun _ => ⟨g, rfl, hg, ?_⟩, sort_below w base g m d' os hg hlt⟩
    · rw [List.pairwise_map, List.pairwise_iff_getElem]
      intro i j hi hj hij
      simp at hi hj
      have h3 := hs i j (Nat.zero_le _) hij (by omega)
      rw [ltT, getElem!_pos d' i hi, getElem!_pos d' j hj, decide_eq_false_iff_not] at h3
      unfold leT
      simp
      omega
    · refine fl_keep (hfl x (hpm.mem_iff.1 hx)) fun k cur' hk => ?_
      rw [sort_blk _ _ _ _ _ _ (lt_of_block hk), if_neg (fun e => by subst e; rw [hh] at hk; injection hk with hk; injection hk with _ hk; exact absurd hk (by decide))]
    · have hb := sort_blk w g m d' os g hlt
      rw [if_pos rfl, hh] at hb
      refine ⟨_, hb, fun i x hx j v hv => ?_⟩
      rw [Array.getElem?_toList] at hx
      obtain ⟨hi, hx'⟩ := Array.getElem?_eq_some_iff.1 hx
      have hj : j < 5 := (List.getElem?_eq_some_iff.1 hv).1
      have e0 := (hH'.cell (i := i) (c := j) hi hj).1
      have hg' : d'[i]! = x := by rw [getElem!_pos d' i hi]; exact hx'
      rw [hg', Nat.zero_add, cell_of_row _ g _ _ _ _ hb] at e0
      refine e0.trans ?_
      rw [getElem!_pos (enT x) j hj, ← List.getElem?_eq_getElem]
      exact hv
end Go.Proofs.YtemjmnpclknfaaaGreat.T
