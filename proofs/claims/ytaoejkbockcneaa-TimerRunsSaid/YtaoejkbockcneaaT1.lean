/- Timer: items and the line in memory; Less, Swap, Len of a line. -/
import Derived.Test.YtaoejkbockcneaaRows
import Derived.WalkKit
import Derived.Below
import Derived.Carry
import Derived.OpenShut
import Derived.WalkSmall
import Derived.Outline
import Derived.BigQuiet
import Derived.Handy
import Derived.Lib.Hide
import Derived.Laws.StructEq
import Derived.Laws.AppendOwn
import Derived.Maps.OwnSet
import Derived.Maps.OwnOps
import Derived.Maps.Views
import Derived.DeepKeys4
import Derived.OrdersHeld
import Derived.Deep.RegionLaw
import Derived.Deep.RegionHeld3
import Derived.Deep.DeepCutAuto
namespace Go.Proofs.Ytaoejkbockcneaa
open Go.RowKit
set_option maxRecDepth 20000

theorem lt_of_block {w : World} {G : Nat} {o : Obj} (h : w.heap[G]? = some o) : G < w.heap.size := (Array.getElem?_eq_some_iff.1 h).1
/-- An item: its block, its kind, its id, its time, its turn. -/
abbrev It := Nat × Int × Nat × Int × Nat
def ic (e : It) (p : Nat) : Array Value := #[.int .i64 e.2.1, .int .u32 (e.2.2.1 : Int), .int .i64 e.2.2.2.1, .int .u64 (e.2.2.2.2 : Int), .int .i64 (p : Int)]
def ptr (e : It) : Value := .pointer (some ⟨e.1, 0, none⟩)
def lt (a b : It) : Bool := decide (a.2.2.2.1 < b.2.2.2.1) || (decide (a.2.2.2.1 = b.2.2.2.1) && decide (a.2.2.2.2 < b.2.2.2.2))
/-- The line at v holds the items hp, each told where it lies. -/
structure InL (w : World) (B0 : Nat) (v : Value) (hp : List It) : Prop where
  own : w.ownsRow B0 104 1 v hp.length (hp.map ptr)
  its : ∀ (i : Nat) (e : It), hp[i]? = some e → w.heap[e.1]? = some (.cells (ic e i) 106 (0, 0))
  nd : ∀ (i j : Nat) (a b : It), hp[i]? = some a → hp[j]? = some b → a.1 = b.1 → i = j
  lo : ∀ e ∈ hp, B0 ≤ e.1
def okT (m : Nat) : Obj → Prop
  | .cells _ T _ => (m = 0 ∨ T ≠ 103) ∧ T ≠ 104 ∧ T ≠ 106
  | .map _ _ => m ≤ 1
  | _ => True
/-- What a call may change. -/
structure Ch (m : Nat) (B0 : Nat) (w w' : World) : Prop where
  below : Below B0 w w'
  size : w.heap.size ≤ w'.heap.size
  kept : ∀ (g : Nat) (o : Obj), w.heap[g]? = some o → okT m o → w'.heap[g]? = some o
theorem Ch.trans {m : Nat} {B0 : Nat} {w w' w'' : World} (h : Ch m B0 w w') (h' : Ch m B0 w' w'') : Ch m B0 w w'' :=
  ⟨h.below.trans h'.below, Nat.le_trans h.size h'.size, fun g o hg ho => h'.kept g o (h.kept g o hg ho) ho⟩
theorem Ch.refl (m : Nat) (B0 : Nat) (w : World) : Ch m B0 w w := ⟨Below.refl _ _, Nat.le_refl _, fun _ _ h _ => h⟩
theorem Ch.of_below {m : Nat} {B0 : Nat} {w w' : World} (hB : B0 ≤ w.heap.size) (h : Below w.heap.size w w') : Ch m B0 w w' := ⟨h.mono hB, h.size, fun g _ hg _ => (h.block g (lt_of_block hg)).trans hg⟩
theorem Ch.setCell {m : Nat} {B0 : Nat} {w : World} {g : Nat} {cur : Array Value} {T : Nat} (hg : w.heap[g]? = some (.cells cur T (0, 0))) (hT : (T = 103 ∧ 1 ≤ m) ∨ T = 104 ∨ T = 106) (hB : B0 ≤ g) (i : Nat) (v : Value) : Ch m B0 w (w.setCell ⟨g, i, none⟩ v) := by
  refine ⟨(Below.refl _ _).setCell hB _, by rw [World.size_setCell]; exact Nat.le_refl _, fun k _ hk ho => ?_⟩
  have hkg : k ≠ g := fun e => by
    subst e
    rw [hg] at hk
    injection hk with hk
    subst hk
    rcases hT with ⟨rfl, hm⟩ | rfl | rfl <;> simp [okT] at ho
    omega
  exact (Below.heap_setCell _ _ _ _ hkg).trans hk
theorem below_drewN {B n : Nat} {w w' : World} (h : Below B w w') : Below B w (w'.drewN n) := ⟨h.os, h.tape, h.output, h.size, h.block⟩
theorem Ch.drew {m : Nat} {B0 : Nat} {w w' : World} (h : Ch m B0 w w') : Ch m B0 w w'.drew := ⟨h.below.drew, h.size, h.kept⟩
theorem Ch.up {m m' : Nat} {B0 : Nat} {w w' : World} (h : Ch m B0 w w') (hm : m ≤ m') : Ch m' B0 w w' := ⟨h.below, h.size, fun g o hg ho => h.kept g o hg (by
  cases o <;> simp only [okT] at ho ⊢
  · exact ⟨by rcases ho.1 with h1 | h1 <;> first | (left; omega) | (right; exact h1), ho.2⟩
  · omega)⟩
theorem type_ne {w : World} {g k T T' : Nat} {c c' : Array Value} (h : w.heap[g]? = some (.cells c T (0, 0))) (h' : w.heap[k]? = some (.cells c' T' (0, 0))) (hT : T ≠ T') : g ≠ k := fun e => by
  subst e
  rw [h] at h'
  injection h' with h'
  injection h' with _ h'
  exact hT h'
theorem own_form {w : World} {base T m : Nat} {v : Value} {xs : List Value} (h : w.ownsRow base T 1 v m xs) : ∃ A c, v = .slice A m c := by
  rcases h.2 with ⟨rfl, rfl⟩ | ⟨g, cap, cur, rfl, _⟩
  · exact ⟨none, 0, rfl⟩
  · exact ⟨_, cap, rfl⟩
theorem own_type {w : World} {base T m : Nat} {v : Value} {xs : List Value} (h : w.ownsRow base T 1 v m xs) {g : Nat} (hg : v.ownBlock = some g) : ∃ cur, w.heap[g]? = some (.cells cur T (0, 0)) := by
  rcases h.2 with ⟨rfl, _⟩ | ⟨k, cap, cur, rfl, _, hk, _⟩
  · simp [Value.ownBlock] at hg
  · injection hg with hg
    subst hg
    exact ⟨cur, hk⟩
theorem own_after {w w' : World} {base T m : Nat} {v : Value} {xs : List Value} (h : w.ownsRow base T 1 v m xs) (hb : ∀ g, v.ownBlock = some g → w'.heap[g]? = w.heap[g]?) : w'.ownsRow base T 1 v m xs := by
  refine ⟨h.1, ?_⟩
  rcases h.2 with hn | ⟨g, cap, cur, rfl, hbg, hg, rest⟩
  · exact .inl hn
  · exact .inr ⟨g, cap, cur, rfl, hbg, (hb g rfl).trans hg, rest⟩
theorem InL.after {w w' : World} {B0 : Nat} {v : Value} {hp : List It} (h : InL w B0 v hp) (hb : Below w.heap.size w w') : InL w' B0 v hp :=
  ⟨own_after h.own fun g hg => hb.block g (h.own.lt g hg).2, fun i e he => (hb.block _ (lt_of_block (h.its i e he))).trans (h.its i e he), h.nd, h.lo⟩
/-- What stands at a place. -/
theorem InL.at {w : World} {B0 : Nat} {v : Value} {hp : List It} (h : InL w B0 v hp) {i : Nat} {a : It} (hi : hp[i]? = some a) : ∃ g cap, v = .slice (some ⟨g, 0, none⟩) hp.length cap ∧ w.cell? ⟨g, 0 + i, none⟩ = some (ptr a) ∧ w.cell? ⟨a.1, 2, none⟩ = some (.int .i64 a.2.2.2.1) ∧ w.cell? ⟨a.1, 3, none⟩ = some (.int .u64 (a.2.2.2.2 : Int)) := by
  have hlt := (List.getElem?_eq_some_iff.1 hi).1
  have hc := h.its i a hi
  rcases h.own.2 with ⟨_, h0⟩ | ⟨g, cap, cur, rfl, hr⟩
  · omega
  · have := h.own.cells (g := g) rfl i (ptr a) (by rw [List.getElem?_map, hi]; rfl)
    rw [Go.WideShapes.add_plain] at this
    exact ⟨g, cap, rfl, this, by simpa [ic] using cell_of_row w a.1 2 _ _ _ hc, by simpa [ic] using cell_of_row w a.1 3 _ _ _ hc⟩

set_option maxHeartbeats 4000000 in
theorem less_cells (g o n c i j : Nat) (a b : It) (w : World) (hi : i < n) (hj : j < n)
    (ri : w.cell? ⟨g, o + i, none⟩ = some (.pointer (some ⟨a.1, 0, none⟩))) (rj : w.cell? ⟨g, o + j, none⟩ = some (.pointer (some ⟨b.1, 0, none⟩)))
    (a2 : w.cell? ⟨a.1, 2, none⟩ = some (.int .i64 a.2.2.2.1)) (a3 : w.cell? ⟨a.1, 3, none⟩ = some (.int .u64 (a.2.2.2.2 : Int))) (b2 : w.cell? ⟨b.1, 2, none⟩ = some (.int .i64 b.2.2.2.1)) (b3 : w.cell? ⟨b.1, 3, none⟩ = some (.int .u64 (b.2.2.2.2 : Int))) :
    Calls Try.prog 119 #[.slice (some ⟨g, o, none⟩) n c, .int .i64 (i : Int), .int .i64 (j : Int)] w fun r w' => r = .returned (.bool (lt a b)) ∧ Below w.heap.size w w' := by
  have hbr : Below w.heap.size w w := Below.refl _ _
  have HB2 := Lib.hid hbr
  obtain ⟨A, k1, k2, at1, tn1⟩ := a
  obtain ⟨B, k3, k4, at2, tn2⟩ := b
  simp only at ri rj a2 a3 b2 b3
  clear hbr
  by_cases he : at1 = at2
  · subst he
    have hl : lt (A, k1, k2, at1, tn1) (B, k3, k4, at1, tn2) = decide ((tn1 : Int) < (tn2 : Int)) := by simp [lt]
    rw [hl]
    go_enter Try.func119, Try.ntmps119
    go_upto_region 1 with (fail)
    go_quiet (fail)
    go_upto_region 3 with (fail)
    go_quiet (fail)
    go_wp2
    go_ret
    exact ⟨by simp, below_drewN (below_drewN HB2.out)⟩
  · have hl : lt (A, k1, k2, at1, tn1) (B, k3, k4, at2, tn2) = decide (at1 < at2) := by simp [lt, he]
    rw [hl]
    go_enter Try.func119, Try.ntmps119
    go_upto_region 1 with (fail)
    go_quiet (fail)
    go_upto_region 2 with (fail)
    go_quiet (fail)
    go_wp2
    go_ret
    exact ⟨by simp, below_drewN (below_drewN HB2.out)⟩
theorem less_any {B0 : Nat} (v : Value) (hp : List It) (i j : Nat) (a b : It) (w : World) (h : InL w B0 v hp) (hi : hp[i]? = some a) (hj : hp[j]? = some b) :
    Calls Try.prog 119 #[v, .int .i64 (i : Int), .int .i64 (j : Int)] w fun r w' => r = .returned (.bool (lt a b)) ∧ Below w.heap.size w w' := by
  obtain ⟨g, c, rfl, ri, a2, a3⟩ := h.at hi
  obtain ⟨g', c', e, rj, b2, b3⟩ := h.at hj
  injection e with e1 _ e3
  injection e1 with e1
  injection e1 with e1
  subst e1 e3
  exact less_cells g 0 hp.length c i j a b w (List.getElem?_eq_some_iff.1 hi).1 (List.getElem?_eq_some_iff.1 hj).1 ri rj a2 a3 b2 b3

set_option linter.unusedSimpArgs false in
set_option maxHeartbeats 8000000 in
theorem swap_cells (g o n c i j : Nat) (a b : It) (rc ca cb : Array Value) (w : World) (hi : i < n) (hj : j < n) (hij : i ≠ j) (hab : a.1 ≠ b.1) (hga : g ≠ a.1) (hgb : g ≠ b.1) (_hn : n ≤ 1000)
    (hr : w.heap[g]? = some (.cells rc 104 (0, 0))) (hrs : o + n ≤ rc.size) (ha : w.heap[a.1]? = some (.cells ca 106 (0, 0))) (hb : w.heap[b.1]? = some (.cells cb 106 (0, 0))) (has : ca.size = 5) (hbs : cb.size = 5)
    (ri : w.cell? ⟨g, o + i, none⟩ = some (.pointer (some ⟨a.1, 0, none⟩))) (rj : w.cell? ⟨g, o + j, none⟩ = some (.pointer (some ⟨b.1, 0, none⟩))) :
    Calls Try.prog 120 #[.slice (some ⟨g, o, none⟩) n c, .int .i64 (i : Int), .int .i64 (j : Int)] w fun r w' => r = .returned (.tuple #[]) ∧
      w' = ((((w.drew.setCell ⟨g, o + i, none⟩ (.pointer (some ⟨b.1, 0, none⟩))).setCell ⟨g, o + j, none⟩ (.pointer (some ⟨a.1, 0, none⟩))).drew.setCell ⟨b.1, 4, none⟩ (.int .i64 (i : Int))).setCell ⟨a.1, 4, none⟩ (.int .i64 (j : Int))) := by
  have fg : ∀ k, w.frozen? ⟨g, k, none⟩ = false := fun k => frozen_of_row w _ k _ _ hr
  obtain ⟨W0, hW0⟩ : ∃ W0, W0 = w.drew := ⟨_, rfl⟩
  obtain ⟨w1, hw1⟩ : ∃ w1, w1 = W0.setCell ⟨g, o + i, none⟩ (.pointer (some ⟨b.1, 0, none⟩)) := ⟨_, rfl⟩
  obtain ⟨w2, hw2⟩ : ∃ w2, w2 = w1.setCell ⟨g, o + j, none⟩ (.pointer (some ⟨a.1, 0, none⟩)) := ⟨_, rfl⟩
  have hr0 : W0.heap[g]? = some (.cells rc 104 (0, 0)) := by rw [hW0]; exact hr
  have hr1 : w1.heap[g]? = some (.cells (rc.setIfInBounds (o + i) (.pointer (some ⟨b.1, 0, none⟩))) 104 (0, 0)) := by rw [hw1]; exact heap_setCell_same W0 g (o + i) _ 104 _ hr0
  have hr2 : w2.heap[g]? = some (.cells ((rc.setIfInBounds (o + i) (.pointer (some ⟨b.1, 0, none⟩))).setIfInBounds (o + j) (.pointer (some ⟨a.1, 0, none⟩))) 104 (0, 0)) := by rw [hw2]; exact heap_setCell_same w1 g (o + j) _ 104 _ hr1
  have ri0 : W0.cell? ⟨g, o + i, none⟩ = some (.pointer (some ⟨a.1, 0, none⟩)) := by rw [hW0]; exact ri
  have rj0 : W0.cell? ⟨g, o + j, none⟩ = some (.pointer (some ⟨b.1, 0, none⟩)) := by rw [hW0]; exact rj
  have rj1 : w1.cell? ⟨g, o + j, none⟩ = some (.pointer (some ⟨b.1, 0, none⟩)) := by
    rw [cell_of_row w1 g _ _ _ _ hr1, Array.getElem?_setIfInBounds_ne (by omega), ← cell_of_row W0 g _ _ _ _ hr0]
    exact rj0
  have r2i : w2.cell? ⟨g, o + i, none⟩ = some (.pointer (some ⟨b.1, 0, none⟩)) := by
    rw [cell_of_row w2 g _ _ _ _ hr2, Array.getElem?_setIfInBounds_ne (by omega), Array.getElem?_setIfInBounds_self_of_lt (by omega)]
  have r2j : w2.cell? ⟨g, o + j, none⟩ = some (.pointer (some ⟨a.1, 0, none⟩)) := by
    rw [cell_of_row w2 g _ _ _ _ hr2, Array.getElem?_setIfInBounds_self_of_lt (by rw [Array.size_setIfInBounds]; omega)]
  have f0 : ∀ k, W0.frozen? ⟨g, k, none⟩ = false := fun k => frozen_of_row W0 _ k _ _ hr0
  have f1 : ∀ k, w1.frozen? ⟨g, k, none⟩ = false := fun k => frozen_of_row w1 _ k _ _ hr1
  have hk : ∀ k, k ≠ g → w2.heap[k]? = w.heap[k]? := fun k hk => by rw [hw2, hw1, hW0]; exact (Below.heap_setCell _ _ _ _ hk).trans (Below.heap_setCell _ _ _ _ hk)
  have ha2 := (hk a.1 (fun e => hga e.symm)).trans ha
  have hb2 := (hk b.1 (fun e => hgb e.symm)).trans hb
  have H0 := Lib.hid hW0
  have H1 := Lib.hid hw1
  have H2 := Lib.hid hw2
  have HR2 := Lib.hid hr2
  have HA2 := Lib.hid ha2
  have HB2 := Lib.hid hb2
  have R2 := Lib.hid (And.intro r2i r2j)
  clear fg hr ri rj hr0 hr1 hr2 ha hb hk ha2 hb2 hW0 hw1 hw2 r2i r2j
  go_enter Try.func120, Try.ntmps120
  go_upto_region 0 with (fail)
  refine wp_region_held_drew (S := fun _ : World => True) (by kernel_rfl) trivial (fun hHeld => ?_)
  rw [← H0.out]
  refine wpAnyH_take (i := 0) (oi := ?oi0) (v := ?v0) ?hi0 ?hs0 ?hf0 ?hr0 ?hQ0 ?hy0 ?hS0 ?h0
  case hi0 => exact (by simp only [List.getElem?_toArray, List.getElem?_cons_zero]; rfl)
  case hs0 => kernel_rfl
  case hf0 => kernel_rfl
  case hr0 => kernel_rfl
  case hQ0 => exact fun _ _ _ h => h
  case hy0 =>
    refine Or.inl ⟨rfl, ?_⟩
    intro W _
    go_simp
    try with_reducible rfl
  case hS0 => assumption
  try simp only [Act.put, List.setIfInBounds_toArray, List.set_cons_zero, List.set_cons_succ]
  refine wpAnyH_take (i := 1) (oi := ?oi1) (v := ?v1) ?hi1 ?hs1 ?hf1 ?hr1 ?hQ1 ?hy1 ?hS1 ?h1
  case hi1 => exact (by simp only [List.getElem?_toArray, List.getElem?_cons_succ, List.getElem?_cons_zero]; rfl)
  case hs1 => kernel_rfl
  case hf1 => kernel_rfl
  case hr1 => kernel_rfl
  case hQ1 => exact fun _ _ _ h => h
  case hy1 =>
    refine Or.inl ⟨rfl, ?_⟩
    intro W _
    go_simp
    try with_reducible rfl
  case hS1 => assumption
  try simp only [Act.put, List.setIfInBounds_toArray, List.set_cons_zero, List.set_cons_succ]
  refine wpAnyH_take (i := 2) (oi := ?oi2) (v := ?v2) ?hi2 ?hs2 ?hf2 ?hr2 ?hQ2 ?hy2 ?hS2 ?h2
  case hi2 => exact (by simp only [List.getElem?_toArray, List.getElem?_cons_succ, List.getElem?_cons_zero]; rfl)
  case hs2 => kernel_rfl
  case hf2 => kernel_rfl
  case hr2 => kernel_rfl
  case hQ2 => exact fun _ _ _ h => h
  case hy2 =>
    refine Or.inl ⟨rfl, ?_⟩
    intro W _
    go_simp
    try with_reducible rfl
  case hS2 => assumption
  try simp only [Act.put, List.setIfInBounds_toArray, List.set_cons_zero, List.set_cons_succ]
  refine wpAnyH_take (i := 3) (oi := ?oi3) (v := ?v3) ?hi3 ?hs3 ?hf3 ?hr3 ?hQ3 ?hy3 ?hS3 ?h3
  case hi3 => exact (by simp only [List.getElem?_toArray, List.getElem?_cons_succ, List.getElem?_cons_zero]; rfl)
  case hs3 => kernel_rfl
  case hf3 => kernel_rfl
  case hr3 => kernel_rfl
  case hQ3 => exact fun _ _ _ h => h
  case hy3 =>
    refine Or.inl ⟨rfl, ?_⟩
    intro W _
    go_simp
    try with_reducible rfl
  case hS3 => assumption
  try simp only [Act.put, List.setIfInBounds_toArray, List.set_cons_zero, List.set_cons_succ]
  refine wpAnyH_take (i := 4) (oi := ?oi4) (v := ?v4) ?hi4 ?hs4 ?hf4 ?hr4 ?hQ4 ?hy4 ?hS4 ?h4
  case hi4 => exact (by simp only [List.getElem?_toArray, List.getElem?_cons_succ, List.getElem?_cons_zero]; rfl)
  case hs4 => kernel_rfl
  case hf4 => kernel_rfl
  case hr4 => kernel_rfl
  case hQ4 => exact fun _ _ _ h => h
  case hy4 =>
    refine Or.inl ⟨rfl, ?_⟩
    intro W _
    go_simp
    try with_reducible rfl
  case hS4 => assumption
  try simp only [Act.put, List.setIfInBounds_toArray, List.set_cons_zero, List.set_cons_succ]
  refine wpAnyH_take (i := 5) (oi := ?oi5) (v := ?v5) ?hi5 ?hs5 ?hf5 ?hr5 ?hQ5 ?hy5 ?hS5 ?h5
  case hi5 => exact (by simp only [List.getElem?_toArray, List.getElem?_cons_succ, List.getElem?_cons_zero]; rfl)
  case hs5 => kernel_rfl
  case hf5 => kernel_rfl
  case hr5 => kernel_rfl
  case hQ5 => exact fun _ _ _ h => h
  case hy5 =>
    refine Or.inl ⟨rfl, ?_⟩
    intro W _
    go_simp
    try with_reducible rfl
  case hS5 => assumption
  try simp only [Act.put, List.setIfInBounds_toArray, List.set_cons_zero, List.set_cons_succ]
  refine wpAnyH_take (i := 6) (oi := ?oi6) (v := ?v6) ?hi6 ?hs6 ?hf6 ?hr6 ?hQ6 ?hy6 ?hS6 ?h6
  case hi6 => exact (by simp only [List.getElem?_toArray, List.getElem?_cons_succ, List.getElem?_cons_zero]; rfl)
  case hs6 => kernel_rfl
  case hf6 => kernel_rfl
  case hr6 => kernel_rfl
  case hQ6 => exact fun _ _ _ h => h
  case hy6 =>
    refine Or.inl ⟨rfl, ?_⟩
    intro W _
    go_simp
    try with_reducible rfl
  case hS6 => assumption
  try simp only [Act.put, List.setIfInBounds_toArray, List.set_cons_zero, List.set_cons_succ]
  refine wpAnyH_take (i := 8) (oi := ?oi8) (v := ?v8) ?hi8 ?hs8 ?hf8 ?hr8 ?hQ8 ?hy8 ?hS8 ?h8
  case hi8 => exact (by simp only [List.getElem?_toArray, List.getElem?_cons_succ, List.getElem?_cons_zero]; rfl)
  case hs8 => kernel_rfl
  case hf8 => kernel_rfl
  case hr8 => kernel_rfl
  case hQ8 => exact fun _ _ _ h => h
  case hy8 =>
    refine Or.inl ⟨rfl, ?_⟩
    intro W _
    go_simp
    try with_reducible rfl
  case hS8 => assumption
  try simp only [Act.put, List.setIfInBounds_toArray, List.set_cons_zero, List.set_cons_succ]
  refine wpAnyH_take (i := 9) (oi := ?oi9) (v := ?v9) ?hi9 ?hs9 ?hf9 ?hr9 ?hQ9 ?hy9 ?hS9 ?h9
  case hi9 => exact (by simp only [List.getElem?_toArray, List.getElem?_cons_succ, List.getElem?_cons_zero]; rfl)
  case hs9 => kernel_rfl
  case hf9 => kernel_rfl
  case hr9 => kernel_rfl
  case hQ9 => exact fun _ _ _ h => h
  case hy9 =>
    refine Or.inl ⟨rfl, ?_⟩
    intro W _
    go_simp
    try with_reducible rfl
  case hS9 => assumption
  try simp only [Act.put, List.setIfInBounds_toArray, List.set_cons_zero, List.set_cons_succ]
  refine wpAnyH_take (i := 10) (oi := ?oi10) (v := ?v10) ?hi10 ?hs10 ?hf10 ?hr10 ?hQ10 ?hy10 ?hS10 ?h10
  case hi10 => exact (by simp only [List.getElem?_toArray, List.getElem?_cons_succ, List.getElem?_cons_zero]; rfl)
  case hs10 => kernel_rfl
  case hf10 => kernel_rfl
  case hr10 => kernel_rfl
  case hQ10 => exact fun _ _ _ h => h
  case hy10 =>
    refine Or.inl ⟨rfl, ?_⟩
    intro W _
    go_simp
    try with_reducible rfl
  case hS10 => assumption
  try simp only [Act.put, List.setIfInBounds_toArray, List.set_cons_zero, List.set_cons_succ]
  refine wpAnyH_ready (rs := [7, 11]) (by kernel_rfl) (by simp) ?_
  refine AllReadyH.cons (o := _) rfl (fun K hK => ?_) (AllReadyH.cons (o := _) rfl (fun K hK => ?_) AllReadyH.nil)
  · go_simp
    refine hK.out _ _ trivial (fun hHeld => ?_)
    clear hK K
    try simp only [Act.put, List.setIfInBounds_toArray, List.set_cons_zero, List.set_cons_succ]
    refine wpAnyH_ready (rs := [11]) (by kernel_rfl) (by simp) ?_
    refine AllReadyH.cons (o := _) rfl (fun K hK => ?_) AllReadyH.nil
    go_simp
    refine hK.out _ _ trivial (fun hHeld => ?_)
    clear hK K
    try simp only [Act.put, List.setIfInBounds_toArray, List.set_cons_zero, List.set_cons_succ]
    refine wpAnyH_take (i := 12) (oi := ?oi12a) (v := ?v12a) ?hi12a ?hs12a ?hf12a ?hr12a ?hQ12a ?hy12a ?hS12a ?h12a
    case hi12a => exact (by simp only [List.getElem?_toArray, List.getElem?_cons_succ, List.getElem?_cons_zero]; rfl)
    case hs12a => kernel_rfl
    case hf12a => kernel_rfl
    case hr12a => kernel_rfl
    case hQ12a => exact fun _ _ _ h => h
    case hy12a =>
      refine Or.inl ⟨rfl, ?_⟩
      intro W _
      go_simp
      try with_reducible rfl
    case hS12a => assumption
    try simp only [Act.put, List.setIfInBounds_toArray, List.set_cons_zero, List.set_cons_succ]
    refine wpAnyH_ready (rs := [13]) (by kernel_rfl) (by simp) ?_
    refine AllReadyH.cons (o := _) rfl (fun K hK => ?_) AllReadyH.nil
    go_simp
    rw [← H1.out]
    refine hK.out _ _ trivial (fun hHeld => ?_)
    clear hK K
    try simp only [Act.put, List.setIfInBounds_toArray, List.set_cons_zero, List.set_cons_succ]
    refine wpAnyH_take (i := 14) (oi := ?oi14a) (v := ?v14a) ?hi14a ?hs14a ?hf14a ?hr14a ?hQ14a ?hy14a ?hS14a ?h14a
    case hi14a => exact (by simp only [List.getElem?_toArray, List.getElem?_cons_succ, List.getElem?_cons_zero]; rfl)
    case hs14a => kernel_rfl
    case hf14a => kernel_rfl
    case hr14a => kernel_rfl
    case hQ14a => exact fun _ _ _ h => h
    case hy14a =>
      refine Or.inl ⟨rfl, ?_⟩
      intro W _
      go_simp
      try with_reducible rfl
    case hS14a => assumption
    try simp only [Act.put, List.setIfInBounds_toArray, List.set_cons_zero, List.set_cons_succ]
    refine wpAnyH_ready (rs := [15]) (by kernel_rfl) (by simp) ?_
    refine AllReadyH.cons (o := _) rfl (fun K hK => ?_) AllReadyH.nil
    go_simp
    rw [← H2.out]
    refine hK.out _ _ trivial (fun hHeld => ?_)
    clear hK K
    try simp only [Act.put, List.setIfInBounds_toArray, List.set_cons_zero, List.set_cons_succ]
    refine wpAnyH_done (by kernel_rfl) ?_ _
    go_upto_region 1 with (fail)
    have HSW : Hid ((fun W : World => W.cell? ⟨g, o + i, none⟩ = some (.pointer (some ⟨b.1, 0, none⟩)) ∧ W.cell? ⟨g, o + j, none⟩ = some (.pointer (some ⟨a.1, 0, none⟩))) w2.drew) := R2.out
    refine wp_region_held_drew (S := fun W : World => W.cell? ⟨g, o + i, none⟩ = some (.pointer (some ⟨b.1, 0, none⟩)) ∧ W.cell? ⟨g, o + j, none⟩ = some (.pointer (some ⟨a.1, 0, none⟩))) (by kernel_rfl) HSW.out (fun hHeld => ?_)
    obtain ⟨W3, hW3⟩ : ∃ W3, W3 = w2.drew := ⟨_, rfl⟩
    have HA3 : Hid (W3.heap[a.1]? = some (.cells ca 106 (0, 0))) := by rw [hW3]; exact HA2.out
    have HB3 : Hid (W3.heap[b.1]? = some (.cells cb 106 (0, 0))) := by rw [hW3]; exact HB2.out
    have HSK : Hid (∀ W, W.heap[g]? = W3.heap[g]? → (fun W : World => W.cell? ⟨g, o + i, none⟩ = some (.pointer (some ⟨b.1, 0, none⟩)) ∧ W.cell? ⟨g, o + j, none⟩ = some (.pointer (some ⟨a.1, 0, none⟩))) W) := fun W hW => ⟨(World.cell?_of_block (a := ⟨g, _, none⟩) (hW.trans (by rw [hW3]; rfl))).trans R2.out.1, (World.cell?_of_block (a := ⟨g, _, none⟩) (hW.trans (by rw [hW3]; rfl))).trans R2.out.2⟩
    rw [← hW3] at hHeld ⊢
    have H3 := Lib.hid hW3
    clear hW3 ri0 rj0 rj1 f0 f1
    have fa : ∀ k, W3.frozen? ⟨a.1, k, none⟩ = false := fun k => frozen_of_row W3 _ k _ _ HA3.out
    have fb : ∀ k, W3.frozen? ⟨b.1, k, none⟩ = false := fun k => frozen_of_row W3 _ k _ _ HB3.out
    obtain ⟨ua, xa⟩ : ∃ u, W3.cell? ⟨a.1, 4, none⟩ = some u := ⟨ca[4]'(by omega), by rw [cell_of_row W3 a.1 4 _ _ _ HA3.out]; exact Array.getElem?_eq_getElem (by omega)⟩
    obtain ⟨ub, xb⟩ : ∃ u, W3.cell? ⟨b.1, 4, none⟩ = some u := ⟨cb[4]'(by omega), by rw [cell_of_row W3 b.1 4 _ _ _ HB3.out]; exact Array.getElem?_eq_getElem (by omega)⟩
    refine wpAnyH_take (i := 0) (oi := ?oi0ar) (v := ?v0ar) ?hi0ar ?hs0ar ?hf0ar ?hr0ar ?hQ0ar ?hy0ar ?hS0ar ?h0ar
    case hi0ar => exact (by simp only [List.getElem?_toArray, List.getElem?_cons_zero]; rfl)
    case hs0ar => kernel_rfl
    case hf0ar => kernel_rfl
    case hr0ar => kernel_rfl
    case hQ0ar => exact fun _ _ _ h => h
    case hy0ar =>
      refine Or.inl ⟨rfl, ?_⟩
      intro W hSw
      obtain ⟨y0, y1⟩ := hSw
      go_simp
      try with_reducible rfl
    case hS0ar => assumption
    try simp only [Act.put, List.setIfInBounds_toArray, List.set_cons_zero, List.set_cons_succ]
    refine wpAnyH_take (i := 1) (oi := ?oi1ar) (v := ?v1ar) ?hi1ar ?hs1ar ?hf1ar ?hr1ar ?hQ1ar ?hy1ar ?hS1ar ?h1ar
    case hi1ar => exact (by simp only [List.getElem?_toArray, List.getElem?_cons_succ, List.getElem?_cons_zero]; rfl)
    case hs1ar => kernel_rfl
    case hf1ar => kernel_rfl
    case hr1ar => kernel_rfl
    case hQ1ar => exact fun _ _ _ h => h
    case hy1ar =>
      refine Or.inl ⟨rfl, ?_⟩
      intro W hSw
      obtain ⟨y0, y1⟩ := hSw
      go_simp
      try with_reducible rfl
    case hS1ar => assumption
    try simp only [Act.put, List.setIfInBounds_toArray, List.set_cons_zero, List.set_cons_succ]
    refine wpAnyH_take (i := 2) (oi := ?oi2ar) (v := ?v2ar) ?hi2ar ?hs2ar ?hf2ar ?hr2ar ?hQ2ar ?hy2ar ?hS2ar ?h2ar
    case hi2ar => exact (by simp only [List.getElem?_toArray, List.getElem?_cons_succ, List.getElem?_cons_zero]; rfl)
    case hs2ar => kernel_rfl
    case hf2ar => kernel_rfl
    case hr2ar => kernel_rfl
    case hQ2ar => exact fun _ _ _ h => h
    case hy2ar =>
      refine Or.inl ⟨rfl, ?_⟩
      intro W hSw
      obtain ⟨y0, y1⟩ := hSw
      go_simp
      try with_reducible rfl
    case hS2ar => assumption
    try simp only [Act.put, List.setIfInBounds_toArray, List.set_cons_zero, List.set_cons_succ]
    refine wpAnyH_take (i := 3) (oi := ?oi3ar) (v := ?v3ar) ?hi3ar ?hs3ar ?hf3ar ?hr3ar ?hQ3ar ?hy3ar ?hS3ar ?h3ar
    case hi3ar => exact (by simp only [List.getElem?_toArray, List.getElem?_cons_succ, List.getElem?_cons_zero]; rfl)
    case hs3ar => kernel_rfl
    case hf3ar => kernel_rfl
    case hr3ar => kernel_rfl
    case hQ3ar => exact fun _ _ _ h => h
    case hy3ar =>
      refine Or.inl ⟨rfl, ?_⟩
      intro W hSw
      obtain ⟨y0, y1⟩ := hSw
      go_simp
      try with_reducible rfl
    case hS3ar => assumption
    try simp only [Act.put, List.setIfInBounds_toArray, List.set_cons_zero, List.set_cons_succ]
    refine wpAnyH_take (i := 4) (oi := ?oi4ar) (v := ?v4ar) ?hi4ar ?hs4ar ?hf4ar ?hr4ar ?hQ4ar ?hy4ar ?hS4ar ?h4ar
    case hi4ar => exact (by simp only [List.getElem?_toArray, List.getElem?_cons_succ, List.getElem?_cons_zero]; rfl)
    case hs4ar => kernel_rfl
    case hf4ar => kernel_rfl
    case hr4ar => kernel_rfl
    case hQ4ar => exact fun _ _ _ h => h
    case hy4ar =>
      refine Or.inl ⟨rfl, ?_⟩
      intro W hSw
      obtain ⟨y0, y1⟩ := hSw
      go_simp
      try with_reducible rfl
    case hS4ar => assumption
    try simp only [Act.put, List.setIfInBounds_toArray, List.set_cons_zero, List.set_cons_succ]
    refine wpAnyH_take (i := 5) (oi := ?oi5ar) (v := ?v5ar) ?hi5ar ?hs5ar ?hf5ar ?hr5ar ?hQ5ar ?hy5ar ?hS5ar ?h5ar
    case hi5ar => exact (by simp only [List.getElem?_toArray, List.getElem?_cons_succ, List.getElem?_cons_zero]; rfl)
    case hs5ar => kernel_rfl
    case hf5ar => kernel_rfl
    case hr5ar => kernel_rfl
    case hQ5ar => exact fun _ _ _ h => h
    case hy5ar =>
      refine Or.inl ⟨rfl, ?_⟩
      intro W hSw
      obtain ⟨y0, y1⟩ := hSw
      go_simp
      try with_reducible rfl
    case hS5ar => assumption
    try simp only [Act.put, List.setIfInBounds_toArray, List.set_cons_zero, List.set_cons_succ]
    refine wpAnyH_take (i := 6) (oi := ?oi6ar) (v := ?v6ar) ?hi6ar ?hs6ar ?hf6ar ?hr6ar ?hQ6ar ?hy6ar ?hS6ar ?h6ar
    case hi6ar => exact (by simp only [List.getElem?_toArray, List.getElem?_cons_succ, List.getElem?_cons_zero]; rfl)
    case hs6ar => kernel_rfl
    case hf6ar => kernel_rfl
    case hr6ar => kernel_rfl
    case hQ6ar => exact fun _ _ _ h => h
    case hy6ar =>
      refine Or.inl ⟨rfl, ?_⟩
      intro W hSw
      obtain ⟨y0, y1⟩ := hSw
      go_simp
      try with_reducible rfl
    case hS6ar => assumption
    try simp only [Act.put, List.setIfInBounds_toArray, List.set_cons_zero, List.set_cons_succ]
    refine wpAnyH_take (i := 7) (oi := ?oi7ar) (v := ?v7ar) ?hi7ar ?hs7ar ?hf7ar ?hr7ar ?hQ7ar ?hy7ar ?hS7ar ?h7ar
    case hi7ar => exact (by simp only [List.getElem?_toArray, List.getElem?_cons_succ, List.getElem?_cons_zero]; rfl)
    case hs7ar => kernel_rfl
    case hf7ar => kernel_rfl
    case hr7ar => kernel_rfl
    case hQ7ar => exact fun _ _ _ h => h
    case hy7ar =>
      refine Or.inl ⟨rfl, ?_⟩
      intro W hSw
      obtain ⟨y0, y1⟩ := hSw
      go_simp
      try with_reducible rfl
    case hS7ar => assumption
    try simp only [Act.put, List.setIfInBounds_toArray, List.set_cons_zero, List.set_cons_succ]
    refine wpAnyH_take (i := 8) (oi := ?oi8ar) (v := ?v8ar) ?hi8ar ?hs8ar ?hf8ar ?hr8ar ?hQ8ar ?hy8ar ?hS8ar ?h8ar
    case hi8ar => exact (by simp only [List.getElem?_toArray, List.getElem?_cons_succ, List.getElem?_cons_zero]; rfl)
    case hs8ar => kernel_rfl
    case hf8ar => kernel_rfl
    case hr8ar => kernel_rfl
    case hQ8ar => exact fun _ _ _ h => h
    case hy8ar =>
      refine Or.inl ⟨rfl, ?_⟩
      intro W hSw
      obtain ⟨y0, y1⟩ := hSw
      go_simp
      try with_reducible rfl
    case hS8ar => assumption
    try simp only [Act.put, List.setIfInBounds_toArray, List.set_cons_zero, List.set_cons_succ]
    refine wpAnyH_take (i := 9) (oi := ?oi9ar) (v := ?v9ar) ?hi9ar ?hs9ar ?hf9ar ?hr9ar ?hQ9ar ?hy9ar ?hS9ar ?h9ar
    case hi9ar => exact (by simp only [List.getElem?_toArray, List.getElem?_cons_succ, List.getElem?_cons_zero]; rfl)
    case hs9ar => kernel_rfl
    case hf9ar => kernel_rfl
    case hr9ar => kernel_rfl
    case hQ9ar => exact fun _ _ _ h => h
    case hy9ar =>
      refine Or.inl ⟨rfl, ?_⟩
      intro W hSw
      obtain ⟨y0, y1⟩ := hSw
      go_simp
      try with_reducible rfl
    case hS9ar => assumption
    try simp only [Act.put, List.setIfInBounds_toArray, List.set_cons_zero, List.set_cons_succ]
    refine wpAnyH_take (i := 10) (oi := ?oi10ar) (v := ?v10ar) ?hi10ar ?hs10ar ?hf10ar ?hr10ar ?hQ10ar ?hy10ar ?hS10ar ?h10ar
    case hi10ar => exact (by simp only [List.getElem?_toArray, List.getElem?_cons_succ, List.getElem?_cons_zero]; rfl)
    case hs10ar => kernel_rfl
    case hf10ar => kernel_rfl
    case hr10ar => kernel_rfl
    case hQ10ar => exact fun _ _ _ h => h
    case hy10ar =>
      refine Or.inl ⟨rfl, ?_⟩
      intro W hSw
      obtain ⟨y0, y1⟩ := hSw
      go_simp
      try with_reducible rfl
    case hS10ar => assumption
    try simp only [Act.put, List.setIfInBounds_toArray, List.set_cons_zero, List.set_cons_succ]
    refine wpAnyH_take (i := 11) (oi := ?oi11ar) (v := ?v11ar) ?hi11ar ?hs11ar ?hf11ar ?hr11ar ?hQ11ar ?hy11ar ?hS11ar ?h11ar
    case hi11ar => exact (by simp only [List.getElem?_toArray, List.getElem?_cons_succ, List.getElem?_cons_zero]; rfl)
    case hs11ar => kernel_rfl
    case hf11ar => kernel_rfl
    case hr11ar => kernel_rfl
    case hQ11ar => exact fun _ _ _ h => h
    case hy11ar =>
      refine Or.inl ⟨rfl, ?_⟩
      intro W hSw
      obtain ⟨y0, y1⟩ := hSw
      go_simp
      try with_reducible rfl
    case hS11ar => assumption
    try simp only [Act.put, List.setIfInBounds_toArray, List.set_cons_zero, List.set_cons_succ]
    refine wpAnyH_ready (rs := [12]) (by kernel_rfl) (by simp) ?_
    refine AllReadyH.cons (o := _) rfl (fun K hK => ?_) AllReadyH.nil
    go_simp
    refine hK.out _ _ (HSK.out _ (Below.heap_setCell _ _ _ _ (by show g ≠ b.1; exact hgb))) (fun hHeld => ?_)
    clear hK K
    try simp only [Act.put, List.setIfInBounds_toArray, List.set_cons_zero, List.set_cons_succ]
    refine wpAnyH_take (i := 13) (oi := ?oi13ar) (v := ?v13ar) ?hi13ar ?hs13ar ?hf13ar ?hr13ar ?hQ13ar ?hy13ar ?hS13ar ?h13ar
    case hi13ar => exact (by simp only [List.getElem?_toArray, List.getElem?_cons_succ, List.getElem?_cons_zero]; rfl)
    case hs13ar => kernel_rfl
    case hf13ar => kernel_rfl
    case hr13ar => kernel_rfl
    case hQ13ar => exact fun _ _ _ h => h
    case hy13ar =>
      refine Or.inl ⟨rfl, ?_⟩
      intro W hSw
      obtain ⟨y0, y1⟩ := hSw
      go_simp
      try with_reducible rfl
    case hS13ar => assumption
    try simp only [Act.put, List.setIfInBounds_toArray, List.set_cons_zero, List.set_cons_succ]
    refine wpAnyH_take (i := 14) (oi := ?oi14ar) (v := ?v14ar) ?hi14ar ?hs14ar ?hf14ar ?hr14ar ?hQ14ar ?hy14ar ?hS14ar ?h14ar
    case hi14ar => exact (by simp only [List.getElem?_toArray, List.getElem?_cons_succ, List.getElem?_cons_zero]; rfl)
    case hs14ar => kernel_rfl
    case hf14ar => kernel_rfl
    case hr14ar => kernel_rfl
    case hQ14ar => exact fun _ _ _ h => h
    case hy14ar =>
      refine Or.inl ⟨rfl, ?_⟩
      intro W hSw
      obtain ⟨y0, y1⟩ := hSw
      go_simp
      try with_reducible rfl
    case hS14ar => assumption
    try simp only [Act.put, List.setIfInBounds_toArray, List.set_cons_zero, List.set_cons_succ]
    refine wpAnyH_ready (rs := [15]) (by kernel_rfl) (by simp) ?_
    refine AllReadyH.cons (o := _) rfl (fun K hK => ?_) AllReadyH.nil
    go_simp
    refine hK.out _ _ (HSK.out _ ((Below.heap_setCell _ _ _ _ (by show g ≠ a.1; exact hga)).trans (Below.heap_setCell _ _ _ _ (by show g ≠ b.1; exact hgb)))) (fun hHeld => ?_)
    clear hK K
    try simp only [Act.put, List.setIfInBounds_toArray, List.set_cons_zero, List.set_cons_succ]
    refine wpAnyH_done (by kernel_rfl) ?_ _
    clear fa fb xa xb
    go_wp2
    go_end0
    refine ⟨rfl, ?_⟩
    rw [H3.out, H2.out, H1.out, H0.out]
    rfl
  · go_simp
    refine hK.out _ _ trivial (fun hHeld => ?_)
    clear hK K
    try simp only [Act.put, List.setIfInBounds_toArray, List.set_cons_zero, List.set_cons_succ]
    refine wpAnyH_ready (rs := [7]) (by kernel_rfl) (by simp) ?_
    refine AllReadyH.cons (o := _) rfl (fun K hK => ?_) AllReadyH.nil
    go_simp
    refine hK.out _ _ trivial (fun hHeld => ?_)
    clear hK K
    try simp only [Act.put, List.setIfInBounds_toArray, List.set_cons_zero, List.set_cons_succ]
    refine wpAnyH_take (i := 12) (oi := ?oi12b) (v := ?v12b) ?hi12b ?hs12b ?hf12b ?hr12b ?hQ12b ?hy12b ?hS12b ?h12b
    case hi12b => exact (by simp only [List.getElem?_toArray, List.getElem?_cons_succ, List.getElem?_cons_zero]; rfl)
    case hs12b => kernel_rfl
    case hf12b => kernel_rfl
    case hr12b => kernel_rfl
    case hQ12b => exact fun _ _ _ h => h
    case hy12b =>
      refine Or.inl ⟨rfl, ?_⟩
      intro W _
      go_simp
      try with_reducible rfl
    case hS12b => assumption
    try simp only [Act.put, List.setIfInBounds_toArray, List.set_cons_zero, List.set_cons_succ]
    refine wpAnyH_ready (rs := [13]) (by kernel_rfl) (by simp) ?_
    refine AllReadyH.cons (o := _) rfl (fun K hK => ?_) AllReadyH.nil
    go_simp
    rw [← H1.out]
    refine hK.out _ _ trivial (fun hHeld => ?_)
    clear hK K
    try simp only [Act.put, List.setIfInBounds_toArray, List.set_cons_zero, List.set_cons_succ]
    refine wpAnyH_take (i := 14) (oi := ?oi14b) (v := ?v14b) ?hi14b ?hs14b ?hf14b ?hr14b ?hQ14b ?hy14b ?hS14b ?h14b
    case hi14b => exact (by simp only [List.getElem?_toArray, List.getElem?_cons_succ, List.getElem?_cons_zero]; rfl)
    case hs14b => kernel_rfl
    case hf14b => kernel_rfl
    case hr14b => kernel_rfl
    case hQ14b => exact fun _ _ _ h => h
    case hy14b =>
      refine Or.inl ⟨rfl, ?_⟩
      intro W _
      go_simp
      try with_reducible rfl
    case hS14b => assumption
    try simp only [Act.put, List.setIfInBounds_toArray, List.set_cons_zero, List.set_cons_succ]
    refine wpAnyH_ready (rs := [15]) (by kernel_rfl) (by simp) ?_
    refine AllReadyH.cons (o := _) rfl (fun K hK => ?_) AllReadyH.nil
    go_simp
    rw [← H2.out]
    refine hK.out _ _ trivial (fun hHeld => ?_)
    clear hK K
    try simp only [Act.put, List.setIfInBounds_toArray, List.set_cons_zero, List.set_cons_succ]
    refine wpAnyH_done (by kernel_rfl) ?_ _
    go_upto_region 1 with (fail)
    have HSW : Hid ((fun W : World => W.cell? ⟨g, o + i, none⟩ = some (.pointer (some ⟨b.1, 0, none⟩)) ∧ W.cell? ⟨g, o + j, none⟩ = some (.pointer (some ⟨a.1, 0, none⟩))) w2.drew) := R2.out
    refine wp_region_held_drew (S := fun W : World => W.cell? ⟨g, o + i, none⟩ = some (.pointer (some ⟨b.1, 0, none⟩)) ∧ W.cell? ⟨g, o + j, none⟩ = some (.pointer (some ⟨a.1, 0, none⟩))) (by kernel_rfl) HSW.out (fun hHeld => ?_)
    obtain ⟨W3, hW3⟩ : ∃ W3, W3 = w2.drew := ⟨_, rfl⟩
    have HA3 : Hid (W3.heap[a.1]? = some (.cells ca 106 (0, 0))) := by rw [hW3]; exact HA2.out
    have HB3 : Hid (W3.heap[b.1]? = some (.cells cb 106 (0, 0))) := by rw [hW3]; exact HB2.out
    have HSK : Hid (∀ W, W.heap[g]? = W3.heap[g]? → (fun W : World => W.cell? ⟨g, o + i, none⟩ = some (.pointer (some ⟨b.1, 0, none⟩)) ∧ W.cell? ⟨g, o + j, none⟩ = some (.pointer (some ⟨a.1, 0, none⟩))) W) := fun W hW => ⟨(World.cell?_of_block (a := ⟨g, _, none⟩) (hW.trans (by rw [hW3]; rfl))).trans R2.out.1, (World.cell?_of_block (a := ⟨g, _, none⟩) (hW.trans (by rw [hW3]; rfl))).trans R2.out.2⟩
    rw [← hW3] at hHeld ⊢
    have H3 := Lib.hid hW3
    clear hW3 ri0 rj0 rj1 f0 f1
    have fa : ∀ k, W3.frozen? ⟨a.1, k, none⟩ = false := fun k => frozen_of_row W3 _ k _ _ HA3.out
    have fb : ∀ k, W3.frozen? ⟨b.1, k, none⟩ = false := fun k => frozen_of_row W3 _ k _ _ HB3.out
    obtain ⟨ua, xa⟩ : ∃ u, W3.cell? ⟨a.1, 4, none⟩ = some u := ⟨ca[4]'(by omega), by rw [cell_of_row W3 a.1 4 _ _ _ HA3.out]; exact Array.getElem?_eq_getElem (by omega)⟩
    obtain ⟨ub, xb⟩ : ∃ u, W3.cell? ⟨b.1, 4, none⟩ = some u := ⟨cb[4]'(by omega), by rw [cell_of_row W3 b.1 4 _ _ _ HB3.out]; exact Array.getElem?_eq_getElem (by omega)⟩
    refine wpAnyH_take (i := 0) (oi := ?oi0br) (v := ?v0br) ?hi0br ?hs0br ?hf0br ?hr0br ?hQ0br ?hy0br ?hS0br ?h0br
    case hi0br => exact (by simp only [List.getElem?_toArray, List.getElem?_cons_zero]; rfl)
    case hs0br => kernel_rfl
    case hf0br => kernel_rfl
    case hr0br => kernel_rfl
    case hQ0br => exact fun _ _ _ h => h
    case hy0br =>
      refine Or.inl ⟨rfl, ?_⟩
      intro W hSw
      obtain ⟨y0, y1⟩ := hSw
      go_simp
      try with_reducible rfl
    case hS0br => assumption
    try simp only [Act.put, List.setIfInBounds_toArray, List.set_cons_zero, List.set_cons_succ]
    refine wpAnyH_take (i := 1) (oi := ?oi1br) (v := ?v1br) ?hi1br ?hs1br ?hf1br ?hr1br ?hQ1br ?hy1br ?hS1br ?h1br
    case hi1br => exact (by simp only [List.getElem?_toArray, List.getElem?_cons_succ, List.getElem?_cons_zero]; rfl)
    case hs1br => kernel_rfl
    case hf1br => kernel_rfl
    case hr1br => kernel_rfl
    case hQ1br => exact fun _ _ _ h => h
    case hy1br =>
      refine Or.inl ⟨rfl, ?_⟩
      intro W hSw
      obtain ⟨y0, y1⟩ := hSw
      go_simp
      try with_reducible rfl
    case hS1br => assumption
    try simp only [Act.put, List.setIfInBounds_toArray, List.set_cons_zero, List.set_cons_succ]
    refine wpAnyH_take (i := 2) (oi := ?oi2br) (v := ?v2br) ?hi2br ?hs2br ?hf2br ?hr2br ?hQ2br ?hy2br ?hS2br ?h2br
    case hi2br => exact (by simp only [List.getElem?_toArray, List.getElem?_cons_succ, List.getElem?_cons_zero]; rfl)
    case hs2br => kernel_rfl
    case hf2br => kernel_rfl
    case hr2br => kernel_rfl
    case hQ2br => exact fun _ _ _ h => h
    case hy2br =>
      refine Or.inl ⟨rfl, ?_⟩
      intro W hSw
      obtain ⟨y0, y1⟩ := hSw
      go_simp
      try with_reducible rfl
    case hS2br => assumption
    try simp only [Act.put, List.setIfInBounds_toArray, List.set_cons_zero, List.set_cons_succ]
    refine wpAnyH_take (i := 3) (oi := ?oi3br) (v := ?v3br) ?hi3br ?hs3br ?hf3br ?hr3br ?hQ3br ?hy3br ?hS3br ?h3br
    case hi3br => exact (by simp only [List.getElem?_toArray, List.getElem?_cons_succ, List.getElem?_cons_zero]; rfl)
    case hs3br => kernel_rfl
    case hf3br => kernel_rfl
    case hr3br => kernel_rfl
    case hQ3br => exact fun _ _ _ h => h
    case hy3br =>
      refine Or.inl ⟨rfl, ?_⟩
      intro W hSw
      obtain ⟨y0, y1⟩ := hSw
      go_simp
      try with_reducible rfl
    case hS3br => assumption
    try simp only [Act.put, List.setIfInBounds_toArray, List.set_cons_zero, List.set_cons_succ]
    refine wpAnyH_take (i := 4) (oi := ?oi4br) (v := ?v4br) ?hi4br ?hs4br ?hf4br ?hr4br ?hQ4br ?hy4br ?hS4br ?h4br
    case hi4br => exact (by simp only [List.getElem?_toArray, List.getElem?_cons_succ, List.getElem?_cons_zero]; rfl)
    case hs4br => kernel_rfl
    case hf4br => kernel_rfl
    case hr4br => kernel_rfl
    case hQ4br => exact fun _ _ _ h => h
    case hy4br =>
      refine Or.inl ⟨rfl, ?_⟩
      intro W hSw
      obtain ⟨y0, y1⟩ := hSw
      go_simp
      try with_reducible rfl
    case hS4br => assumption
    try simp only [Act.put, List.setIfInBounds_toArray, List.set_cons_zero, List.set_cons_succ]
    refine wpAnyH_take (i := 5) (oi := ?oi5br) (v := ?v5br) ?hi5br ?hs5br ?hf5br ?hr5br ?hQ5br ?hy5br ?hS5br ?h5br
    case hi5br => exact (by simp only [List.getElem?_toArray, List.getElem?_cons_succ, List.getElem?_cons_zero]; rfl)
    case hs5br => kernel_rfl
    case hf5br => kernel_rfl
    case hr5br => kernel_rfl
    case hQ5br => exact fun _ _ _ h => h
    case hy5br =>
      refine Or.inl ⟨rfl, ?_⟩
      intro W hSw
      obtain ⟨y0, y1⟩ := hSw
      go_simp
      try with_reducible rfl
    case hS5br => assumption
    try simp only [Act.put, List.setIfInBounds_toArray, List.set_cons_zero, List.set_cons_succ]
    refine wpAnyH_take (i := 6) (oi := ?oi6br) (v := ?v6br) ?hi6br ?hs6br ?hf6br ?hr6br ?hQ6br ?hy6br ?hS6br ?h6br
    case hi6br => exact (by simp only [List.getElem?_toArray, List.getElem?_cons_succ, List.getElem?_cons_zero]; rfl)
    case hs6br => kernel_rfl
    case hf6br => kernel_rfl
    case hr6br => kernel_rfl
    case hQ6br => exact fun _ _ _ h => h
    case hy6br =>
      refine Or.inl ⟨rfl, ?_⟩
      intro W hSw
      obtain ⟨y0, y1⟩ := hSw
      go_simp
      try with_reducible rfl
    case hS6br => assumption
    try simp only [Act.put, List.setIfInBounds_toArray, List.set_cons_zero, List.set_cons_succ]
    refine wpAnyH_take (i := 7) (oi := ?oi7br) (v := ?v7br) ?hi7br ?hs7br ?hf7br ?hr7br ?hQ7br ?hy7br ?hS7br ?h7br
    case hi7br => exact (by simp only [List.getElem?_toArray, List.getElem?_cons_succ, List.getElem?_cons_zero]; rfl)
    case hs7br => kernel_rfl
    case hf7br => kernel_rfl
    case hr7br => kernel_rfl
    case hQ7br => exact fun _ _ _ h => h
    case hy7br =>
      refine Or.inl ⟨rfl, ?_⟩
      intro W hSw
      obtain ⟨y0, y1⟩ := hSw
      go_simp
      try with_reducible rfl
    case hS7br => assumption
    try simp only [Act.put, List.setIfInBounds_toArray, List.set_cons_zero, List.set_cons_succ]
    refine wpAnyH_take (i := 8) (oi := ?oi8br) (v := ?v8br) ?hi8br ?hs8br ?hf8br ?hr8br ?hQ8br ?hy8br ?hS8br ?h8br
    case hi8br => exact (by simp only [List.getElem?_toArray, List.getElem?_cons_succ, List.getElem?_cons_zero]; rfl)
    case hs8br => kernel_rfl
    case hf8br => kernel_rfl
    case hr8br => kernel_rfl
    case hQ8br => exact fun _ _ _ h => h
    case hy8br =>
      refine Or.inl ⟨rfl, ?_⟩
      intro W hSw
      obtain ⟨y0, y1⟩ := hSw
      go_simp
      try with_reducible rfl
    case hS8br => assumption
    try simp only [Act.put, List.setIfInBounds_toArray, List.set_cons_zero, List.set_cons_succ]
    refine wpAnyH_take (i := 9) (oi := ?oi9br) (v := ?v9br) ?hi9br ?hs9br ?hf9br ?hr9br ?hQ9br ?hy9br ?hS9br ?h9br
    case hi9br => exact (by simp only [List.getElem?_toArray, List.getElem?_cons_succ, List.getElem?_cons_zero]; rfl)
    case hs9br => kernel_rfl
    case hf9br => kernel_rfl
    case hr9br => kernel_rfl
    case hQ9br => exact fun _ _ _ h => h
    case hy9br =>
      refine Or.inl ⟨rfl, ?_⟩
      intro W hSw
      obtain ⟨y0, y1⟩ := hSw
      go_simp
      try with_reducible rfl
    case hS9br => assumption
    try simp only [Act.put, List.setIfInBounds_toArray, List.set_cons_zero, List.set_cons_succ]
    refine wpAnyH_take (i := 10) (oi := ?oi10br) (v := ?v10br) ?hi10br ?hs10br ?hf10br ?hr10br ?hQ10br ?hy10br ?hS10br ?h10br
    case hi10br => exact (by simp only [List.getElem?_toArray, List.getElem?_cons_succ, List.getElem?_cons_zero]; rfl)
    case hs10br => kernel_rfl
    case hf10br => kernel_rfl
    case hr10br => kernel_rfl
    case hQ10br => exact fun _ _ _ h => h
    case hy10br =>
      refine Or.inl ⟨rfl, ?_⟩
      intro W hSw
      obtain ⟨y0, y1⟩ := hSw
      go_simp
      try with_reducible rfl
    case hS10br => assumption
    try simp only [Act.put, List.setIfInBounds_toArray, List.set_cons_zero, List.set_cons_succ]
    refine wpAnyH_take (i := 11) (oi := ?oi11br) (v := ?v11br) ?hi11br ?hs11br ?hf11br ?hr11br ?hQ11br ?hy11br ?hS11br ?h11br
    case hi11br => exact (by simp only [List.getElem?_toArray, List.getElem?_cons_succ, List.getElem?_cons_zero]; rfl)
    case hs11br => kernel_rfl
    case hf11br => kernel_rfl
    case hr11br => kernel_rfl
    case hQ11br => exact fun _ _ _ h => h
    case hy11br =>
      refine Or.inl ⟨rfl, ?_⟩
      intro W hSw
      obtain ⟨y0, y1⟩ := hSw
      go_simp
      try with_reducible rfl
    case hS11br => assumption
    try simp only [Act.put, List.setIfInBounds_toArray, List.set_cons_zero, List.set_cons_succ]
    refine wpAnyH_ready (rs := [12]) (by kernel_rfl) (by simp) ?_
    refine AllReadyH.cons (o := _) rfl (fun K hK => ?_) AllReadyH.nil
    go_simp
    refine hK.out _ _ (HSK.out _ (Below.heap_setCell _ _ _ _ (by show g ≠ b.1; exact hgb))) (fun hHeld => ?_)
    clear hK K
    try simp only [Act.put, List.setIfInBounds_toArray, List.set_cons_zero, List.set_cons_succ]
    refine wpAnyH_take (i := 13) (oi := ?oi13br) (v := ?v13br) ?hi13br ?hs13br ?hf13br ?hr13br ?hQ13br ?hy13br ?hS13br ?h13br
    case hi13br => exact (by simp only [List.getElem?_toArray, List.getElem?_cons_succ, List.getElem?_cons_zero]; rfl)
    case hs13br => kernel_rfl
    case hf13br => kernel_rfl
    case hr13br => kernel_rfl
    case hQ13br => exact fun _ _ _ h => h
    case hy13br =>
      refine Or.inl ⟨rfl, ?_⟩
      intro W hSw
      obtain ⟨y0, y1⟩ := hSw
      go_simp
      try with_reducible rfl
    case hS13br => assumption
    try simp only [Act.put, List.setIfInBounds_toArray, List.set_cons_zero, List.set_cons_succ]
    refine wpAnyH_take (i := 14) (oi := ?oi14br) (v := ?v14br) ?hi14br ?hs14br ?hf14br ?hr14br ?hQ14br ?hy14br ?hS14br ?h14br
    case hi14br => exact (by simp only [List.getElem?_toArray, List.getElem?_cons_succ, List.getElem?_cons_zero]; rfl)
    case hs14br => kernel_rfl
    case hf14br => kernel_rfl
    case hr14br => kernel_rfl
    case hQ14br => exact fun _ _ _ h => h
    case hy14br =>
      refine Or.inl ⟨rfl, ?_⟩
      intro W hSw
      obtain ⟨y0, y1⟩ := hSw
      go_simp
      try with_reducible rfl
    case hS14br => assumption
    try simp only [Act.put, List.setIfInBounds_toArray, List.set_cons_zero, List.set_cons_succ]
    refine wpAnyH_ready (rs := [15]) (by kernel_rfl) (by simp) ?_
    refine AllReadyH.cons (o := _) rfl (fun K hK => ?_) AllReadyH.nil
    go_simp
    refine hK.out _ _ (HSK.out _ ((Below.heap_setCell _ _ _ _ (by show g ≠ a.1; exact hga)).trans (Below.heap_setCell _ _ _ _ (by show g ≠ b.1; exact hgb)))) (fun hHeld => ?_)
    clear hK K
    try simp only [Act.put, List.setIfInBounds_toArray, List.set_cons_zero, List.set_cons_succ]
    refine wpAnyH_done (by kernel_rfl) ?_ _
    clear fa fb xa xb
    go_wp2
    go_end0
    refine ⟨rfl, ?_⟩
    rw [H3.out, H2.out, H1.out, H0.out]
    rfl

end Go.Proofs.Ytaoejkbockcneaa
