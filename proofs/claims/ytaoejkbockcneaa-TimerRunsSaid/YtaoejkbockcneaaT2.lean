/- Timer: Swap and Len of a line. -/
import Derived.Test.YtaoejkbockcneaaT1
namespace Go.Proofs.Ytaoejkbockcneaa
open Go.RowKit
set_option maxRecDepth 20000

theorem swap_row (cur : Array Value) (hp : List It) (i j n : Nat) (a b : It) (ht : cur.toList.take n = hp.map ptr) :
    (((cur.setIfInBounds i (ptr b)).setIfInBounds j (ptr a)).toList.take n) = ((hp.set i b).set j a).map ptr := by
  rw [Array.toList_setIfInBounds, Array.toList_setIfInBounds, List.take_set, List.take_set, ht, List.map_set, List.map_set]
theorem swap_get (hp : List It) (i j : Nat) (a b : It) (hi : hp[i]? = some a) (hj : hp[j]? = some b) (hij : i ≠ j) (k : Nat) :
    ((hp.set i b).set j a)[k]? = if k = j then some a else if k = i then some b else hp[k]? := by
  have hil := (List.getElem?_eq_some_iff.1 hi).1
  have hjl := (List.getElem?_eq_some_iff.1 hj).1
  by_cases h1 : k = j
  · subst h1
    rw [if_pos rfl, List.getElem?_set_self (by rw [List.length_set]; exact hjl)]
  · rw [if_neg h1, List.getElem?_set_ne (by omega)]
    by_cases h2 : k = i
    · subst h2
      rw [if_pos rfl, List.getElem?_set_self hil]
    · rw [if_neg h2, List.getElem?_set_ne (by omega)]
theorem swap_world {B0 : Nat} {w w' : World} {g i j : Nat} {a b : It} {cur : Array Value} {pa pb : Nat}
    (hw : w' = ((((w.drew.setCell ⟨g, i, none⟩ (.pointer (some ⟨b.1, 0, none⟩))).setCell ⟨g, j, none⟩ (.pointer (some ⟨a.1, 0, none⟩))).drew.setCell ⟨b.1, 4, none⟩ (.int .i64 (i : Int))).setCell ⟨a.1, 4, none⟩ (.int .i64 (j : Int))))
    (hr : w.heap[g]? = some (.cells cur 104 (0, 0))) (ha : w.heap[a.1]? = some (.cells (ic a pa) 106 (0, 0))) (hb : w.heap[b.1]? = some (.cells (ic b pb) 106 (0, 0))) (hga : g ≠ a.1) (hgb : g ≠ b.1) (hab : a.1 ≠ b.1) (hbg : B0 ≤ g) (loa : B0 ≤ a.1) (lob : B0 ≤ b.1) :
    w'.heap[g]? = some (.cells ((cur.setIfInBounds i (ptr b)).setIfInBounds j (ptr a)) 104 (0, 0)) ∧ w'.heap[a.1]? = some (.cells ((ic a pa).setIfInBounds 4 (.int .i64 (j : Int))) 106 (0, 0)) ∧ w'.heap[b.1]? = some (.cells ((ic b pb).setIfInBounds 4 (.int .i64 (i : Int))) 106 (0, 0)) ∧
      (∀ k : Nat, k ≠ g → k ≠ a.1 → k ≠ b.1 → w'.heap[k]? = w.heap[k]?) ∧ Ch 0 B0 w w' := by
  obtain ⟨W0, h0⟩ : ∃ W0, W0 = w.drew := ⟨_, rfl⟩
  obtain ⟨w1, h1⟩ : ∃ w1, w1 = W0.setCell ⟨g, i, none⟩ (.pointer (some ⟨b.1, 0, none⟩)) := ⟨_, rfl⟩
  obtain ⟨w2, h2⟩ : ∃ w2, w2 = w1.setCell ⟨g, j, none⟩ (.pointer (some ⟨a.1, 0, none⟩)) := ⟨_, rfl⟩
  obtain ⟨W3, h3⟩ : ∃ W3, W3 = w2.drew := ⟨_, rfl⟩
  obtain ⟨w4, h4⟩ : ∃ w4, w4 = W3.setCell ⟨b.1, 4, none⟩ (.int .i64 (i : Int)) := ⟨_, rfl⟩
  rw [← h0, ← h1, ← h2, ← h3, ← h4] at hw
  have e0 : ∀ k : Nat, W0.heap[k]? = w.heap[k]? := fun k => by rw [h0]; rfl
  have e1 : ∀ k : Nat, k ≠ g → w1.heap[k]? = W0.heap[k]? := fun k hk => by rw [h1]; exact Below.heap_setCell _ _ _ _ hk
  have e2 : ∀ k : Nat, k ≠ g → w2.heap[k]? = w1.heap[k]? := fun k hk => by rw [h2]; exact Below.heap_setCell _ _ _ _ hk
  have e3 : ∀ k : Nat, W3.heap[k]? = w2.heap[k]? := fun k => by rw [h3]; rfl
  have e4 : ∀ k : Nat, k ≠ b.1 → w4.heap[k]? = W3.heap[k]? := fun k hk => by rw [h4]; exact Below.heap_setCell _ _ _ _ hk
  have e5 : ∀ k : Nat, k ≠ a.1 → w'.heap[k]? = w4.heap[k]? := fun k hk => by rw [hw]; exact Below.heap_setCell _ _ _ _ hk
  have g0 := (e0 g).trans hr
  have g1 : w1.heap[g]? = some (.cells (cur.setIfInBounds i (ptr b)) 104 (0, 0)) := by rw [h1]; exact heap_setCell_same W0 g i cur 104 _ g0
  have g2 : w2.heap[g]? = some (.cells ((cur.setIfInBounds i (ptr b)).setIfInBounds j (ptr a)) 104 (0, 0)) := by rw [h2]; exact heap_setCell_same w1 g j _ 104 _ g1
  have g5 := (e5 g hga).trans ((e4 g hgb).trans ((e3 g).trans g2))
  have b3 := (e3 b.1).trans ((e2 b.1 hgb.symm).trans ((e1 b.1 hgb.symm).trans ((e0 b.1).trans hb)))
  have b4 : w4.heap[b.1]? = some (.cells ((ic b pb).setIfInBounds 4 (.int .i64 (i : Int))) 106 (0, 0)) := by rw [h4]; exact heap_setCell_same W3 b.1 4 _ 106 _ b3
  have a4 := (e4 a.1 hab).trans ((e3 a.1).trans ((e2 a.1 hga.symm).trans ((e1 a.1 hga.symm).trans ((e0 a.1).trans ha))))
  have a5 : w'.heap[a.1]? = some (.cells ((ic a pa).setIfInBounds 4 (.int .i64 (j : Int))) 106 (0, 0)) := by rw [hw]; exact heap_setCell_same w4 a.1 4 _ 106 _ a4
  have c0 : Ch 0 B0 w W0 := by rw [h0]; exact (Ch.refl 0 B0 w).drew
  have c1 : Ch 0 B0 W0 w1 := by rw [h1]; exact Ch.setCell g0 (.inr (.inl rfl)) hbg _ _
  have c2 : Ch 0 B0 w1 w2 := by rw [h2]; exact Ch.setCell g1 (.inr (.inl rfl)) hbg _ _
  have c3 : Ch 0 B0 w2 W3 := by rw [h3]; exact (Ch.refl 0 B0 w2).drew
  have c4 : Ch 0 B0 W3 w4 := by rw [h4]; exact Ch.setCell b3 (.inr (.inr rfl)) lob _ _
  have c5 : Ch 0 B0 w4 w' := by rw [hw]; exact Ch.setCell a4 (.inr (.inr rfl)) loa _ _
  exact ⟨g5, a5, (e5 b.1 hab.symm).trans b4, fun k k1 k2 k3 => (e5 k k2).trans ((e4 k k3).trans ((e3 k).trans ((e2 k k1).trans ((e1 k k1).trans (e0 k))))), c0.trans (c1.trans (c2.trans (c3.trans (c4.trans c5))))⟩
set_option maxHeartbeats 2000000 in
theorem swap_any {B0 : Nat} (v : Value) (hp : List It) (i j : Nat) (a b : It) (w : World) (h : InL w B0 v hp) (hi : hp[i]? = some a) (hj : hp[j]? = some b) (hij : i ≠ j) (hn : hp.length ≤ 1000) :
    Calls Try.prog 120 #[v, .int .i64 (i : Int), .int .i64 (j : Int)] w fun r w' => r = .returned (.tuple #[]) ∧ InL w' B0 v ((hp.set i b).set j a) ∧ Ch 0 B0 w w' := by
  have hil := (List.getElem?_eq_some_iff.1 hi).1
  have hjl := (List.getElem?_eq_some_iff.1 hj).1
  have hab : a.1 ≠ b.1 := fun e => hij (h.nd i j a b hi hj e)
  have ha := h.its i a hi
  have hb := h.its j b hj
  obtain ⟨g', c', e, ri, _, _⟩ := h.at hi
  obtain ⟨g'', c'', e', rj, _, _⟩ := h.at hj
  rcases h.own.2 with ⟨_, h0⟩ | ⟨g, cap, cur, rfl, hbg, hr, hnc, hcm, hcs, ht⟩
  · omega
  injection e with e1 _ _
  injection e1 with e1
  injection e1 with e1
  subst e1
  injection e' with e1 _ _
  injection e1 with e1
  injection e1 with e1
  subst e1
  rw [Nat.mul_one] at hcs ht
  have hga : g ≠ a.1 := type_ne hr ha (by decide)
  have hgb : g ≠ b.1 := type_ne hr hb (by decide)
  refine (swap_cells g 0 hp.length cap i j a b cur (ic a i) (ic b j) w hil hjl hij hab hga hgb hn hr (by omega) ha hb rfl rfl ri rj).mono ?_
  rintro r w' ⟨rfl, hw'⟩
  rw [Nat.zero_add, Nat.zero_add] at hw'
  have loa := h.lo a (List.mem_of_getElem? hi)
  have lob := h.lo b (List.mem_of_getElem? hj)
  obtain ⟨hg4, ha4, hb4, keep, hch⟩ := swap_world (cur := cur) (a := a) (b := b) hw' hr ha hb hga hgb hab hbg loa lob
  refine ⟨rfl, ?_, hch⟩
  · have ha4 : w'.heap[a.1]? = some (.cells (ic a j) 106 (0, 0)) := ha4
    have hb4 : w'.heap[b.1]? = some (.cells (ic b i) 106 (0, 0)) := hb4
    have hlen : ((hp.set i b).set j a).length = hp.length := by simp
    refine ⟨?_, fun k e hk => ?_, fun k l x y hk hl hxy => ?_, fun e he => ?_⟩
    · rw [hlen]
      refine ⟨by simp, .inr ⟨g, cap, _, rfl, hbg, hg4, hnc, hcm, by simp; omega, ?_⟩⟩
      rw [Nat.mul_one]
      exact swap_row cur hp i j hp.length a b ht
    · rw [swap_get hp i j a b hi hj hij] at hk
      by_cases h1 : k = j
      · rw [if_pos h1] at hk
        injection hk with hk
        subst hk h1
        exact ha4
      · rw [if_neg h1] at hk
        by_cases h2 : k = i
        · rw [if_pos h2] at hk
          injection hk with hk
          subst hk h2
          exact hb4
        · rw [if_neg h2] at hk
          have he := h.its k e hk
          exact (keep e.1 (type_ne he hr (by decide)) (fun e1 => h2 (h.nd k i e a hk hi e1)) (fun e1 => h1 (h.nd k j e b hk hj e1))).trans he
    · rw [swap_get hp i j a b hi hj hij] at hk hl
      split at hk <;> rename_i c1
      · injection hk with hk
        subst hk
        split at hl <;> rename_i c2
        · omega
        · split at hl <;> rename_i c3
          · injection hl with hl
            subst hl
            exact absurd hxy hab
          · have := h.nd i l _ _ hi hl hxy
            omega
      · split at hk <;> rename_i c2
        · injection hk with hk
          subst hk
          split at hl <;> rename_i c3
          · injection hl with hl
            subst hl
            exact absurd hxy.symm hab
          · split at hl <;> rename_i c4
            · omega
            · have := h.nd j l _ _ hj hl hxy
              omega
        · split at hl <;> rename_i c3
          · injection hl with hl
            subst hl
            have := h.nd k i _ _ hk hi hxy
            omega
          · split at hl <;> rename_i c4
            · injection hl with hl
              subst hl
              have := h.nd k j _ _ hk hj hxy
              omega
            · exact h.nd k l x y hk hl hxy
    · obtain ⟨k, hk⟩ := List.getElem?_of_mem he
      rw [swap_get hp i j a b hi hj hij] at hk
      split at hk
      · injection hk with hk
        rw [← hk]
        exact h.lo a (List.mem_of_getElem? hi)
      · split at hk
        · injection hk with hk
          rw [← hk]
          exact h.lo b (List.mem_of_getElem? hj)
        · exact h.lo e (List.mem_of_getElem? hk)

set_option maxHeartbeats 1000000 in
theorem llen_any {B0 : Nat} (v : Value) (hp : List It) (w : World) (h : InL w B0 v hp) : Calls Try.prog 118 #[v] w fun r w' => r = .returned (.int .i64 (hp.length : Int)) ∧ w' = w := by
  obtain ⟨A, c, rfl⟩ := own_form h.own
  obtain ⟨n, hn⟩ : ∃ n, n = hp.length := ⟨_, rfl⟩
  rw [← hn]
  clear h hn
  go_enter Try.func118, Try.ntmps118
  go_wp2
  go_ret
  exact ⟨rfl, rfl⟩
end Go.Proofs.Ytaoejkbockcneaa
