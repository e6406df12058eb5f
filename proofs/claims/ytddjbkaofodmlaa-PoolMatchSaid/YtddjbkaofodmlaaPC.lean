/- Pool: PoolMatch's walk. -/
import Derived.Test.YtddjbkaofodmlaaPA
namespace Go.Proofs.Ytddjbkaofodmlaa
open Go.RowKit Go.ChangeShapes
open Go.Joins
set_option maxRecDepth 20000
set_option linter.unusedVariables false
set_option linter.unusedSimpArgs false

abbrev hs3 (s : Int) : Prop := s = 2 ∨ s = 3 ∨ s = 4
theorem step_facts (d : Int) (y : Nat) (now : Int) (e : In) :
    ((stepQ d y now e).2.1 ≠ 0 → (stepQ d y now e).2.2 = e) ∧ ((stepQ d y now e).2.1 = 0 → d = 2 → (stepQ d y now e).2.2.1 = 2 ∧ (stepQ d y now e).2.2.2.1 = (y : Int)) ∧
    ((stepQ d y now e).2.1 = 0 → d ≠ 2 → hs3 (stepQ d y now e).2.2.1 → (stepQ d y now e).2.2.2.1 = e.2.1 ∧ hs3 e.1) ∧ ((stepQ d y now e).2.2.1 = 4 → e.1 = 3 ∨ e.1 = 4) := by
  obtain ⟨s, m, a⟩ := e
  unfold stepQ hs3
  repeat' split
  all_goals simp at *
  all_goals first | omega | (refine ⟨?_, ?_⟩ <;> intros <;> omega) | (refine ⟨?_, ?_, ?_⟩ <;> intros <;> omega) | skip
/-- What is held is known; how things stand in the loop. -/
def MSt (w0 : World) (P I G : Nat) (wr : World) : Prop :=
  ∃ (l : List In) (H : List Nat), Po wr w0.heap.size P I 5 l ∧ l.length = 3 ∧ (∀ e ∈ l, Iv e) ∧ wr.heap[G]? = some (.cells (un H).toArray 40 (0, 0)) ∧ H.length = 4 ∧ (∀ (k : Nat) e, l[k]? = some e → hs3 e.1 → ∃ h : Nat, H[k + 1]? = some h ∧ (h : Int) = e.2.1) ∧ G ≠ I ∧ w0.heap.size ≤ G ∧ Below w0.heap.size w0 wr
theorem un_get {H : List Nat} {i h : Nat} (hh : H[i]? = some h) : (un H).toArray[i]? = some (.int .u32 (h : Int)) := by simp [un, hh]
theorem mst_same {w0 W : World} {P I G : Nat} {l : List In} {H : List Nat} {j : Nat} {e : In} {d : Int} {y : Nat} {now : Int} (hP : Po W w0.heap.size P I 5 (l.set j (stepQ d y now e).2.2)) (hl : l.length = 3) (hI : ∀ e ∈ l, Iv e) (hG : W.heap[G]? = some (.cells (un H).toArray 40 (0, 0))) (hH : H.length = 4) (hK : ∀ (k : Nat) e, l[k]? = some e → hs3 e.1 → ∃ h : Nat, H[k + 1]? = some h ∧ (h : Int) = e.2.1) (hne : G ≠ I) (hge : w0.heap.size ≤ G) (hB : Below w0.heap.size w0 W) (hj : l[j]? = some e) (hn : inI now) (h2 : ¬ (d = 2 ∧ (stepQ d y now e).2.1 = 0)) (n : Nat) : MSt w0 P I G (W.drewN n) := by
  refine ⟨_, H, hP, by simp [hl], fun e' he' => ?_, hG, hH, fun k e' hk hs => ?_, hne, hge, belowN hB⟩
  · rcases List.mem_or_eq_of_mem_set he' with he' | rfl
    · exact hI e' he'
    · exact iv_step (hI e (List.mem_of_getElem? hj)) hn
  · by_cases hkj : k = j
    · subst hkj
      rw [set_at hj] at hk
      injection hk with hk
      subst hk
      obtain ⟨f1, f2, f3, f4⟩ := step_facts d y now e
      by_cases h0 : (stepQ d y now e).2.1 = 0
      · obtain ⟨g1, g2⟩ := f3 h0 (fun h => h2 ⟨h, h0⟩) hs
        obtain ⟨h, e1, e2⟩ := hK k e hj g2
        exact ⟨h, e1, by rw [e2, g1]⟩
      · rw [f1 h0] at hs ⊢
        exact hK k e hj hs
    · rw [List.getElem?_set_ne (fun h => hkj h.symm)] at hk
      exact hK k e' hk hs
theorem mst_put {w0 W : World} {P I G : Nat} {l : List In} {H : List Nat} {j : Nat} {e : In} {d : Int} {y : Nat} {now : Int} (hP : Po W w0.heap.size P I 5 (l.set j (stepQ d y now e).2.2)) (hl : l.length = 3) (hI : ∀ e ∈ l, Iv e) (hG : W.heap[G]? = some (.cells (un H).toArray 40 (0, 0))) (hH : H.length = 4) (hK : ∀ (k : Nat) e, l[k]? = some e → hs3 e.1 → ∃ h : Nat, H[k + 1]? = some h ∧ (h : Int) = e.2.1) (hne : G ≠ I) (hge : w0.heap.size ≤ G) (hB : Below w0.heap.size w0 W) (hj : l[j]? = some e) (hn : inI now) (h2 : d = 2) (h0 : (stepQ d y now e).2.1 = 0) (n : Nat) : MSt w0 P I G ((W.setCell ⟨G, j + 1, none⟩ (.int .u32 (y : Int))).drewN n) := by
  have hjl : j < l.length := (List.getElem?_eq_some_iff.1 hj).1
  refine ⟨l.set j (stepQ d y now e).2.2, H.set (j + 1) y, ?_, by simp [hl], fun e' he' => ?_, ?_, by simp [hH], fun k e' hk hs => ?_, hne, hge, belowN (hB.setCell hge _)⟩
  · exact ⟨hP.1, hP.2.1, hP.2.2.1, (Below.heap_setCell _ _ _ _ (fun e => by
      have h1 := hP.2.2.2.1
      have e2 : P = G := e
      rw [e2, hG] at h1
      injection h1 with h1
      injection h1 with _ h1 _
      exact absurd h1 (by decide))).trans hP.2.2.2.1, (Below.heap_setCell _ _ _ _ (fun e => hne e.symm)).trans hP.2.2.2.2⟩
  · rcases List.mem_or_eq_of_mem_set he' with he' | rfl
    · exact hI e' he'
    · exact iv_step (hI e (List.mem_of_getElem? hj)) hn
  · show ((W.setCell ⟨G, j + 1, none⟩ (.int .u32 (y : Int)))).heap[G]? = _
    rw [heap_setCell_same W G (j + 1) _ 40 _ hG, List.setIfInBounds_toArray]
    simp [un, List.map_set]
  · by_cases hkj : k = j
    · subst hkj
      rw [set_at hj] at hk
      injection hk with hk
      subst hk
      obtain ⟨f1, f2, f3, f4⟩ := step_facts d y now e
      exact ⟨y, by rw [List.getElem?_set_self (by omega)], (f2 h0 h2).2.symm⟩
    · rw [List.getElem?_set_ne (fun h => hkj h.symm)] at hk
      obtain ⟨h, e1, e2⟩ := hK k e' hk hs
      exact ⟨h, by rw [List.getElem?_set_ne (by omega)]; exact e1, e2⟩
theorem mst_miss {w0 W W' : World} {P I G : Nat} (h : MSt w0 P I G W) (hb : Below W.heap.size W W') : MSt w0 P I G W' := by
  obtain ⟨l, H, h1, h2, h3, h4, h5, h6, h7, h8, h9⟩ := h
  exact ⟨l, H, h1.after hb, h2, h3, (hb.block G (lt_of_block h4)).trans h4, h5, h6, h7, h8, h9.trans (hb.mono h9.size)⟩
end Go.Proofs.Ytddjbkaofodmlaa
