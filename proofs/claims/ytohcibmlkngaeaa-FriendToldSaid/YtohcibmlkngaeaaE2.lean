/- Friend: an act on both. -/
import Derived.Test.YtohcibmlkngaeaaE1
namespace Go.Proofs.Ytohcibmlkngaeaa
open Go.RowKit Go.Maps
set_option maxRecDepth 20000
set_option linter.unusedVariables false
set_option linter.unusedSimpArgs false

def actP (d : Int) (l : List Rw) (a b : Nat) : List Rw :=
  if d = 0 then (askL l a b).1 else if d = 1 then (accL l a b).1 else if d = 2 then (refL l a b).1 else if d = 3 then (remL l a b).1 else if d = 4 then (bloL l a b).1 else if d = 5 then (unbL l a b).1 else l
theorem Inv.act {l : List Rw} (h : Inv l) (d : Int) (a b : Nat) : Inv (actP d l a b) := by
  unfold actP
  split
  · exact h.ask a b
  split
  · exact h.accept a b
  split
  · exact h.refuse a b
  split
  · exact h.remove a b
  split
  · exact h.block a b
  split
  · exact h.unblock a b
  exact h
theorem len_act (d : Int) (l : List Rw) (a b : Nat) : (actP d l a b).length ≤ l.length + 1 := by
  have h1 := wo_le l a b
  have h2 : (unb l a b).length ≤ l.length := List.length_filter_le _ _
  unfold actP
  split
  · unfold askL; repeat' split
    all_goals simp <;> omega
  split
  · unfold accL; split <;> simp <;> omega
  split
  · unfold refL; split <;> simp <;> omega
  split
  · unfold remL; split <;> simp <;> omega
  split
  · unfold bloL; repeat' split
    all_goals simp <;> omega
  split
  · unfold unbL; split <;> simp <;> omega
  omega
/-- What an act on both answers: as the one says, so says the other, where both stood for the same. -/
def DoP (L M N : Nat) (l l2 l' l2' : List Rw) (w : World) (r : Ending) (w' : World) : Prop :=
  ∃ B m c' bo, r = .returned (.tuple #[.slice B m c', .bool bo]) ∧ (l2 = l → bo = true) ∧ m = l2'.length ∧ Rr w' B l2' ∧ Gr w' L M (N + 1) l' ∧ ChM M w w'
theorem Gr.isMap {w : World} {L M N : Nat} {l : List Rw} (h : Gr w L M N l) : ∃ (es : Array MapEntry) (cl : Nat), w.heap[M]? = some (Obj.map es cl) := by
  obtain ⟨D, ⟨_, es, cl, hm, _⟩, _⟩ := h
  exact ⟨es, cl, hm⟩
end Go.Proofs.Ytohcibmlkngaeaa
