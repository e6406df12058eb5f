/- Ready: a room in memory; what it is asked. -/
import Derived.Test.YtemjmnpclknfaaaGreatR1
import Derived.Test.YtemjmnpclknfaaaGreatQ2
namespace Go.Proofs.YtemjmnpclknfaaaGreat.P
open Go.RowKit
set_option maxRecDepth 20000
set_option linter.unusedVariables false
set_option linter.unusedSimpArgs false

def Ctx (w : World) (R : Nat) (vi : Value) : Prop := R < w.heap.size ∧ ∀ g, vi.ownBlock = some g → g < w.heap.size
theorem Ctx.size {w w' : World} {R : Nat} {vi : Value} (h : Ctx w R vi) (hs : w.heap.size ≤ w'.heap.size) : Ctx w' R vi := ⟨Nat.lt_of_lt_of_le h.1 hs, fun g hg => Nat.lt_of_lt_of_le (h.2 g hg) hs⟩
def Fl (w : World) (R : Nat) (vi : Value) (s : Sl) (l : List Nat) : Prop :=
  s.n = l.length ∧ (0 < l.length → ∃ b o, s.a = some ⟨b, o, none⟩ ∧ R < b ∧ vi.ownBlock ≠ some b ∧ (∃ cur, w.heap[b]? = some (.cells cur 33 (0, 0))) ∧ At32 w b o l)
theorem Fl.rn {w : World} {R : Nat} {vi : Value} {s : Sl} {l : List Nat} (h : Fl w R vi s l) : Rn w s.a l := fun hl => by
  obtain ⟨b, o, e1, _, _, ⟨cur, e4⟩, e5⟩ := h.2 hl
  exact ⟨b, o, e1, lt_of_block e4, e5⟩
theorem Fl.fresh {w w' : World} {R B n c : Nat} {vi : Value} {A : Option Addr} {l : List Nat} (hc : Ctx w R vi) (hB : w.heap.size ≤ B) (h : w'.ownsRow B 33 1 (.slice A n c) n (un l)) : Fl w' R vi ⟨A, n, c⟩ l := by
  obtain ⟨hn, hr⟩ := Rn.of_own h
  refine ⟨hn, fun hl => ?_⟩
  obtain ⟨b, o, e1, e2, e3⟩ := hr hl
  rcases h.2 with ⟨e, h0⟩ | ⟨g, cap, cur, e, hg, hh, _⟩
  · omega
  · injection e with e _ _
    rw [e1] at e
    injection e with e
    injection e with eb eo _
    subst eb
    have h1 := hc.1
    exact ⟨b, o, e1, by omega, fun hv => by have := hc.2 b hv; omega, ⟨cur, hh⟩, e3⟩
structure Stp (R : Nat) (vi vi' : Value) (w w' : World) : Prop where
  below : Below R w w'
  size : w.heap.size ≤ w'.heap.size
  fz : Fz vi vi' w
  keep : ∀ g cur T, w.heap[g]? = some (.cells cur T (0, 0)) → T ≠ 86 → T ≠ 136 → (T = 33 → vi.ownBlock ≠ some g) → w'.heap[g]? = w.heap[g]?
theorem Stp.of_below {R : Nat} {vi : Value} {w w' : World} (hR : R ≤ w.heap.size) (h : Below w.heap.size w w') : Stp R vi vi w w' := ⟨h.mono hR, h.size, fun g hg => .inl hg, fun g cur T hg _ _ _ => h.block g (lt_of_block hg)⟩
theorem Stp.trans {R : Nat} {vi vi1 vi2 : Value} {w w1 w2 : World} (h : Stp R vi vi1 w w1) (h' : Stp R vi1 vi2 w1 w2) : Stp R vi vi2 w w2 :=
  ⟨h.below.trans h'.below, Nat.le_trans h.size h'.size, fun g hg => by
    rcases h'.fz g hg with e | e
    · exact h.fz g e
    · exact .inr (Nat.le_trans h.size e), fun g cur T hg h1 h2 h3 => by
    have k1 := h.keep g cur T hg h1 h2 h3
    exact (h'.keep g cur T (k1.trans hg) h1 h2 (fun e hv => (h.fz g hv).elim (h3 e) (fun hs => by have := lt_of_block hg; omega))).trans k1⟩
theorem Fl.stp {w w' : World} {R : Nat} {vi vi' : Value} {s : Sl} {l : List Nat} (h : Fl w R vi s l) (hs : Stp R vi vi' w w') : Fl w' R vi' s l := ⟨h.1, fun hl => by
  obtain ⟨b, o, e1, e2, e3, ⟨cur, e4⟩, e5⟩ := h.2 hl
  have k := hs.keep b cur 33 e4 (by decide) (by decide) (fun _ => e3)
  exact ⟨b, o, e1, e2, fun hv => (hs.fz b hv).elim e3 (fun h => by have := lt_of_block e4; omega), ⟨cur, k.trans e4⟩, fun j x hj => (World.cell?_of_block k).trans (e5 j x hj)⟩⟩
theorem Fl.after {w w' : World} {R : Nat} {vi : Value} {s : Sl} {l : List Nat} (h : Fl w R vi s l) (hb : Below w.heap.size w w') : Fl w' R vi s l := ⟨h.1, fun hl => by
  obtain ⟨b, o, e1, e2, e3, ⟨cur, e4⟩, e5⟩ := h.2 hl
  have k := hb.block b (lt_of_block e4)
  exact ⟨b, o, e1, e2, e3, ⟨cur, k.trans e4⟩, fun j x hj => (World.cell?_of_block k).trans (e5 j x hj)⟩⟩
end Go.Proofs.YtemjmnpclknfaaaGreat.P
