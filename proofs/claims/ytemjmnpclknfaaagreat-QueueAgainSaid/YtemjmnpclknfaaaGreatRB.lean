/- Ready: the document's put, Close. -/
import Derived.Test.YtemjmnpclknfaaaGreatQ8
import Derived.Test.YtemjmnpclknfaaaGreatQ3
import Derived.Deep.CutBlock
namespace Go.Proofs.YtemjmnpclknfaaaGreat.P
open Go.RowKit
set_option maxRecDepth 20000
set_option linter.unusedVariables false
set_option linter.unusedSimpArgs false

theorem own_blk {w w' : World} {base T s m : Nat} {v : Value} {xs : List Value} (h : w.ownsRow base T s v m xs) (hb : Below w.heap.size w w') : w'.ownsRow base T s v m xs := ⟨h.1, h.2.imp id fun ⟨g, cap, cur, e, h1, h2, h3⟩ => ⟨g, cap, cur, e, h1, (hb.block g (lt_of_block h2)).trans h2, h3⟩⟩
theorem Fl.grown {w w' : World} {R : Nat} {vi : Value} {s : Sl} {l : List Nat} {row : Option Nat} (h : Fl w R vi s l) (hg : w.grownBy w' row) (hr : ∀ g, row = some g → ∀ cur, w.heap[g]? ≠ some (.cells cur 33 (0, 0))) : Fl w' R vi s l := ⟨h.1, fun hl => by
  obtain ⟨b, o, e1, e2, e3, ⟨cur, e4⟩, e5⟩ := h.2 hl
  have k := hg.block b (lt_of_block e4) (fun e => hr b e.symm cur e4)
  exact ⟨b, o, e1, e2, e3, ⟨cur, k.trans e4⟩, fun j x hj => (World.cell?_of_block k).trans (e5 j x hj)⟩⟩
end Go.Proofs.YtemjmnpclknfaaaGreat.P
