/- Rack: lay, at things. -/
import Derived.Test.YtemjmnpclknfaaaGreatP6
namespace Go.Proofs.YtemjmnpclknfaaaGreat.P
open Go.RowKit
set_option maxRecDepth 20000

theorem own_form1 {w : World} {base T m S : Nat} {v : Value} {xs : List Value} (h : w.ownsRow base T S v m xs) : ∃ A c, v = .slice A m c := by
  rcases h.2 with ⟨rfl, rfl⟩ | ⟨g, cap, cur, rfl, _⟩
  · exact ⟨none, 0, rfl⟩
  · exact ⟨_, cap, rfl⟩
end Go.Proofs.YtemjmnpclknfaaaGreat.P
