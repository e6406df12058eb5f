/- Fields that are alike are told to be alike: a contract for Same. -/
import Derived.Test.YtaefgieodehceaaDoorB9
import Derived.Deep.QuietTactic
import Derived.BigQuiet
namespace Go.Proofs.YtaefgieodehceaaDoor
set_option maxRecDepth 4000
open Go.RowKit

theorem below_drewN' {B : Nat} {a w : World} (h : Below B a w) (n : Nat) : Below B a (w.drewN n) := ⟨h.os, h.tape, h.output, h.size, h.block⟩

/-- Both fields in their boxes, alike. -/
structure Two (w : World) (F : Nat) (aN aS aL bN bS bL : Option Addr) (cN cS cL dN dS dL : Nat) (vs us : List Value) (N : List Nat) (S : List ByteArray) (L : List (List Nat)) : Prop where
  pA : w.heap[F]? = some (.cells #[.slice aN N.length cN, .slice aS S.length cS, .slice aL L.length cL] 29 (0, 0))
  pB : w.heap[F + 1]? = some (.cells #[.slice bN N.length dN, .slice bS S.length dS, .slice bL L.length dL] 29 (0, 0))
  fA : Flds w aN aS aL cN cS cL vs N S L
  fB : Flds w bN bS bL dN dS dL us N S L

theorem Two.drewN {w : World} {F : Nat} {aN aS aL bN bS bL : Option Addr} {cN cS cL dN dS dL : Nat} {vs us : List Value} {N : List Nat} {S : List ByteArray} {L : List (List Nat)}
    (h : Two w F aN aS aL bN bS bL cN cS cL dN dS dL vs us N S L) (n : Nat) : Two (w.drewN n) F aN aS aL bN bS bL cN cS cL dN dS dL vs us N S L :=
  ⟨h.pA, h.pB, h.fA.below (below_drewN' (Below.refl _ _) n), h.fB.below (below_drewN' (Below.refl _ _) n)⟩

theorem Two.cells {w : World} {F : Nat} {aN aS aL bN bS bL : Option Addr} {cN cS cL dN dS dL : Nat} {vs us : List Value} {N : List Nat} {S : List ByteArray} {L : List (List Nat)}
    (h : Two w F aN aS aL bN bS bL cN cS cL dN dS dL vs us N S L) :
    w.cell? ⟨F, 0, none⟩ = some (.slice aN N.length cN) ∧ w.cell? ⟨F, 1, none⟩ = some (.slice aS S.length cS) ∧ w.cell? ⟨F, 2, none⟩ = some (.slice aL L.length cL) ∧
    w.cell? ⟨F + 1, 0, none⟩ = some (.slice bN N.length dN) ∧ w.cell? ⟨F + 1, 1, none⟩ = some (.slice bS S.length dS) ∧ w.cell? ⟨F + 1, 2, none⟩ = some (.slice bL L.length dL) :=
  ⟨cell_of_row w F 0 _ _ _ h.pA, cell_of_row w F 1 _ _ _ h.pA, cell_of_row w F 2 _ _ _ h.pA, cell_of_row w (F + 1) 0 _ _ _ h.pB, cell_of_row w (F + 1) 1 _ _ _ h.pB, cell_of_row w (F + 1) 2 _ _ _ h.pB⟩

end Go.Proofs.YtaefgieodehceaaDoor
