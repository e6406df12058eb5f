/- What Read hands back can be handed to Write; bytes as a text. -/
import Derived.Test.YtaefgieodehceaaDoorB7
namespace Go.Proofs.YtaefgieodehceaaDoor
set_option maxRecDepth 4000
open Go.RowKit

theorem conv_bs {w : World} {B : Nat} {v : Value} {l : List UInt8} (h : Bs w B v l) : (convert 22 9 v).run Tryd.prog w = .ok (.string ⟨l.toArray⟩) w := by
  obtain ⟨A, c, rfl, _, hr⟩ := h
  exact conv_rd hr c

theorem row_rd {w : World} {g : Nat} {u : List Nat} (h : Row32 w g u) : Rd w w.heap.size (some ⟨g, 0, none⟩) (uv .u32 u) := fun _ =>
  ⟨g, 0, rfl, h.lt, fun j x hj => by
    have hl : j < u.length := by
      have := (List.getElem?_eq_some_iff.1 hj).1
      simpa [uv] using this
    rw [Nat.zero_add, h.cell hl]
    simp [uv, List.getElem?_eq_getElem hl] at hj
    simp [List.getD, List.getElem?_eq_getElem hl, hj]⟩

theorem lss_own {w : World} {B : Nat} : ∀ {vs : List Value} {us : List (List Nat)}, Lown w B vs us → Lss w w.heap.size vs us
  | [], [], _ => trivial
  | _ :: _, _ :: _, ⟨⟨_, hv, _, hr, hn⟩, h⟩ => ⟨⟨_, _, hv, row_rd hr, hn⟩, lss_own h⟩

theorem Lss.mono {w : World} {B B' : Nat} (hB : B ≤ B') : ∀ {vs : List Value} {us : List (List Nat)}, Lss w B vs us → Lss w B' vs us
  | [], [], _ => trivial
  | _ :: _, _ :: _, ⟨⟨a, c, hv, hr, hn⟩, h⟩ => ⟨⟨a, c, hv, hr.mono hB, hn⟩, Lss.mono hB h⟩

/-- What Read hands back can be handed to Write. -/
structure Flds (w : World) (aN aS aL : Option Addr) (cN cS cL : Nat) (vs : List Value) (N : List Nat) (S : List ByteArray) (L : List (List Nat)) : Prop where
  rN : Rd w w.heap.size aN (uv .u64 N)
  rS : Rd w w.heap.size aS (sv S)
  rL : Rd w w.heap.size aL vs
  ls : Lss w w.heap.size vs L
  lN : N.length ≤ cN
  lS : S.length ≤ cS
  lL : L.length ≤ cL
  bN : ∀ n ∈ N, n < 18446744073709551616

theorem Flds.below {w w' : World} {aN aS aL : Option Addr} {cN cS cL : Nat} {vs : List Value} {N : List Nat} {S : List ByteArray} {L : List (List Nat)} (h : Flds w aN aS aL cN cS cL vs N S L) (hb : Below w.heap.size w w') : Flds w' aN aS aL cN cS cL vs N S L :=
  ⟨(h.rN.below hb (Nat.le_refl _)).mono hb.size, (h.rS.below hb (Nat.le_refl _)).mono hb.size, (h.rL.below hb (Nat.le_refl _)).mono hb.size, (h.ls.below hb (Nat.le_refl _)).mono hb.size, h.lN, h.lS, h.lL, h.bN⟩

theorem Flds.write {w : World} {aN aS aL : Option Addr} {cN cS cL : Nat} {vs : List Value} {N : List Nat} {S : List ByteArray} {L : List (List Nat)} (h : Flds w aN aS aL cN cS cL vs N S L) (s : ByteArray) :
    Calls Tryd.prog 35 #[.string s, .agg #[.slice aN N.length cN, .slice aS S.length cS, .slice aL L.length cL]] w (WritePost w (writeR s.data.toList N S L)) :=
  write_any s N S L vs aN aS aL cN cS cL w h.rN h.rS h.rL h.ls h.lN h.lS h.lL h.bN

theorem read_flds {w w' : World} {r : Nat × List Nat × List ByteArray × List (List Nat)} {e : Ending} (h : ReadPost w r e w') :
    ∃ aN aS aL cN cS cL vs, e = .returned (.tuple #[.agg #[.slice aN r.2.1.length cN, .slice aS r.2.2.1.length cS, .slice aL r.2.2.2.length cL], .int .i64 (r.1 : Int)]) ∧ Below w.heap.size w w' ∧ Flds w' aN aS aL cN cS cL vs r.2.1 r.2.2.1 r.2.2.2 := by
  obtain ⟨vN, vS, vL, vs, he, hb, oN, oS, oL, ls, bN⟩ := h
  obtain ⟨aN, kN, rfl, rN, lN, _⟩ := own_rd oN
  obtain ⟨aS, kS, rfl, rS, lS, _⟩ := own_rd oS
  obtain ⟨aL, kL, rfl, rL, lL, _⟩ := own_rd oL
  exact ⟨_, _, _, _, _, _, vs, he, hb, rN, rS, rL, lss_own ls, lN, lS, lL, bN⟩

theorem read_none (l b : List UInt8) (h : (readR l b).1 ≠ 0) : (readR l b).2 = ([], [], []) := by
  unfold readR at h ⊢
  split
  · rfl
  · split
    · rfl
    · split
      · rfl
      · rename_i h1 h2 h3
        rw [if_neg h1, if_neg h2, if_neg h3] at h
        exact absurd rfl h

end Go.Proofs.YtaefgieodehceaaDoor
