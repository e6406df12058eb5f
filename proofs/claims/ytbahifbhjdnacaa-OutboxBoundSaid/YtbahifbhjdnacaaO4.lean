/- Outbox: bytes, and rows of bytes, that came in. -/
import Derived.Test.YtbahifbhjdnacaaO1
import Derived.ProofKit
import Derived.OpenShut
import Derived.SliceStrings
import Derived.Deep.Matrix
namespace Go.Proofs.Ytbahifbhjdnacaa
open Go.ChangeShapes Go.WideShapes Go.ChangeAt Go.RowKit Go.Deep

theorem own : ownKnob Try.prog.godebug = Option.none := by kernel_rfl
theorem laidOut : laidOutB Try.prog = true := by kernel_rfl
def toB (zs : List Int) : List UInt8 := zs.map fun z => UInt8.ofNat z.toNat
theorem pb_row {W : World} {A : Option Addr} {len cap : Nat} {zs : List Int} (hlc : len ≤ cap) (hz : zs.length = cap) (h0 : A = none → len = 0) (hc : ∀ a, A = some a → ∀ i, i < cap → W.cell? (a.add i) = some (.int .u8 (zs.getD i 0))) (hw : ∀ n ∈ zs, (Lit.int .u8 n).wf = true) :
    Pb W (.slice A len cap) (toB (zs.take len)) ∧ (toB (zs.take len)).length = len := by
  have hl : (toB (zs.take len)).length = len := by simp [toB]; omega
  refine ⟨⟨A, cap, by rw [hl], by omega, fun hx => ?_⟩, hl⟩
  rw [hl] at hx
  cases A with
  | none => exact absurd (h0 rfl) (by omega)
  | some x =>
    obtain ⟨b, off, rfl, hcell⟩ := ints_at (fun i hi => hc x rfl i (by omega)) (by omega)
    refine ⟨b, off, rfl, World.block_lt_of_cell? W ⟨b, off + 0, none⟩ (hcell 0 (by omega)), fun j u hu => ?_⟩
    simp only [bv, toB, List.map_map, List.map_take, List.getElem?_take] at hu
    split at hu
    · have hj : j < zs.length := by omega
      rw [hcell j hj, ← hu]
      have hwf := hw zs[j] (List.getElem_mem hj)
      simp [List.getElem?_map, List.getElem?_eq_getElem hj]
      have hb := bounds_u8 hwf
      omega
    · cases hu

theorem info5b : Try.prog.cellsOf 5 = 1 := by kernel_rfl
theorem info24b : Try.prog.cellsOf 32 = 1 := by kernel_rfl
section
variable {H : Type} {enc : TypeId × Value → H} {W : World} {m : Nat}
theorem open_pb {c0 : Value} {y0 : DataW H × List MemPlace} (h : DataW.trod enc Try.prog W 0 (fun _ => true) true m 32 [c0] = some y0) :
    ∃ p, Pb W c0 p ∧ p.length ≤ 9223372036854775807 := by
  rcases open_ints Try.underlying32 Try.underlying5 info5b h with ⟨hcs, _⟩ | ⟨a, len, cap, zs, hcs, _, hl, hm, hz, _, hcell, hwz⟩
  · simp at hcs
    subst hcs
    exact ⟨[], ⟨none, 0, rfl, by simp, fun hx => by simp at hx⟩, by simp⟩
  · simp at hcs hz
    subst hcs
    unfold maxLen at hm
    obtain ⟨h1, h2⟩ := pb_row (W := W) (A := some a) hl hz (fun e => by cases e) (fun a' e i hi => by injection e with e; subst e; exact hcell i (by omega)) hwz
    exact ⟨_, h1, by rw [h2]; omega⟩
theorem open_pbs {c0 : Value} {y0 : DataW H × List MemPlace} (h : DataW.trod enc Try.prog W 0 (fun _ => true) true m 29 [c0] = some y0) :
    ∃ ps, Pbs W c0 ps ∧ ps.length ≤ 9223372036854775807 ∧ ∀ p ∈ ps, p.length ≤ 9223372036854775807 := by
  rcases open_int_rows Try.underlying29 Try.underlying32 Try.underlying5 info24b info5b h with ⟨hcs, _⟩ | ⟨a, len, cap, A, L, C, Z, hcs, _, hl, hm, _, hr⟩
  · simp at hcs
    subst hcs
    exact ⟨[], ⟨none, 0, rfl, by simp, fun hx => by simp at hx⟩, by simp, fun p hp => by cases hp⟩
  · simp at hcs
    subst hcs
    unfold maxLen at hm hr
    have hU : ∀ r, r < len → Pb W (.slice (A r) (L r) (C r)) (toB ((Z r).take (L r))) ∧ (toB ((Z r).take (L r))).length = L r := fun r hrl => by
      obtain ⟨_, h2, _, h4, h5, h6, h7⟩ := hr r (by omega)
      exact pb_row h2 h4 (fun e => by have := h6 e; omega) (fun a' e i hi => (h7 a' e).2 i hi) h5
    refine ⟨(List.range len).map (fun r => toB ((Z r).take (L r))), ⟨some a, cap, by simp, by simpa using hl, fun hx => ?_⟩, by simp; omega, fun p hp => ?_⟩
    · simp at hx
      have hc0 := (hr 0 (by omega)).1
      obtain ⟨b, off, spot⟩ := a
      have hspot : spot = none := by simpa [Addr.add] using World.cell?_spot hc0
      subst hspot
      refine ⟨b, off, rfl, World.block_lt_of_cell? W ⟨b, off + 0, none⟩ (by rw [← Go.WideShapes.add_plain]; exact hc0), fun j hj => ?_⟩
      simp at hj
      refine ⟨_, by rw [← Go.WideShapes.add_plain]; exact (hr j (by omega)).1, ?_⟩
      simp only [List.getElem_map, List.getElem_range]
      exact (hU j hj).1
    · obtain ⟨r, hrr, rfl⟩ := List.mem_map.1 hp
      have hrl := List.mem_range.1 hrr
      rw [(hU r hrl).2]
      have := (hr r (by omega)).2.1
      have := (hr r (by omega)).2.2.1
      omega
end
end Go.Proofs.Ytbahifbhjdnacaa
