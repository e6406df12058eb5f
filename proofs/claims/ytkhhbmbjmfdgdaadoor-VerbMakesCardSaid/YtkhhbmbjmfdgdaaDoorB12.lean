/- Fields that come in as an argument: what stands in memory. -/
import Derived.Test.YtkhhbmbjmfdgdaaDoorB11
import Derived.ProofKit
import Derived.OpenShut
import Derived.SliceStrings
import Derived.Deep.Matrix
import Derived.Lib.SmallJoins
namespace Go.Proofs.YtkhhbmbjmfdgdaaDoor
set_option maxRecDepth 4000
open Go.ChangeShapes Go.WideShapes Go.ChangeAt Go.RowKit Go.Deep

theorem addr_plain {w : World} {a : Addr} {v : Value} (h : w.cell? (a.add 0) = some v) : ∃ b o, a = ⟨b, o, none⟩ := by
  obtain ⟨b, off, spot⟩ := a
  have hspot : spot = none := by simpa [Addr.add] using World.cell?_spot h
  exact ⟨b, off, by rw [hspot]⟩

theorem rd_cells {w : World} {a : Addr} {xs : List Value} (h : ∀ i x, xs[i]? = some x → w.cell? (a.add i) = some x) : Rd w w.heap.size (some a) xs := fun hx => by
  obtain ⟨b, o, rfl⟩ := addr_plain (h 0 _ (List.getElem?_eq_getElem hx))
  refine ⟨b, o, rfl, ?_, fun j u hu => ?_⟩
  · have := h 0 _ (List.getElem?_eq_getElem hx)
    rw [Go.Proofs.YtkhhbmbjmfdgdaaDoor.add_plain] at this
    exact World.block_lt_of_cell? w ⟨b, o + 0, none⟩ this
  · rw [← Go.Proofs.YtkhhbmbjmfdgdaaDoor.add_plain]
    exact h j u hu

theorem lss_map {w : World} {B : Nat} {V : Nat → Value} {U : Nat → List Nat} : ∀ (rs : List Nat), (∀ r ∈ rs, ∃ a c, V r = .slice a (U r).length c ∧ Rd w B a (uv .u32 (U r)) ∧ ∀ n ∈ U r, n < 4294967296) → Lss w B (rs.map V) (rs.map U)
  | [], _ => trivial
  | r :: rs, h => ⟨h r (by simp), lss_map rs (fun q hq => h q (by simp [hq]))⟩

theorem nums_of {k : IntKind} {zs : List Int} (hz : ∀ z ∈ zs, 0 ≤ z) : uv k (zs.map Int.toNat) = zs.map (Value.int k) := by
  unfold uv
  rw [List.map_map]
  apply List.map_congr_left
  intro z hz'
  simp only [Function.comp]
  rw [Int.toNat_of_nonneg (hz z hz')]

section
variable {H : Type} {enc : TypeId × Value → H} {W : World} {m : Nat}

theorem open_N {c0 : Value} {y0 : DataW H × List MemPlace} (h : DataW.trod enc Tryd.prog W 0 (fun _ => true) true m 34 [c0] = some y0) :
    ∃ aN cN N, c0 = .slice aN N.length cN ∧ Rd W W.heap.size aN (uv .u64 N) ∧ N.length ≤ cN ∧ N.length ≤ 9223372036854775807 ∧ ∀ n ∈ N, n < 18446744073709551616 := by
  rcases open_ints Tryd.underlying34 Tryd.underlying66 (by kernel_rfl) h with ⟨hcs, _⟩ | ⟨a, len, cap, zs, hcs, _, hl, hm, hz, _, hcell, hwz⟩
  · simp at hcs
    exact ⟨none, 0, [], hcs, Rd.nil, by simp, by simp, fun n hn => by cases hn⟩
  · simp at hcs hz
    have hb : ∀ z ∈ zs.take len, 0 ≤ z ∧ z ≤ 18446744073709551615 := fun z hz => bounds_u64 (hwz z (List.mem_of_mem_take hz))
    have hlen : ((zs.take len).map Int.toNat).length = len := by simp; omega
    unfold maxLen at hm
    refine ⟨some a, cap, (zs.take len).map Int.toNat, by rw [hlen]; exact hcs, rd_cells fun i x hx => ?_, by rw [hlen]; exact hl, by rw [hlen]; omega, fun n hn => ?_⟩
    · rw [nums_of (fun z hz => (hb z hz).1)] at hx
      have hi : i < len := by
        have := (List.getElem?_eq_some_iff.1 hx).1
        simp at this
        omega
      have hi2 : i < zs.length := by omega
      rw [hcell i hi2, ← hx]
      simp [List.getD, hi, List.getElem?_eq_getElem hi2]
    · obtain ⟨z, hz, rfl⟩ := List.mem_map.1 hn
      have := hb z hz
      omega

theorem open_S {c0 : Value} {y0 : DataW H × List MemPlace} (h : DataW.trod enc Tryd.prog W 0 (fun _ => true) true m 35 [c0] = some y0) :
    ∃ aS cS S, c0 = .slice aS S.length cS ∧ Rd W W.heap.size aS (sv S) ∧ S.length ≤ cS ∧ S.length ≤ 9223372036854775807 := by
  rcases open_strings Tryd.underlying35 Tryd.underlying9 (by kernel_rfl) h with ⟨hcs, _⟩ | ⟨a, len, cap, ss, hcs, _, hl, hm, hz, _, hcell, _⟩
  · simp at hcs
    exact ⟨none, 0, [], hcs, Rd.nil, by simp, by simp⟩
  · simp at hcs hz
    have hlen : (ss.take len).length = len := by simp; omega
    unfold maxLen at hm
    refine ⟨some a, cap, ss.take len, by rw [hlen]; exact hcs, rd_cells fun i x hx => ?_, by rw [hlen]; exact hl, by rw [hlen]; omega⟩
    unfold sv at hx
    have hi : i < len := by
      have := (List.getElem?_eq_some_iff.1 hx).1
      simp at this
      omega
    have hi2 : i < ss.length := by omega
    rw [hcell i hi2, ← hx]
    simp [List.getD, hi, List.getElem?_eq_getElem hi2]

theorem open_L {c0 : Value} {y0 : DataW H × List MemPlace} (h : DataW.trod enc Tryd.prog W 0 (fun _ => true) true m 36 [c0] = some y0) :
    ∃ aL cL L vs, c0 = .slice aL L.length cL ∧ Rd W W.heap.size aL vs ∧ Lss W W.heap.size vs L ∧ L.length ≤ cL ∧ L.length ≤ 9223372036854775807 ∧ ∀ u ∈ L, ∀ n ∈ u, n < 4294967296 := by
  rcases open_int_rows Tryd.underlying36 Tryd.underlying62 Tryd.underlying67 (by kernel_rfl) (by kernel_rfl) h with ⟨hcs, _⟩ | ⟨a, len, cap, A, L, C, Z, hcs, _, hl, hm, _, hr⟩
  · simp at hcs
    exact ⟨none, 0, [], [], hcs, Rd.nil, trivial, by simp, by simp, fun u hu => by cases hu⟩
  · simp at hcs
    unfold maxLen at hm
    have hU : ∀ r, r < len → ((Z r).take (L r)).length = L r ∧ (∀ z ∈ (Z r).take (L r), 0 ≤ z ∧ z ≤ 4294967295) := fun r hrl => by
      obtain ⟨_, h2, _, h4, h5, _⟩ := hr r (by omega)
      exact ⟨by simp; omega, fun z hz => bounds_u32 (h5 z (List.mem_of_mem_take hz))⟩
    refine ⟨some a, cap, (List.range len).map (fun r => ((Z r).take (L r)).map Int.toNat), (List.range len).map (fun r => .slice (A r) (L r) (C r)), by simp [hcs], rd_cells fun i x hx => ?_, lss_map _ fun r hrr => ?_, by simpa using hl, by simp; omega, fun u hu n hn => ?_⟩
    · have hi : i < len := by
        have := (List.getElem?_eq_some_iff.1 hx).1
        simpa using this
      rw [(hr i (by omega)).1, ← hx]
      simp [hi]
    · have hrl : r < len := List.mem_range.1 hrr
      obtain ⟨_, h2, _, h4, h5, h6, h7⟩ := hr r (by omega)
      obtain ⟨u1, u2⟩ := hU r hrl
      refine ⟨A r, C r, by rw [List.length_map, u1], ?_, fun n hn => ?_⟩
      · rw [nums_of (fun z hz => (u2 z hz).1)]
        cases hA : A r with
        | none =>
          intro hx
          have := h6 hA
          simp at hx
          omega
        | some a' =>
          refine rd_cells fun i x hx => ?_
          have hi : i < L r := by
            have := (List.getElem?_eq_some_iff.1 hx).1
            simp at this
            omega
          have hi2 : i < (Z r).length := by omega
          rw [(h7 a' hA).2 i (by omega), ← hx]
          simp [List.getD, hi, List.getElem?_eq_getElem hi2]
      · obtain ⟨z, hz, rfl⟩ := List.mem_map.1 hn
        have := u2 z hz
        omega
    · obtain ⟨r, hrr, rfl⟩ := List.mem_map.1 hu
      obtain ⟨z, hz, rfl⟩ := List.mem_map.1 hn
      have := (hU r (List.mem_range.1 hrr)).2 z hz
      omega
end
end Go.Proofs.YtkhhbmbjmfdgdaaDoor
