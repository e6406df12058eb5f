/- Board: Same; pairs and numbers that came in; the sort. -/
import Derived.Test.YtaoejkbockcneaaA4
import Derived.Test.YtaoejkbockcneaaZE
import Derived.ProofKit
import Derived.ChangeSame
import Derived.Deep.Strs
import Derived.Deep.Slices
import Derived.Lib.SmallJoins
namespace Go.Proofs.Ytaoejkbockcneaa
open Go.RowKit Go.ChangeShapes
set_option maxRecDepth 20000
set_option linter.unusedVariables false
set_option linter.unusedSimpArgs false

def At32 (w : World) (b o : Nat) (l : List Nat) : Prop := ∀ (j x : Nat), l[j]? = some x → w.cell? ⟨b, o + j, none⟩ = some (.int .u32 (x : Int))
def S32 (w : World) (v : Value) (l : List Nat) : Prop := ∃ A c, v = .slice A l.length c ∧ (0 < l.length → ∃ b o, A = some ⟨b, o, none⟩ ∧ b < w.heap.size ∧ At32 w b o l)
theorem At32.of_own {w : World} {base n c : Nat} {b : Nat} {ids : List Nat} (h : w.ownsRow base 26 1 (.slice (some ⟨b, 0, none⟩) n c) n (un ids)) : At32 w b 0 ids := fun j x hj => by
  have := h.cells (g := b) rfl j (.int .u32 (x : Int)) (by unfold un; rw [List.getElem?_map, hj]; rfl)
  rw [Go.WideShapes.add_plain] at this
  exact this
theorem S32.of_own {w : World} {base : Nat} {v : Value} {l : List Nat} (h : w.ownsRow base 26 1 v l.length (un l)) : S32 w v l := by
  rcases h.2 with ⟨rfl, h0⟩ | ⟨g, cap, cur, rfl, hr⟩
  · exact ⟨none, 0, by rw [h0], fun hl => by omega⟩
  · exact ⟨_, cap, rfl, fun _ => ⟨g, 0, rfl, (ownlt h g rfl).2, At32.of_own h⟩⟩
theorem S32.after {w w' : World} {v : Value} {l : List Nat} (h : S32 w v l) (hb : Below w.heap.size w w') : S32 w' v l := by
  obtain ⟨A, c, h1, h2⟩ := h
  refine ⟨A, c, h1, fun hl => ?_⟩
  obtain ⟨b, o, h3, h4, h5⟩ := h2 hl
  exact ⟨b, o, h3, Nat.lt_of_lt_of_le h4 hb.size, fun j x hj => (hb.cell (p := ⟨b, _, none⟩) h4).trans (h5 j x hj)⟩

set_option maxHeartbeats 4000000 in
theorem same_eq (v v' : Value) (l : List Nat) (w : World) (hl : l.length ≤ 1000) (h : S32 w v l) (h' : S32 w v' l) :
    Calls Try.prog 44 #[v, v'] w fun r w' => r = .returned (.bool true) ∧ Below w.heap.size w w' := by
  obtain ⟨A, c, rfl, h1⟩ := h
  obtain ⟨B, d, rfl, h2⟩ := h'
  obtain ⟨n, hn⟩ : ∃ n, n = l.length := ⟨_, rfl⟩
  rw [← hn] at h1 h2 hl ⊢
  have H1 := Lib.hid h1
  have H2 := Lib.hid h2
  have HN := Lib.hid hn
  have HBr : Hid (Below w.heap.size w w) := Below.refl _ _
  clear h1 h2 hn
  go_enter Try.func44, Try.ntmps44
  go_wp2_with fail
  go_loopw [5] (fun u wr => ∃ k : Nat, k ≤ n ∧ u = .int .i64 (k : Int) ∧ Hid (Below w.heap.size w wr)) (fun u _ => n - (intOf u).toNat)
  case atStart => exact ⟨0, by omega, rfl, HBr.out⟩
  case round =>
    obtain ⟨k, hk, rfl, HV⟩ := hrel
    by_cases hlt : k < n
    · obtain ⟨b1, o1, rfl, hb1, ha1⟩ := H1.out (by omega)
      obtain ⟨b2, o2, rfl, hb2, ha2⟩ := H2.out (by omega)
      obtain ⟨y, hy⟩ : ∃ y, l[k]? = some y := ⟨l[k]'(by rw [← HN.out]; exact hlt), List.getElem?_eq_getElem _⟩
      have HD : Hid (Below w.heap.size w wr.drew) := HV.out.drew
      have HA1 : Hid (wr.drew.cell? ⟨b1, o1 + k, none⟩ = some (.int .u32 (y : Int))) := (HD.out.cell (p := ⟨b1, _, none⟩) hb1).trans (ha1 k y hy)
      have HA2 : Hid (wr.drew.cell? ⟨b2, o2 + k, none⟩ = some (.int .u32 (y : Int))) := (HD.out.cell (p := ⟨b2, _, none⟩) hb2).trans (ha2 k y hy)
      clear hy ha1 ha2 hb1 hb2
      go_upto_region 6 with (fail)
      have HSr : Hid ((fun W : World => W.cell? ⟨b1, o1 + k, none⟩ = some (.int .u32 (y : Int)) ∧ W.cell? ⟨b2, o2 + k, none⟩ = some (.int .u32 (y : Int))) wr.drew) := ⟨HA1.out, HA2.out⟩
      refine wp_region_held_drew (S := fun W : World => W.cell? ⟨b1, o1 + k, none⟩ = some (.int .u32 (y : Int)) ∧ W.cell? ⟨b2, o2 + k, none⟩ = some (.int .u32 (y : Int))) (by kernel_rfl) HSr.out (fun hHeld => ?_)
      obtain ⟨W0, hW0⟩ : ∃ W0, W0 = wr.drew := ⟨_, rfl⟩
      rw [← hW0] at hHeld HD HSr ⊢
      clear hW0
      refine wpAnyH_take (i := 0) (oi := ?oi0a) (v := ?v0a) ?hi0a ?hs0a ?hf0a ?hr0a ?hQ0a ?hy0a ?hS0a ?h0a
      case hi0a => exact (by simp only [List.getElem?_toArray, List.getElem?_cons_zero]; rfl)
      case hs0a => kernel_rfl
      case hf0a => kernel_rfl
      case hr0a => kernel_rfl
      case hQ0a => exact fun _ _ _ h => h
      case hy0a =>
        refine Or.inl ⟨rfl, ?_⟩
        intro W hSw
        obtain ⟨y0, y1⟩ := hSw
        go_simp
        try with_reducible rfl
      case hS0a => assumption
      try simp only [Act.put, List.setIfInBounds_toArray, List.set_cons_zero, List.set_cons_succ]
      refine wpAnyH_take (i := 1) (oi := ?oi1a) (v := ?v1a) ?hi1a ?hs1a ?hf1a ?hr1a ?hQ1a ?hy1a ?hS1a ?h1a
      case hi1a => exact (by simp only [List.getElem?_toArray, List.getElem?_cons_succ, List.getElem?_cons_zero]; rfl)
      case hs1a => kernel_rfl
      case hf1a => kernel_rfl
      case hr1a => kernel_rfl
      case hQ1a => exact fun _ _ _ h => h
      case hy1a =>
        refine Or.inl ⟨rfl, ?_⟩
        intro W hSw
        obtain ⟨y0, y1⟩ := hSw
        go_simp
        try with_reducible rfl
      case hS1a => assumption
      try simp only [Act.put, List.setIfInBounds_toArray, List.set_cons_zero, List.set_cons_succ]
      refine wpAnyH_take (i := 2) (oi := ?oi2a) (v := ?v2a) ?hi2a ?hs2a ?hf2a ?hr2a ?hQ2a ?hy2a ?hS2a ?h2a
      case hi2a => exact (by simp only [List.getElem?_toArray, List.getElem?_cons_succ, List.getElem?_cons_zero]; rfl)
      case hs2a => kernel_rfl
      case hf2a => kernel_rfl
      case hr2a => kernel_rfl
      case hQ2a => exact fun _ _ _ h => h
      case hy2a =>
        refine Or.inl ⟨rfl, ?_⟩
        intro W hSw
        obtain ⟨y0, y1⟩ := hSw
        go_simp
        try with_reducible rfl
      case hS2a => assumption
      try simp only [Act.put, List.setIfInBounds_toArray, List.set_cons_zero, List.set_cons_succ]
      refine wpAnyH_take (i := 3) (oi := ?oi3a) (v := ?v3a) ?hi3a ?hs3a ?hf3a ?hr3a ?hQ3a ?hy3a ?hS3a ?h3a
      case hi3a => exact (by simp only [List.getElem?_toArray, List.getElem?_cons_succ, List.getElem?_cons_zero]; rfl)
      case hs3a => kernel_rfl
      case hf3a => kernel_rfl
      case hr3a => kernel_rfl
      case hQ3a => exact fun _ _ _ h => h
      case hy3a =>
        refine Or.inl ⟨rfl, ?_⟩
        intro W hSw
        obtain ⟨y0, y1⟩ := hSw
        go_simp
        try with_reducible rfl
      case hS3a => assumption
      try simp only [Act.put, List.setIfInBounds_toArray, List.set_cons_zero, List.set_cons_succ]
      refine wpAnyH_take (i := 4) (oi := ?oi4a) (v := ?v4a) ?hi4a ?hs4a ?hf4a ?hr4a ?hQ4a ?hy4a ?hS4a ?h4a
      case hi4a => exact (by simp only [List.getElem?_toArray, List.getElem?_cons_succ, List.getElem?_cons_zero]; rfl)
      case hs4a => kernel_rfl
      case hf4a => kernel_rfl
      case hr4a => kernel_rfl
      case hQ4a => exact fun _ _ _ h => h
      case hy4a =>
        refine Or.inl ⟨rfl, ?_⟩
        intro W hSw
        obtain ⟨y0, y1⟩ := hSw
        go_simp
        try with_reducible rfl
      case hS4a => assumption
      try simp only [Act.put, List.setIfInBounds_toArray, List.set_cons_zero, List.set_cons_succ]
      refine wpAnyH_take (i := 5) (oi := ?oi5a) (v := ?v5a) ?hi5a ?hs5a ?hf5a ?hr5a ?hQ5a ?hy5a ?hS5a ?h5a
      case hi5a => exact (by simp only [List.getElem?_toArray, List.getElem?_cons_succ, List.getElem?_cons_zero]; rfl)
      case hs5a => kernel_rfl
      case hf5a => kernel_rfl
      case hr5a => kernel_rfl
      case hQ5a => exact fun _ _ _ h => h
      case hy5a =>
        refine Or.inl ⟨rfl, ?_⟩
        intro W hSw
        obtain ⟨y0, y1⟩ := hSw
        go_simp
        try with_reducible rfl
      case hS5a => assumption
      try simp only [Act.put, List.setIfInBounds_toArray, List.set_cons_zero, List.set_cons_succ]
      refine wpAnyH_take (i := 6) (oi := ?oi6a) (v := ?v6a) ?hi6a ?hs6a ?hf6a ?hr6a ?hQ6a ?hy6a ?hS6a ?h6a
      case hi6a => exact (by simp only [List.getElem?_toArray, List.getElem?_cons_succ, List.getElem?_cons_zero]; rfl)
      case hs6a => kernel_rfl
      case hf6a => kernel_rfl
      case hr6a => kernel_rfl
      case hQ6a => exact fun _ _ _ h => h
      case hy6a =>
        refine Or.inl ⟨rfl, ?_⟩
        intro W hSw
        obtain ⟨y0, y1⟩ := hSw
        go_simp
        try with_reducible rfl
      case hS6a => assumption
      try simp only [Act.put, List.setIfInBounds_toArray, List.set_cons_zero, List.set_cons_succ]
      refine wpAnyH_take (i := 7) (oi := ?oi7a) (v := ?v7a) ?hi7a ?hs7a ?hf7a ?hr7a ?hQ7a ?hy7a ?hS7a ?h7a
      case hi7a => exact (by simp only [List.getElem?_toArray, List.getElem?_cons_succ, List.getElem?_cons_zero]; rfl)
      case hs7a => kernel_rfl
      case hf7a => kernel_rfl
      case hr7a => kernel_rfl
      case hQ7a => exact fun _ _ _ h => h
      case hy7a =>
        refine Or.inl ⟨rfl, ?_⟩
        intro W hSw
        obtain ⟨y0, y1⟩ := hSw
        go_simp
        try with_reducible rfl
      case hS7a => assumption
      try simp only [Act.put, List.setIfInBounds_toArray, List.set_cons_zero, List.set_cons_succ]
      refine wpAnyH_take (i := 8) (oi := ?oi8a) (v := ?v8a) ?hi8a ?hs8a ?hf8a ?hr8a ?hQ8a ?hy8a ?hS8a ?h8a
      case hi8a => exact (by simp only [List.getElem?_toArray, List.getElem?_cons_succ, List.getElem?_cons_zero]; rfl)
      case hs8a => kernel_rfl
      case hf8a => kernel_rfl
      case hr8a => kernel_rfl
      case hQ8a => exact fun _ _ _ h => h
      case hy8a =>
        refine Or.inl ⟨rfl, ?_⟩
        intro W hSw
        obtain ⟨y0, y1⟩ := hSw
        go_simp
        try with_reducible rfl
      case hS8a => assumption
      try simp only [Act.put, List.setIfInBounds_toArray, List.set_cons_zero, List.set_cons_succ]
      refine wpAnyH_done (by kernel_rfl) ?_ _
      go_wp2
      go_roundw
      case rel => exact ⟨k + 1, by omega, by go_num, HD.out⟩
      case measure => simp [intOf] <;> omega
    · have hkn : k = n := by omega
      subst hkn
      go_wp2
      go_ret
      exact ⟨rfl, HV.out⟩




theorem sortU : SortU := fun B v l W h hl => (sort_own B v l W h (by omega)).mono fun r w' ⟨h1, h2, h3⟩ => by
  have hp := sortedN_perm l
  exact ⟨h1, ⟨sortedN l, by rw [hp.length_eq]; exact h2, sortedN_le l, hp⟩, h3⟩
/-- Pairs that came in. -/
def Ps2 (w : World) (B : Nat) (A : Option Addr) (l : List (Nat × Nat)) : Prop := 0 < l.length → ∃ b o, A = some ⟨b, o, none⟩ ∧ b < B ∧ ∀ (i : Nat) (e : Nat × Nat), l[i]? = some e → w.cell? ⟨b, o + i * 2, none⟩ = some (.int .u32 (e.1 : Int)) ∧ w.cell? ⟨b, o + i * 2 + 1, none⟩ = some (.int .u32 (e.2 : Int))
theorem open_pairs {H : Type} {enc : TypeId × Value → H} {W : World} {r : Reach} {b0 : Nat} {v : Value} {d : DataW H} {q : List MemPlace} (hv : Value.okWide Try.prog W r b0 76 v) (h : DataW.Trod enc Try.prog W 0 (fun _ => true) true 76 v d q) :
    ∃ (A : Option Addr) (c : Nat) (l : List (Nat × Nat)), v = .slice A l.length c ∧ Ps2 W W.heap.size A l ∧ l.length ≤ 9223372036854775807 ∧ ∀ e ∈ l, e.1 < 4294967296 ∧ e.2 < 4294967296 := by
  obtain ⟨A, n, c, rfl⟩ := WideShapes.okWide_slice Try.underlying76 hv
  obtain ⟨fuel, hf⟩ := h
  have c2 : Try.prog.cellsOf 83 = 2 := by kernel_rfl
  have k26 : Try.prog.cellsOf 26 = 1 := by kernel_rfl
  rcases Deep.open_slice Try.underlying76 hf with ⟨hcs, _⟩ | ⟨a, len, cap, m, k, D, Pl, hcs, _, hl, hm, hmm, _, hx⟩
  · simp [Value.cells] at hcs
    obtain ⟨rfl, rfl, rfl⟩ := hcs
    exact ⟨none, 0, [], rfl, fun h => by simp at h, by simp, fun e he => by cases he⟩
  · simp [Value.cells] at hcs
    obtain ⟨rfl, rfl, rfl⟩ := hcs
    rw [c2] at hx
    have each : ∀ i, i < n → ∃ e : Nat × Nat, (e.1 < 4294967296 ∧ e.2 < 4294967296) ∧ W.cell? (a.add (i * 2)) = some (.int .u32 (e.1 : Int)) ∧ W.cell? (a.add (i * 2 + 1)) = some (.int .u32 (e.2 : Int)) := fun i hi => by
      obtain ⟨cs', h1, h2⟩ := hx i (by rw [hmm]; simp; omega)
      obtain ⟨_, hlen, hcell⟩ := World.cells?_some h1
      match cs', hlen with
      | [c0, c1], _ =>
        obtain ⟨y0, y1, m', _, _, g0, g1⟩ := trod_struct2 Try.underlying83 h2
        have g0 : DataW.trod enc Try.prog W 0 (fun _ => true) true m' 26 [c0] = some y0 := by simpa [k26] using g0
        have g1 : DataW.trod enc Try.prog W 0 (fun _ => true) true m' 26 [c1] = some y1 := by simpa [k26] using g1
        obtain ⟨x0, e0, _, w0⟩ := DataW.trod_int Try.underlying26 g0
        obtain ⟨x1, e1, _, w1⟩ := DataW.trod_int Try.underlying26 g1
        simp only [List.cons.injEq, and_true] at e0 e1
        subst e0 e1
        have b0 := bounds_u32 w0
        have b1 := bounds_u32 w1
        have q0 := hcell 0 (by omega)
        have q1 := hcell 1 (by omega)
        rw [Deep.add_add] at q0 q1
        refine ⟨(x0.toNat, x1.toNat), ⟨by show x0.toNat < _; omega, by show x1.toNat < _; omega⟩, ?_, ?_⟩
        · simpa [show (x0.toNat : Int) = x0 by omega] using q0
        · simpa [show (x1.toNat : Int) = x1 by omega] using q1
    obtain ⟨f, hf⟩ := Deep.choose_lt each
    refine ⟨some a, c, (List.range n).map f, by simp, fun h0 => ?_, by unfold maxLen at hm; simp; omega, fun e he => ?_⟩
    · simp at h0
      have hc0 := (hf 0 h0).2.1
      obtain ⟨b, off, spot⟩ := a
      have hspot : spot = none := by simpa [Addr.add] using World.cell?_spot hc0
      subst hspot
      refine ⟨b, off, rfl, World.block_lt_of_cell? W ⟨b, off + 0 * 2, none⟩ (by rw [← Go.WideShapes.add_plain]; exact hc0), fun i e he => ?_⟩
      rw [List.getElem?_map] at he
      obtain ⟨i', hi', rfl⟩ := Option.map_eq_some_iff.1 he
      obtain ⟨hin, rfl⟩ := List.getElem?_eq_some_iff.1 hi'
      simp at hin
      simp only [List.getElem_range]
      obtain ⟨_, r0, r1⟩ := hf i hin
      rw [Go.WideShapes.add_plain] at r0 r1
      exact ⟨r0, r1⟩
    · obtain ⟨i, hi, rfl⟩ := List.mem_map.1 he
      exact (hf i (List.mem_range.1 hi)).1
theorem open_nums {H : Type} {enc : TypeId × Value → H} {W : World} {r : Reach} {b0 : Nat} {v : Value} {d : DataW H} {q : List MemPlace} (hv : Value.okWide Try.prog W r b0 63 v) (h : DataW.Trod enc Try.prog W 0 (fun _ => true) true 63 v d q) :
    ∃ (A : Option Addr) (c : Nat) (l : List Nat), v = .slice A l.length c ∧ On W W.heap.size A l ∧ l.length ≤ 9223372036854775807 ∧ ∀ e ∈ l, e < 4294967296 := by
  obtain ⟨A, n, c, rfl⟩ := WideShapes.okWide_slice Try.underlying63 hv
  obtain ⟨fuel, hf⟩ := h
  have k26 : Try.prog.cellsOf 26 = 1 := by kernel_rfl
  rcases Deep.open_slice Try.underlying63 hf with ⟨hcs, _⟩ | ⟨a, len, cap, m, k, D, Pl, hcs, _, hl, hm, hmm, _, hx⟩
  · simp [Value.cells] at hcs
    obtain ⟨rfl, rfl, rfl⟩ := hcs
    exact ⟨none, 0, [], rfl, fun h => by simp at h, by simp, fun e he => by cases he⟩
  · simp [Value.cells] at hcs
    obtain ⟨rfl, rfl, rfl⟩ := hcs
    rw [k26] at hx
    have each : ∀ i, i < n → ∃ e : Nat, e < 4294967296 ∧ W.cell? (a.add (i * 1)) = some (.int .u32 (e : Int)) := fun i hi => by
      obtain ⟨cs', h1, h2⟩ := hx i (by rw [hmm]; simp; omega)
      obtain ⟨_, hlen, hcell⟩ := World.cells?_some h1
      match cs', hlen with
      | [c0], _ =>
        obtain ⟨x0, e0, _, w0⟩ := DataW.trod_int Try.underlying26 h2
        simp only [List.cons.injEq, and_true] at e0
        subst e0
        have b0 := bounds_u32 w0
        have q0 := hcell 0 (by omega)
        rw [Deep.add_add] at q0
        exact ⟨x0.toNat, by omega, by simpa [show (x0.toNat : Int) = x0 by omega] using q0⟩
    obtain ⟨f, hf⟩ := Deep.choose_lt each
    refine ⟨some a, c, (List.range n).map f, by simp, fun h0 => ?_, by unfold maxLen at hm; simp; omega, fun e he => ?_⟩
    · simp at h0
      have hc0 := (hf 0 h0).2
      obtain ⟨b, off, spot⟩ := a
      have hspot : spot = none := by simpa [Addr.add] using World.cell?_spot hc0
      subst hspot
      refine ⟨b, off, rfl, World.block_lt_of_cell? W ⟨b, off + 0 * 1, none⟩ (by rw [← Go.WideShapes.add_plain]; exact hc0), fun i e he => ?_⟩
      rw [List.getElem?_map] at he
      obtain ⟨i', hi', rfl⟩ := Option.map_eq_some_iff.1 he
      obtain ⟨hin, rfl⟩ := List.getElem?_eq_some_iff.1 hi'
      simp at hin
      simp only [List.getElem_range]
      obtain ⟨_, r0⟩ := hf i hin
      rw [Go.WideShapes.add_plain, Nat.mul_one] at r0
      exact r0
    · obtain ⟨i, hi, rfl⟩ := List.mem_map.1 he
      exact (hf i (List.mem_range.1 hi)).1
end Go.Proofs.Ytaoejkbockcneaa
