/- Pool: the document's pool in memory; Get, Least, Late, Same. -/
import Derived.Test.YtddjbkaofodmlaaPA
namespace Go.Proofs.Ytddjbkaofodmlaa
open Go.RowKit
set_option maxRecDepth 20000
set_option linter.unusedVariables false
set_option linter.unusedSimpArgs false

/-- The instances l are read from A on. -/
def Rs (w : World) (B : Nat) (A : Option Addr) (l : List In) : Prop :=
  0 < l.length → ∃ b o, A = some ⟨b, o, none⟩ ∧ b < B ∧ ∀ i e, l[i]? = some e → w.cell? ⟨b, o + i * 3, none⟩ = some (.int .i64 e.1) ∧ w.cell? ⟨b, o + i * 3 + 1, none⟩ = some (.int .u32 e.2.1) ∧ w.cell? ⟨b, o + i * 3 + 2, none⟩ = some (.int .i64 e.2.2)
theorem Rs.below {w W : World} {B : Nat} {A : Option Addr} {l : List In} (h : Rs w B A l) (hb : Below B w W) : Rs W B A l := fun hl => by
  obtain ⟨b, o, h1, h2, h3⟩ := h hl
  exact ⟨b, o, h1, h2, fun i e he => ⟨(hb.cell (p := ⟨b, _, none⟩) h2).trans (h3 i e he).1, (hb.cell (p := ⟨b, _, none⟩) h2).trans (h3 i e he).2.1, (hb.cell (p := ⟨b, _, none⟩) h2).trans (h3 i e he).2.2⟩⟩
theorem Rs.mono {w : World} {B B' : Nat} {A : Option Addr} {l : List In} (h : Rs w B A l) (hb : B ≤ B') : Rs w B' A l := fun hl => by
  obtain ⟨b, o, h1, h2, h3⟩ := h hl
  exact ⟨b, o, h1, Nat.lt_of_lt_of_le h2 hb, h3⟩
theorem Rs.of_own {w : World} {base m c : Nat} {A : Option Addr} {l : List In} (h : w.ownsRow base 61 3 (.slice A m c) m (ir l)) : Rs w w.heap.size A l := fun hl => by
  have hlen := h.1
  rw [ir_len] at hlen
  rcases h.2 with ⟨_, h0⟩ | ⟨g, cap, cur, e1, _, hh, _, _, _, ht⟩
  · omega
  · injection e1 with e1 _ _
    subst e1
    refine ⟨g, 0, rfl, lt_of_block hh, fun i e he => ?_⟩
    have hil := (List.getElem?_eq_some_iff.1 he).1
    have hc : ∀ j u, j < 3 → (ic e)[j]? = some u → w.cell? ⟨g, 0 + i * 3 + j, none⟩ = some u := fun j u hj hu => by
      rw [cell_of_row w g _ _ _ _ hh, ← Array.getElem?_toList, Nat.zero_add, ← hu, ← ir_get l i e j he hj, ← ht, List.getElem?_take, if_pos (by omega)]
    exact ⟨hc 0 _ (by decide) rfl, hc 1 _ (by decide) rfl, hc 2 _ (by decide) rfl⟩
/-- The document's pool, as a value. -/
abbrev rC (A : Option Addr) (n c : Nat) (beat : Int) : Array Value := #[.slice A n c, .int .i64 beat]
abbrev rV (A : Option Addr) (n c : Nat) (beat : Int) : Value := .agg (rC A n c beat)

set_option maxHeartbeats 2000000 in
theorem rget_there (A : Option Addr) (n c j : Nat) (beat : Int) (l : List In) (s m a : Int) (w : World) (hn : n = l.length) (hR : Rs w w.heap.size A l) (hl : n ≤ 16) (hj : l[j]? = some (s, m, a)) :
    Calls Try.prog 27 #[rV A n c beat, .int .u32 ((j + 1 : Nat) : Int)] w fun r w' => r = .returned (.tuple #[iV s m a, .bool true]) ∧ Below w.heap.size w w' := by
  obtain ⟨x, hx⟩ : ∃ x, x = j + 1 := ⟨_, rfl⟩
  rw [← hx]
  obtain ⟨w0, hw0⟩ : ∃ w0, w0 = w.alloc (.cells (rC A n c beat) 27) := ⟨_, rfl⟩
  have hb0 : Below w.heap.size w w0 := by rw [hw0]; exact (Below.refl _ _).alloc (Nat.le_refl _) _
  have hq0 : w0.heap[w.heap.size]? = some (.cells (rC A n c beat) 27 (0, 0)) := by rw [hw0]; exact heap_alloc_new w _
  have hs0 : w0.heap.size = w.heap.size + 1 := by rw [hw0]; simp
  obtain ⟨w1, hw1⟩ : ∃ w1, w1 = w0.alloc (.cells (iC 0 0 0) 61) := ⟨_, rfl⟩
  have hb1 : Below w0.heap.size w0 w1 := by rw [hw1]; exact (Below.refl _ _).alloc (Nat.le_refl _) _
  have hq1 : w1.heap[w.heap.size + 1]? = some (.cells (iC 0 0 0) 61 (0, 0)) := by rw [hw1, ← hs0]; exact heap_alloc_new w0 _
  have hq01 := (hb1.block _ (lt_of_block hq0)).trans hq0
  have q0 := cell_of_row w1 w.heap.size 0 _ _ _ hq01
  have z0 := cell_of_row w1 (w.heap.size + 1) 0 _ _ _ hq1
  have z1 := cell_of_row w1 (w.heap.size + 1) 1 _ _ _ hq1
  have z2 := cell_of_row w1 (w.heap.size + 1) 2 _ _ _ hq1
  have zf : ∀ i, w1.frozen? ⟨w.heap.size + 1, i, none⟩ = false := fun i => frozen_of_row w1 _ i _ _ hq1
  simp at q0 z0 z1 z2
  have HB1 := Lib.hid (hb0.trans (hb1.mono hb0.size))
  have HR : Hid (Rs w1 w.heap.size A l) := hR.below HB1.out
  have HT := Lib.hid (three (.int .i64 s) (.int .u32 m) (.int .i64 a) hq1)
  have HTB := Lib.hid (three_below (.int .i64 s) (.int .u32 m) (.int .i64 a) HB1.out (Nat.le_succ w.heap.size))
  have HN := Lib.hid hn
  have HX := Lib.hid hx
  have HJ := Lib.hid hj
  have H1 : Hid (w1 = (w.alloc (.cells (rC A n c beat) 27)).alloc (.cells (iC 0 0 0) 61)) := by simp only [Hid]; rw [hw1, hw0]
  have hjn : j < n := by rw [hn]; exact (List.getElem?_eq_some_iff.1 hj).1
  clear hw0 hb0 hq0 hs0 hw1 hb1 hq1 hq01 hn hR hx hj
  go_enter Try.func27, Try.ntmps27
  go_upto_region 1 with (fail)
  rw [← H1.out]
  go_wp2_with fail
  go_loop [6] (fun i => ∃ k : Nat, k ≤ j ∧ i = .int .i64 (k : Int)) (fun i => j + 1 - (intOf i).toNat)
  case atStart => exact ⟨0, Nat.zero_le _, rfl⟩
  case round =>
    obtain ⟨k, hk, rfl⟩ := hrel
    have hlt : k < n := by omega
    by_cases hkj : k = j
    · subst hkj
      obtain ⟨b1, o1, rfl, hb1, ha1⟩ := HR.out (by have := HN.out; omega)
      obtain ⟨d0, d1, d2⟩ := ha1 k _ HJ.out
      simp only at d0 d1 d2
      have ht : ((k : Int) + 1 == (x : Int)) = true := by have := HX.out; simp; omega
      clear ha1 hb1
      go_wp2
      obtain ⟨e0, e1, e2, _⟩ := HT.out
      exact bodyPost_ret (v := .tuple #[iV s m a, .bool true]) (by simp [results, Try.results27, go_sem, e0, e1, e2]) rfl ⟨rfl, HTB.out⟩
    · have ht : ¬ (k : Int) + 1 = (x : Int) := by have := HX.out; omega
      go_wp2
      go_round
      case rel => exact ⟨k + 1, by omega, by go_num⟩
      case measure => simp [intOf] <;> omega
set_option maxHeartbeats 2000000 in
theorem rget_miss (A : Option Addr) (n c x : Nat) (beat : Int) (w : World) (hl : n ≤ 16) (hx : x = 0 ∨ n < x) :
    Calls Try.prog 27 #[rV A n c beat, .int .u32 (x : Int)] w fun r w' => r = .returned (.tuple #[iV 0 0 0, .bool false]) ∧ Below w.heap.size w w' := by
  obtain ⟨w0, hw0⟩ : ∃ w0, w0 = w.alloc (.cells (rC A n c beat) 27) := ⟨_, rfl⟩
  have hb0 : Below w.heap.size w w0 := by rw [hw0]; exact (Below.refl _ _).alloc (Nat.le_refl _) _
  have hq0 : w0.heap[w.heap.size]? = some (.cells (rC A n c beat) 27 (0, 0)) := by rw [hw0]; exact heap_alloc_new w _
  have hs0 : w0.heap.size = w.heap.size + 1 := by rw [hw0]; simp
  obtain ⟨w1, hw1⟩ : ∃ w1, w1 = w0.alloc (.cells (iC 0 0 0) 61) := ⟨_, rfl⟩
  have hb1 : Below w0.heap.size w0 w1 := by rw [hw1]; exact (Below.refl _ _).alloc (Nat.le_refl _) _
  have hq1 : w1.heap[w.heap.size + 1]? = some (.cells (iC 0 0 0) 61 (0, 0)) := by rw [hw1, ← hs0]; exact heap_alloc_new w0 _
  have hq01 := (hb1.block _ (lt_of_block hq0)).trans hq0
  have q0 := cell_of_row w1 w.heap.size 0 _ _ _ hq01
  have z0 := cell_of_row w1 (w.heap.size + 1) 0 _ _ _ hq1
  have z1 := cell_of_row w1 (w.heap.size + 1) 1 _ _ _ hq1
  have z2 := cell_of_row w1 (w.heap.size + 1) 2 _ _ _ hq1
  have zf : ∀ i, w1.frozen? ⟨w.heap.size + 1, i, none⟩ = false := fun i => frozen_of_row w1 _ i _ _ hq1
  simp at q0 z0 z1 z2
  have HB1 := Lib.hid (hb0.trans (hb1.mono hb0.size))
  have HT := Lib.hid (three (.int .i64 0) (.int .u32 0) (.int .i64 0) hq1)
  have HTB := Lib.hid (three_below (.int .i64 0) (.int .u32 0) (.int .i64 0) HB1.out (Nat.le_succ w.heap.size))
  have H1 : Hid (w1 = (w.alloc (.cells (rC A n c beat) 27)).alloc (.cells (iC 0 0 0) 61)) := by simp only [Hid]; rw [hw1, hw0]
  have HX := Lib.hid hx
  clear hw0 hb0 hq0 hs0 hw1 hb1 hq1 hq01 hx
  go_enter Try.func27, Try.ntmps27
  go_upto_region 1 with (fail)
  rw [← H1.out]
  go_wp2_with fail
  go_loop [6] (fun i => ∃ k : Nat, k ≤ n ∧ i = .int .i64 (k : Int)) (fun i => n - (intOf i).toNat)
  case atStart => exact ⟨0, Nat.zero_le _, rfl⟩
  case round =>
    obtain ⟨k, hk, rfl⟩ := hrel
    by_cases hlt : k < n
    · have ht : ¬ (k : Int) + 1 = (x : Int) := by have := HX.out; omega
      go_wp2
      go_round
      case rel => exact ⟨k + 1, by omega, by go_num⟩
      case measure => simp [intOf] <;> omega
    · have hkn : k = n := by omega
      subst hkn
      go_wp2
      obtain ⟨e0, e1, e2, _⟩ := HT.out
      exact bodyPost_ret (v := .tuple #[iV 0 0 0, .bool false]) (by simp [results, Try.results27, go_sem, e0, e1, e2]) rfl ⟨rfl, HTB.out⟩
set_option maxHeartbeats 4000000 in
theorem rleast_any (A : Option Addr) (n c : Nat) (beat : Int) (l : List In) (w : World) (hn : n = l.length) (hR0 : Rs w w.heap.size A l) (hl : n ≤ 16) :
    Calls Try.prog 30 #[rV A n c beat] w fun r w' => r = .returned (.int .u32 (leastU l 0 : Int)) ∧ Below w.heap.size w w' := by
  obtain ⟨w0, hw0⟩ : ∃ w0, w0 = w.alloc (.cells (rC A n c beat) 27) := ⟨_, rfl⟩
  have hb0 : Below w.heap.size w w0 := by rw [hw0]; exact (Below.refl _ _).alloc (Nat.le_refl _) _
  have hq0 : w0.heap[w.heap.size]? = some (.cells (rC A n c beat) 27 (0, 0)) := by rw [hw0]; exact heap_alloc_new w _
  have q0 := cell_of_row w0 w.heap.size 0 _ _ _ hq0
  simp at q0
  have HRR : Hid (Rs w0 w.heap.size A l) := hR0.below hb0
  have HB0 := Lib.hid hb0
  have H0 := Lib.hid hw0
  have HN := Lib.hid hn
  obtain ⟨R, hR⟩ : ∃ R, R = leastU l 0 := ⟨_, rfl⟩
  rw [← hR]
  have HR := Lib.hid hR
  clear hR hw0 hb0 hq0 hn hR0
  go_enter Try.func30, Try.ntmps30
  go_upto_region 1 with (fail)
  rw [← H0.out]
  go_wp2_with fail
  go_loop [3] (fun i => ∃ k : Nat, k ≤ n ∧ i = .int .i64 (k : Int) ∧ Hid (∀ j e, j < k → l[j]? = some e → e.1 ≠ 1)) (fun i => n - (intOf i).toNat)
  case atStart => exact ⟨0, Nat.zero_le _, rfl, fun j y hj => absurd hj (Nat.not_lt_zero j)⟩
  case round =>
    obtain ⟨k, hk, rfl, HK⟩ := hrel
    by_cases hlt : k < n
    · obtain ⟨⟨s, m, a⟩, hy⟩ : ∃ e, l[k]? = some e := ⟨l[k]'(by rw [← HN.out]; exact hlt), List.getElem?_eq_getElem _⟩
      obtain ⟨b1, o1, rfl, hb1, ha1⟩ := HRR.out (by have := HN.out; omega)
      obtain ⟨d0, d1, d2⟩ := ha1 k _ hy
      simp only at d0 d1 d2
      have HY := Lib.hid hy
      clear hy ha1 hb1 d1 d2
      by_cases hs : s = 1
      · have HF : Hid (R = k + 1) := by
          simp only [Hid]
          rw [HR.out, leastU_at l 0 k _ HY.out hs HK.out]
          omega
        subst hs
        go_wp2
        go_ret
        refine ⟨?_, HB0.out⟩
        rw [HF.out]
        first | rfl | (simp; done) | (simp; omega)
      · go_wp2
        go_round
        case rel =>
          refine ⟨k + 1, by omega, by go_num, fun j z hj hz => ?_⟩
          by_cases hjk : j < k
          · exact HK.out j z hjk hz
          · have : j = k := by omega
            subst this
            rw [HY.out] at hz
            injection hz with hz
            subst hz
            exact hs
        case measure => simp [intOf] <;> omega
    · have hkn : k = n := by omega
      subst hkn
      have HF : Hid (R = 0) := by
        simp only [Hid]
        rw [HR.out]
        refine leastU_none l 0 fun e he => ?_
        obtain ⟨j, hj, rfl⟩ := List.getElem_of_mem he
        exact HK.out j _ (by have := HN.out; omega) (List.getElem?_eq_getElem hj)
      go_wp2
      go_ret
      refine ⟨?_, HB0.out⟩
      rw [HF.out]
      rfl
def S32 (w : World) (v : Value) (l : List Nat) : Prop := ∃ A c, v = .slice A l.length c ∧ (0 < l.length → ∃ b o, A = some ⟨b, o, none⟩ ∧ b < w.heap.size ∧ ∀ (j x : Nat), l[j]? = some x → w.cell? ⟨b, o + j, none⟩ = some (.int .u32 (x : Int)))
theorem S32.of_own {w : World} {base : Nat} {v : Value} {l : List Nat} (h : w.ownsRow base 29 1 v l.length (un l)) : S32 w v l := by
  rcases h.2 with ⟨rfl, h0⟩ | ⟨g, cap, cur, rfl, _, hh, _, _, _, ht⟩
  · exact ⟨none, 0, by rw [h0], fun hl => by omega⟩
  · refine ⟨_, cap, rfl, fun hl => ⟨g, 0, rfl, lt_of_block hh, fun j x hj => ?_⟩⟩
    have hjl := (List.getElem?_eq_some_iff.1 hj).1
    rw [cell_of_row w g _ _ _ _ hh, ← Array.getElem?_toList, Nat.zero_add]
    have e : (un l)[j]? = some (.int .u32 (x : Int)) := by simp [un, hj]
    rw [← e, ← ht, List.getElem?_take, if_pos (by omega)]
theorem S32.after {w w' : World} {v : Value} {l : List Nat} (h : S32 w v l) (hb : Below w.heap.size w w') : S32 w' v l := by
  obtain ⟨A, c, h1, h2⟩ := h
  refine ⟨A, c, h1, fun hl => ?_⟩
  obtain ⟨b, o, h3, h4, h5⟩ := h2 hl
  exact ⟨b, o, h3, Nat.lt_of_lt_of_le h4 hb.size, fun j x hj => (hb.cell (p := ⟨b, _, none⟩) h4).trans (h5 j x hj)⟩
set_option maxHeartbeats 4000000 in
theorem same_eq (v v' : Value) (l : List Nat) (w : World) (hl : l.length ≤ 1000) (h : S32 w v l) (h' : S32 w v' l) :
    Calls Try.prog 31 #[v, v'] w fun r w' => r = .returned (.bool true) ∧ Below w.heap.size w w' := by
  obtain ⟨A, c, rfl, h1⟩ := h
  obtain ⟨B, d, rfl, h2⟩ := h'
  obtain ⟨n, hn⟩ : ∃ n, n = l.length := ⟨_, rfl⟩
  rw [← hn] at h1 h2 hl ⊢
  have H1 := Lib.hid h1
  have H2 := Lib.hid h2
  have HN := Lib.hid hn
  have HBr : Hid (Below w.heap.size w w) := Below.refl _ _
  clear h1 h2 hn
  go_enter Try.func31, Try.ntmps31
  go_wp2_with fail
  go_loopw [5] (fun u wr => ∃ k : Nat, k ≤ n ∧ u = .int .i64 (k : Int) ∧ Hid (Below w.heap.size w wr)) (fun u _ => n - (intOf u).toNat)
  case atStart => exact ⟨0, by omega, rfl, HBr.out⟩
  case round =>
    obtain ⟨k, hk, rfl, HV⟩ := hrel
    by_cases hlt : k < n
    · obtain ⟨b1, o1, rfl, hb1, ha1⟩ := H1.out (by omega)
      obtain ⟨b2, o2, rfl, hb2, ha2⟩ := H2.out (by omega)
      obtain ⟨y, hy⟩ : ∃ y, l[k]? = some y := ⟨l[k]'(by rw [← HN.out]; exact hlt), List.getElem?_eq_getElem _⟩
      have d1 := (HV.out.cell (p := ⟨b1, _, none⟩) hb1).trans (ha1 k y hy)
      have d2 := (HV.out.cell (p := ⟨b2, _, none⟩) hb2).trans (ha2 k y hy)
      clear hy ha1 ha2 hb1 hb2
      go_upto_region 6 with (fail)
      go_quiet (fail)
      go_wp2_with fail
      go_roundw
      case rel => exact ⟨k + 1, by omega, by go_num, belowN HV.out⟩
      case measure => simp [intOf] <;> omega
    · have hkn : k = n := by omega
      subst hkn
      go_wp2
      go_ret
      exact ⟨rfl, HV.out⟩
end Go.Proofs.Ytddjbkaofodmlaa
